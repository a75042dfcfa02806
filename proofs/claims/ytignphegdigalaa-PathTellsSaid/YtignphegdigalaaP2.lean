/- strings.LastIndex of one byte; path.Parent, Base: what each call answers. -/
import Derived.Test.YtignphegdigalaaP1
namespace Go.Proofs.Ytignphegdigalaa
open Go.RowKit

/-- Behind which place a byte stands last, 0 if nowhere. -/
def lastN : List UInt8 → UInt8 → Nat
  | [], _ => 0
  | x :: a, c => if 0 < lastN a c then lastN a c + 1 else if x = c then 1 else 0
theorem lastN_of (c : UInt8) : ∀ (a : List UInt8) (n : Nat), n ≤ a.length → (∀ j, n ≤ j → j < a.length → a.getD j 0 ≠ c) → (0 < n → a.getD (n - 1) 0 = c) → lastN a c = n
  | [], n, h, _, _ => by simp at h; simp [lastN, h]
  | x :: a, 0, _, h2, _ => by
    have e : lastN a c = 0 := lastN_of c a 0 (by omega) (fun j _ hj => by simpa using h2 (j + 1) (by omega) (by simpa using hj)) (fun h => absurd h (by omega))
    have hx : x ≠ c := by simpa using h2 0 (by omega) (by simp)
    simp [lastN, e, hx]
  | x :: a, 1, h1, h2, h3 => by
    have e : lastN a c = 0 := lastN_of c a 0 (by omega) (fun j _ hj => by simpa using h2 (j + 1) (by omega) (by simpa using hj)) (fun h => absurd h (by omega))
    have hx : x = c := by simpa using h3 (by omega)
    simp [lastN, e, hx]
  | x :: a, n + 2, h1, h2, h3 => by
    have e : lastN a c = n + 1 := lastN_of c a (n + 1) (by simpa using h1) (fun j hj hl => by simpa using h2 (j + 1) (by omega) (by simpa using hl)) (fun _ => by simpa using h3 (by omega))
    simp [lastN, e]
theorem lastN_le (a : List UInt8) (c : UInt8) : lastN a c ≤ a.length := by
  induction a with
  | nil => simp [lastN]
  | cons x a ih => unfold lastN; split <;> (try split) <;> simp <;> omega

set_option maxHeartbeats 1000000 in
theorem lastbyte_any (a : List UInt8) (c : UInt8) (ha : a.length ≤ 1000000000) (w : World) :
    Calls Try.prog 71 #[.string (S a), .int .u8 (c.toNat : Int)] w fun e w' => e = .returned (.int .i64 ((lastN a c : Int) - 1)) ∧ w = w' := by
  have sa := S_size a
  go_enter Try.func71, Try.ntmps71
  go_wp2_with fail
  go_loopw [5] (fun v wr => ∃ n : Nat, n ≤ a.length ∧ v = .int .i64 ((n : Int) - 1) ∧ Hid (∀ j, n ≤ j → j < a.length → a.getD j 0 ≠ c) ∧ w = wr) (fun v _ => (intOf v + 1).toNat)
  case atStart => exact ⟨a.length, Nat.le_refl _, rfl, hid (fun j h1 h2 => absurd h2 (by omega)), rfl⟩
  case round =>
    obtain ⟨n, hn, rfl, hne, rfl⟩ := hrel
    by_cases h0 : 0 < n
    · obtain ⟨m, rfl⟩ : ∃ m, n = m + 1 := ⟨n - 1, by omega⟩
      have hx1 := fun W => str_index a m (by omega) W
      have em : ((m + 1 : Nat) : Int) - 1 = (m : Int) := by omega
      rw [em]
      obtain ⟨p, hp⟩ : ∃ p, p = a.getD m 0 := ⟨_, rfl⟩
      rw [← hp] at hx1
      by_cases hpc : p = c
      · have hl := hid (lastN_of c a (m + 1) hn hne.out (fun _ => by rw [Nat.add_sub_cancel, ← hp, hpc]))
        subst hpc
        clear hp hne em
        go_wp2_with fail
        go_ret
        exact ⟨by rw [hl.out]; show Ending.returned (Value.int .i64 (m : Int)) = _; congr 2; omega, rfl⟩
      · have hne2 := hid (show ∀ j, m ≤ j → j < a.length → a.getD j 0 ≠ c from fun j h1 h2 => by
          rcases Nat.lt_or_ge m j with h | h
          · exact hne.out j (by omega) h2
          · rw [show j = m by omega, ← hp]; exact hpc)
        have hb : ((p.toNat : Int) == (c.toNat : Int)) = false := by
          have : p.toNat ≠ c.toNat := fun e => hpc (UInt8.toNat_inj.1 e)
          simpa using fun e => this (by omega)
        clear hp hne hpc em
        go_wp2_with fail
        exact ⟨⟨m, by omega, rfl, hne2, by first | rfl | trivial⟩, by first | (simp [intOf]; done) | (simp [intOf]; omega)⟩
    · obtain rfl : n = 0 := by omega
      have hl := hid (lastN_of c a 0 (by omega) hne.out (fun h => absurd h (by omega)))
      clear hne h0
      go_wp2
      go_ret
      exact ⟨by rw [hl.out]; rfl, rfl⟩

theorem lastindex_any (a : List UInt8) (c : UInt8) (ha : a.length ≤ 1000000000) (w : World) :
    Calls Try.prog 56 #[.string (S a), .string (S [c])] w fun e w' => e = .returned (.int .i64 ((lastN a c : Int) - 1)) ∧ w = w' := by
  have h := hid (lastbyte_any a c ha w)
  have hx1 := fun W => str_index [c] 0 (by simp) W
  have sc : (S [c]).size = 1 := S_size [c]
  rw [show [c].getD 0 0 = c from rfl, show ((0 : Nat) : Int) = 0 from rfl] at hx1
  go_enter Try.func56, Try.ntmps56
  go_wp2_with fail
  refine h.out.mono ?_
  rintro e w' ⟨rfl, rfl⟩
  go_wp2
  go_ret
  exact ⟨rfl, rfl⟩

/-- All ahead of the last separator, and all behind it. -/
def parentL (p : List UInt8) : List UInt8 := p.take (lastN p 47 - 1)
def baseL (p : List UInt8) : List UInt8 := p.drop (lastN p 47)
theorem parent_any (p : List UInt8) (hp : p.length ≤ 1000000000) (w : World) :
    Calls Try.prog 22 #[.string (S p)] w fun e w' => e = .returned (.string (S (parentL p))) ∧ w = w' := by
  have h := hid (lastindex_any p 47 hp w)
  have hl := lastN_le p 47
  have hc := fun W => cut_to p (lastN p 47 - 1) (by omega) W
  have hr := hid (show parentL p = p.take (lastN p 47 - 1) from rfl)
  rw [show S [47] = ⟨#[47]⟩ from rfl] at h
  obtain ⟨n, hn⟩ : ∃ n, n = lastN p 47 := ⟨_, rfl⟩
  rw [← hn] at h hc hr hl
  clear hn
  by_cases h0 : n = 0
  · subst h0
    go_enter Try.func22, Try.ntmps22
    go_wp2_with fail
    refine h.out.mono ?_
    rintro e w' ⟨rfl, rfl⟩
    go_wp2
    go_ret
    exact ⟨by rw [hr.out]; rfl, rfl⟩
  · obtain ⟨m, rfl⟩ : ∃ m, n = m + 1 := ⟨n - 1, by omega⟩
    rw [show ((m + 1 : Nat) : Int) - 1 = (m : Int) by omega] at h
    rw [Nat.add_sub_cancel] at hc hr
    have hm : ¬ (m : Int) < 0 := by omega
    clear h0
    go_enter Try.func22, Try.ntmps22
    go_wp2_with fail
    refine h.out.mono ?_
    rintro e w' ⟨rfl, rfl⟩
    go_wp2
    go_ret
    exact ⟨by rw [hr.out]; rfl, rfl⟩
theorem base_any (p : List UInt8) (hp : p.length ≤ 1000000000) (w : World) :
    Calls Try.prog 23 #[.string (S p)] w fun e w' => e = .returned (.string (S (baseL p))) ∧ w = w' := by
  have h := hid (lastindex_any p 47 hp w)
  have hl := lastN_le p 47
  have hc := fun W => cut_from p (lastN p 47) hl W
  have hr := hid (show baseL p = p.drop (lastN p 47) from rfl)
  rw [show S [47] = ⟨#[47]⟩ from rfl] at h
  obtain ⟨n, hn⟩ : ∃ n, n = lastN p 47 := ⟨_, rfl⟩
  rw [← hn] at h hc hr hl
  have e1 : (n : Int) - 1 + 1 = (n : Int) := by omega
  clear hn
  go_enter Try.func23, Try.ntmps23
  go_wp2_with fail
  refine h.out.mono ?_
  rintro e w' ⟨rfl, rfl⟩
  go_wp2
  go_ret
  exact ⟨by rw [hr.out]; rfl, rfl⟩
end Go.Proofs.Ytignphegdigalaa
