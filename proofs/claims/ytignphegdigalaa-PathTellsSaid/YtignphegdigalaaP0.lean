/- path: rank, Less, Join: what each call answers; texts as lists of bytes. -/
import Derived.Test.YtignphegdigalaaRows
import Derived.Test.YtignphegdigalaaC0
import Derived.WalkSpells
import Derived.Test.YtignphegdigalaaHW
import Derived.Deep.DeepCutAuto
import Derived.Deep.QuietTactic
namespace Go.Proofs.Ytignphegdigalaa
open Go.RowKit

/-- A text of bytes. -/
def S (l : List UInt8) : ByteArray := ⟨l.toArray⟩
theorem S_size (l : List UInt8) : (S l).size = l.length := by simp [S, ByteArray.size]
theorem S_inj {a b : List UInt8} (h : S a = S b) : a = b := by
  unfold S at h
  have := congrArg (fun s : ByteArray => s.data.toList) h
  simpa using this
theorem S_append (a b : List UInt8) : S a ++ S b = S (a ++ b) := by
  unfold S
  apply ByteArray.ext
  simp
theorem str_index (bs : List UInt8) (i : Nat) (hi : i < bs.length) (W : World) : (Instr.index 9 (.string (S bs)) (.int .i64 (i : Int))).run Try.prog W = .ok (.int .u8 ((bs.getD i 0).toNat : Int)) W := by
  have h0 : (0 : Int) ≤ (i : Int) := by omega
  have h : (⟨bs.toArray⟩ : ByteArray)[i]? = some (bs.getD i 0) := by
    show (bs.toArray)[i]? = _
    simp [hi]
  simp [S, Instr.index, asIntOf, run_underlying Try.underlying9, Sem.run_bind, h]

/-- Where a byte stands: a separator ahead of all. -/
def rk (c : UInt8) : Int := if c = 47 then -1 else (c.toNat : Int)
/-- One path ahead of another one. -/
def pless : List UInt8 → List UInt8 → Bool
  | [], [] => false
  | [], _ :: _ => true
  | _ :: _, [] => false
  | a :: x, b :: y => if a = b then pless x y else decide (rk a < rk b)

theorem pless_split : ∀ (a b : List UInt8) (i : Nat), i ≤ a.length → i ≤ b.length → (∀ j, j < i → a.getD j 0 = b.getD j 0) → pless a b = pless (a.drop i) (b.drop i)
  | _, _, 0, _, _, _ => rfl
  | [], _, i + 1, h, _, _ => by simp at h
  | _ :: _, [], i + 1, _, h, _ => by simp at h
  | x :: a, y :: b, i + 1, h1, h2, h => by
    have h0 := h 0 (by omega)
    simp at h0
    subst h0
    rw [List.drop_succ_cons, List.drop_succ_cons, ← pless_split a b i (by simpa using h1) (by simpa using h2) (fun j hj => by simpa using h (j + 1) (by omega))]
    show (if x = x then pless a b else _) = _
    rw [if_pos rfl]

theorem pless_at (a b : List UInt8) (i : Nat) (h1 : i < a.length) (h2 : i < b.length) (h : ∀ j, j < i → a.getD j 0 = b.getD j 0) (hne : a.getD i 0 ≠ b.getD i 0) : pless a b = decide (rk (a.getD i 0) < rk (b.getD i 0)) := by
  rw [pless_split a b i (by omega) (by omega) h, List.drop_eq_getElem_cons h1, List.drop_eq_getElem_cons h2]
  have e1 : a.getD i 0 = a[i] := by simp [List.getD, h1]
  have e2 : b.getD i 0 = b[i] := by simp [List.getD, h2]
  rw [e1, e2] at hne ⊢
  show (if a[i] = b[i] then _ else _) = _
  rw [if_neg hne]
theorem pless_end (a b : List UInt8) (m : Nat) (hm : m = min a.length b.length) (h : ∀ j, j < m → a.getD j 0 = b.getD j 0) : pless a b = decide (a.length < b.length) := by
  rw [pless_split a b m (by omega) (by omega) h]
  by_cases h1 : a.length < b.length
  · have e : m = a.length := by omega
    subst e
    rw [List.drop_length, List.drop_eq_getElem_cons (by omega)]
    simp [pless, h1]
  · have e : m = b.length := by omega
    subst e
    rw [List.drop_length]
    rcases hd : a.drop b.length with _ | ⟨x, xs⟩ <;> simp [pless, h1]
theorem rank_any (c : UInt8) (w : World) : Calls Try.prog 57 #[.int .u8 (c.toNat : Int)] w fun e w' => e = .returned (.int .i64 (rk c)) ∧ w = w' := by
  have e47 : ((⟨#[47]⟩ : ByteArray)[0]'(by decide)).toNat = 47 := rfl
  have hcb := c.toNat_lt
  by_cases h : c = 47
  · have e : rk c = -1 := by unfold rk; rw [if_pos h]
    rw [e, h]
    clear e h
    go_enter Try.func57, Try.ntmps57
    go_wp2
    go_ret
    exact ⟨rfl, rfl⟩
  · have e : rk c = (c.toNat : Int) := by unfold rk; rw [if_neg h]
    rw [e]
    have hne : c.toNat ≠ 47 := fun e => h (UInt8.toNat_inj.1 e)
    obtain ⟨n, hn⟩ : ∃ n, n = c.toNat := ⟨_, rfl⟩
    rw [← hn] at hcb hne ⊢
    have hb : ((n : Int) == 47) = false := by simp; omega
    clear e h hn hne
    go_enter Try.func57, Try.ntmps57
    go_wp2
    go_ret
    exact ⟨rfl, rfl⟩

set_option maxRecDepth 100000 in
set_option maxHeartbeats 1000000 in
theorem less_any (a b : List UInt8) (ha : a.length ≤ 1000000000) (hb : b.length ≤ 1000000000) (w : World) :
    Calls Try.prog 25 #[.string (S a), .string (S b)] w fun e w' => e = .returned (.bool (pless a b)) ∧ Kept [] w w' := by
  have sa := S_size a; have sb := S_size b
  obtain ⟨m, hm⟩ : ∃ m, m = min a.length b.length := ⟨_, rfl⟩
  have hm1 : m ≤ a.length := by omega
  have hm2 : m ≤ b.length := by omega
  have hmin : min (a.length : Int) (b.length : Int) = (m : Int) := by omega
  have Hm := hid hm
  clear hm
  go_enter Try.func25, Try.ntmps25
  go_upto_region 1 with fail
  go_cut [10, 11] (fun s10 s11 wx => s10 = .int .i64 (m : Int) ∧ s11 = .int .i64 0 ∧ w = wx)
  case first =>
    go_wp2_with fail
    all_goals
      go_meet
      refine ⟨?_, rfl, rfl⟩
      congr 1
      have := Hm.out
      omega
  case rest =>
    obtain ⟨rfl, rfl, rfl⟩ := hcut
    go_wp2_with fail
    go_loopw [11] (fun j wr => ∃ i : Nat, i ≤ m ∧ j = .int .i64 i ∧ Hid (∀ j, j < i → a.getD j 0 = b.getD j 0) ∧ Hid (Kept [] w wr)) (fun j _ => m - (intOf j).toNat)
    case atStart => exact ⟨0, by omega, rfl, hid (fun j hj => absurd hj (by omega)), hid (Kept.refl [] w)⟩
    case round =>
      obtain ⟨i, hi, rfl, heq, hk⟩ := hrel
      by_cases hlt : i < m
      · have hx1 := fun W => str_index a i (by omega) W
        have hx2 := fun W => str_index b i (by omega) W
        obtain ⟨p, hp⟩ : ∃ p, p = a.getD i 0 := ⟨_, rfl⟩
        obtain ⟨q, hq⟩ : ∃ q, q = b.getD i 0 := ⟨_, rfl⟩
        rw [← hp] at hx1; rw [← hq] at hx2
        have hkd := hid hk.out.drew
        by_cases hpq : p = q
        · have heq' := hid (show ∀ j, j < i + 1 → a.getD j 0 = b.getD j 0 from fun j hj => by
            rcases Nat.lt_or_ge j i with h | h
            · exact heq.out j h
            · rw [show j = i by omega, ← hp, ← hq, hpq])
          subst hpq
          clear hp hq heq hk
          go_wp2_with fail
          go_region
          go_wp2_with fail
          exact ⟨⟨i + 1, by omega, by go_num, heq', hkd⟩, by simp [intOf]; omega⟩
        · have hl := hid (pless_at a b i (by omega) (by omega) heq.out (by rw [← hp, ← hq]; exact hpq))
          rw [← hp, ← hq] at hl
          have hne : ((p.toNat : Int) == (q.toNat : Int)) = false := by
            have : p.toNat ≠ q.toNat := fun e => hpq (UInt8.toNat_inj.1 e)
            simpa using fun e => this (by omega)
          have hk2 := hid (fun n => hkd.out.drewN n)
          have rkp := hid (fun (c : UInt8) W => (rank_any c W).mono fun _ _ h => (⟨h.1, h.2.symm⟩ : _ ∧ _))
          clear hp hq heq hk hpq
          go_wp2_with fail
          go_region
          obtain ⟨W4, hW4⟩ : ∃ W4, W4 = wr.drew := ⟨_, rfl⟩
          rw [← hW4] at hkd ⊢
          have hk3 := hid (fun n => hkd.out.drewN n)
          clear hk2 hW4
          go_wp2_with fail
          go_quiet ((go_at_call 57; exact Calls.quiet_of_same (rkp.out _ _)))
          go_wp2
          go_ret
          exact ⟨by rw [hl.out]; rfl, hk3.out _⟩
      · obtain rfl : i = m := by omega
        have hl := hid (pless_end a b i Hm.out heq.out)
        clear heq
        go_wp2
        go_ret
        exact ⟨by rw [hl.out]; first | rfl | simp, hk.out⟩
end Go.Proofs.Ytignphegdigalaa
