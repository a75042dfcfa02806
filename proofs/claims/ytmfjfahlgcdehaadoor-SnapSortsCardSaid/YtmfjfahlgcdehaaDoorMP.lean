import Derived.Test.YtmfjfahlgcdehaaDoorRows
import Derived.Test.YtmfjfahlgcdehaaDoorC0
import Derived.WalkSpells
import Derived.Test.YtmfjfahlgcdehaaDoorHW
import Derived.Deep.DeepCutAuto
import Derived.Deep.QuietTactic
import Derived.Lib.Strings
import Derived.Laws.Externs
import Derived.Laws.Runes
import Derived.Lib.Bytealg
import Derived.RangeFuncNested
import Derived.RangeFuncBound
import Derived.RangeFuncCalls
import Derived.RangeFuncLeaves
import Derived.Shelf.Abstract
import Derived.OwnWalkIn
import Derived.TacticsInMore
import Derived.LoopNIn
import Derived.LoopIn

/- path: rank, Less, Join: what each call answers; texts as lists of bytes. -/
namespace Go.Proofs.YtmfjfahlgcdehaaDoor
open Go.RowKit

/-- A text of bytes. -/
def S (l : List UInt8) : ByteArray := ⟨l.toArray⟩
theorem S_size (l : List UInt8) : (S l).size = l.length := by simp [S, ByteArray.size]
theorem S_inj {a b : List UInt8} (h : S a = S b) : a = b := by
  unfold S at h
  have := congrArg (fun s : ByteArray => s.data.toList) h
  simpa using this
theorem S_append (a b : List UInt8) : S a ++ S b = S (a ++ b) := by
  unfold S
  apply ByteArray.ext
  simp
theorem str_index (bs : List UInt8) (i : Nat) (hi : i < bs.length) (W : World) : (Instr.index 9 (.string (S bs)) (.int .i64 (i : Int))).run Tryd.prog W = .ok (.int .u8 ((bs.getD i 0).toNat : Int)) W := by
  have h0 : (0 : Int) ≤ (i : Int) := by omega
  have h : (⟨bs.toArray⟩ : ByteArray)[i]? = some (bs.getD i 0) := by
    show (bs.toArray)[i]? = _
    simp [hi]
  simp [S, Instr.index, asIntOf, run_underlying Tryd.underlying9, Sem.run_bind, h]

/-- Where a byte stands: a separator ahead of all. -/
def rk (c : UInt8) : Int := if c = 47 then -1 else (c.toNat : Int)
/-- One path ahead of another one. -/
def pless : List UInt8 → List UInt8 → Bool
  | [], [] => false
  | [], _ :: _ => true
  | _ :: _, [] => false
  | a :: x, b :: y => if a = b then pless x y else decide (rk a < rk b)

theorem pless_split : ∀ (a b : List UInt8) (i : Nat), i ≤ a.length → i ≤ b.length → (∀ j, j < i → a.getD j 0 = b.getD j 0) → pless a b = pless (a.drop i) (b.drop i)
  | _, _, 0, _, _, _ => rfl
  | [], _, i + 1, h, _, _ => by simp at h
  | _ :: _, [], i + 1, _, h, _ => by simp at h
  | x :: a, y :: b, i + 1, h1, h2, h => by
    have h0 := h 0 (by omega)
    simp at h0
    subst h0
    rw [List.drop_succ_cons, List.drop_succ_cons, ← pless_split a b i (by simpa using h1) (by simpa using h2) (fun j hj => by simpa using h (j + 1) (by omega))]
    show (if x = x then pless a b else _) = _
    rw [if_pos rfl]

theorem pless_at (a b : List UInt8) (i : Nat) (h1 : i < a.length) (h2 : i < b.length) (h : ∀ j, j < i → a.getD j 0 = b.getD j 0) (hne : a.getD i 0 ≠ b.getD i 0) : pless a b = decide (rk (a.getD i 0) < rk (b.getD i 0)) := by
  rw [pless_split a b i (by omega) (by omega) h, List.drop_eq_getElem_cons h1, List.drop_eq_getElem_cons h2]
  have e1 : a.getD i 0 = a[i] := by simp [List.getD, h1]
  have e2 : b.getD i 0 = b[i] := by simp [List.getD, h2]
  rw [e1, e2] at hne ⊢
  show (if a[i] = b[i] then _ else _) = _
  rw [if_neg hne]
theorem pless_end (a b : List UInt8) (m : Nat) (hm : m = min a.length b.length) (h : ∀ j, j < m → a.getD j 0 = b.getD j 0) : pless a b = decide (a.length < b.length) := by
  rw [pless_split a b m (by omega) (by omega) h]
  by_cases h1 : a.length < b.length
  · have e : m = a.length := by omega
    subst e
    rw [List.drop_length, List.drop_eq_getElem_cons (by omega)]
    simp [pless, h1]
  · have e : m = b.length := by omega
    subst e
    rw [List.drop_length]
    rcases hd : a.drop b.length with _ | ⟨x, xs⟩ <;> simp [pless, h1]
end Go.Proofs.YtmfjfahlgcdehaaDoor


/- strings.HasPrefix, CutPrefix; path.Join, Within: what each call answers. -/
namespace Go.Proofs.YtmfjfahlgcdehaaDoor
open Go.RowKit

theorem S_toList (x : List UInt8) : (S x).toList = x := by
  rw [Lib.toList_data]; simp [S]
theorem S_beq (x y : List UInt8) : ((S x).toList == (S y).toList) = decide (x = y) := by
  rw [S_toList, S_toList]
  by_cases h : x = y
  · subst h; simp
  · rw [decide_eq_false h]; simpa using h
theorem S_extract (l : List UInt8) (a b : Nat) : (S l).extract a b = S ((l.take b).drop a) := by
  apply ByteArray.ext
  rw [ByteArray.data_extract]
  apply Array.ext'
  simp [S, List.drop_take]
theorem cut_to (l : List UInt8) (n : Nat) (h : n ≤ l.length) (W : World) : (Instr.sliceAt 9 (.string (S l)) none (some (.int .i64 (n : Int))) none).run Tryd.prog W = .ok (.string (S (l.take n))) W := by
  rw [run_sliceAt_string W 9 _ _ _ _ Tryd.underlying9, run_slice_string_h W 9 _ Tryd.underlying9 .i64 (n : Int) (by omega) (by rw [S_size]; omega), S_extract]
  simp
theorem cut_from (l : List UInt8) (n : Nat) (h : n ≤ l.length) (W : World) : (Instr.sliceAt 9 (.string (S l)) (some (.int .i64 (n : Int))) none none).run Tryd.prog W = .ok (.string (S (l.drop n))) W := by
  rw [run_sliceAt_string W 9 _ _ _ _ Tryd.underlying9, run_slice_string_l W 9 _ Tryd.underlying9 .i64 (n : Int) (by omega) (by rw [S_size]; omega), S_extract, S_size]
  simp

/-- A text begins so. -/
def pref (p a : List UInt8) : Bool := decide (a.take p.length = p)
theorem pref_len {p a : List UInt8} (h : pref p a = true) : p.length ≤ a.length := by
  have := congrArg List.length (of_decide_eq_true h)
  simp at this; omega

/-- A text is in a directory. -/
def within (p dir : List UInt8) : Bool := dir.isEmpty || (pref dir p && pref [47] (p.drop dir.length))
/-- A directory's name in it. -/
def joinL (d n : List UInt8) : List UInt8 := if d = [] then n else d ++ 47 :: n
end Go.Proofs.YtmfjfahlgcdehaaDoor


/- strings.LastIndex of one byte; path.Parent, Base: what each call answers. -/
namespace Go.Proofs.YtmfjfahlgcdehaaDoor
open Go.RowKit

/-- Behind which place a byte stands last, 0 if nowhere. -/
def lastN : List UInt8 → UInt8 → Nat
  | [], _ => 0
  | x :: a, c => if 0 < lastN a c then lastN a c + 1 else if x = c then 1 else 0
theorem lastN_of (c : UInt8) : ∀ (a : List UInt8) (n : Nat), n ≤ a.length → (∀ j, n ≤ j → j < a.length → a.getD j 0 ≠ c) → (0 < n → a.getD (n - 1) 0 = c) → lastN a c = n
  | [], n, h, _, _ => by simp at h; simp [lastN, h]
  | x :: a, 0, _, h2, _ => by
    have e : lastN a c = 0 := lastN_of c a 0 (by omega) (fun j _ hj => by simpa using h2 (j + 1) (by omega) (by simpa using hj)) (fun h => absurd h (by omega))
    have hx : x ≠ c := by simpa using h2 0 (by omega) (by simp)
    simp [lastN, e, hx]
  | x :: a, 1, h1, h2, h3 => by
    have e : lastN a c = 0 := lastN_of c a 0 (by omega) (fun j _ hj => by simpa using h2 (j + 1) (by omega) (by simpa using hj)) (fun h => absurd h (by omega))
    have hx : x = c := by simpa using h3 (by omega)
    simp [lastN, e, hx]
  | x :: a, n + 2, h1, h2, h3 => by
    have e : lastN a c = n + 1 := lastN_of c a (n + 1) (by simpa using h1) (fun j hj hl => by simpa using h2 (j + 1) (by omega) (by simpa using hl)) (fun _ => by simpa using h3 (by omega))
    simp [lastN, e]
theorem lastN_le (a : List UInt8) (c : UInt8) : lastN a c ≤ a.length := by
  induction a with
  | nil => simp [lastN]
  | cons x a ih => unfold lastN; split <;> (try split) <;> simp <;> omega

set_option maxHeartbeats 1000000 in
theorem lastbyte_any (a : List UInt8) (c : UInt8) (ha : a.length ≤ 1000000000) (w : World) :
    Calls Tryd.prog 120 #[.string (S a), .int .u8 (c.toNat : Int)] w fun e w' => e = .returned (.int .i64 ((lastN a c : Int) - 1)) ∧ w = w' := by
  have sa := S_size a
  go_enter Tryd.func120, Tryd.ntmps120
  go_wp2_with fail
  go_loopw [5] (fun v wr => ∃ n : Nat, n ≤ a.length ∧ v = .int .i64 ((n : Int) - 1) ∧ Hid (∀ j, n ≤ j → j < a.length → a.getD j 0 ≠ c) ∧ w = wr) (fun v _ => (intOf v + 1).toNat)
  case atStart => exact ⟨a.length, Nat.le_refl _, rfl, hid (fun j h1 h2 => absurd h2 (by omega)), rfl⟩
  case round =>
    obtain ⟨n, hn, rfl, hne, rfl⟩ := hrel
    by_cases h0 : 0 < n
    · obtain ⟨m, rfl⟩ : ∃ m, n = m + 1 := ⟨n - 1, by omega⟩
      have hx1 := fun W => str_index a m (by omega) W
      have em : ((m + 1 : Nat) : Int) - 1 = (m : Int) := by omega
      rw [em]
      obtain ⟨p, hp⟩ : ∃ p, p = a.getD m 0 := ⟨_, rfl⟩
      rw [← hp] at hx1
      by_cases hpc : p = c
      · have hl := hid (lastN_of c a (m + 1) hn hne.out (fun _ => by rw [Nat.add_sub_cancel, ← hp, hpc]))
        subst hpc
        clear hp hne em
        go_wp2_with fail
        go_ret
        exact ⟨by rw [hl.out]; show Ending.returned (Value.int .i64 (m : Int)) = _; congr 2; omega, rfl⟩
      · have hne2 := hid (show ∀ j, m ≤ j → j < a.length → a.getD j 0 ≠ c from fun j h1 h2 => by
          rcases Nat.lt_or_ge m j with h | h
          · exact hne.out j (by omega) h2
          · rw [show j = m by omega, ← hp]; exact hpc)
        have hb : ((p.toNat : Int) == (c.toNat : Int)) = false := by
          have : p.toNat ≠ c.toNat := fun e => hpc (UInt8.toNat_inj.1 e)
          simpa using fun e => this (by omega)
        clear hp hne hpc em
        go_wp2_with fail
        exact ⟨⟨m, by omega, rfl, hne2, by first | rfl | trivial⟩, by first | (simp [intOf]; done) | (simp [intOf]; omega)⟩
    · obtain rfl : n = 0 := by omega
      have hl := hid (lastN_of c a 0 (by omega) hne.out (fun h => absurd h (by omega)))
      clear hne h0
      go_wp2
      go_ret
      exact ⟨by rw [hl.out]; rfl, rfl⟩

theorem lastindex_any (a : List UInt8) (c : UInt8) (ha : a.length ≤ 1000000000) (w : World) :
    Calls Tryd.prog 113 #[.string (S a), .string (S [c])] w fun e w' => e = .returned (.int .i64 ((lastN a c : Int) - 1)) ∧ w = w' := by
  have h := hid (lastbyte_any a c ha w)
  have hx1 := fun W => str_index [c] 0 (by simp) W
  have sc : (S [c]).size = 1 := S_size [c]
  rw [show [c].getD 0 0 = c from rfl, show ((0 : Nat) : Int) = 0 from rfl] at hx1
  go_enter Tryd.func113, Tryd.ntmps113
  go_wp2_with fail
  refine h.out.mono ?_
  rintro e w' ⟨rfl, rfl⟩
  go_wp2
  go_ret
  exact ⟨rfl, rfl⟩

/-- All ahead of the last separator, and all behind it. -/
def parentL (p : List UInt8) : List UInt8 := p.take (lastN p 47 - 1)
def baseL (p : List UInt8) : List UInt8 := p.drop (lastN p 47)
theorem base_any (p : List UInt8) (hp : p.length ≤ 1000000000) (w : World) :
    Calls Tryd.prog 95 #[.string (S p)] w fun e w' => e = .returned (.string (S (baseL p))) ∧ w = w' := by
  have h := hid (lastindex_any p 47 hp w)
  have hl := lastN_le p 47
  have hc := fun W => cut_from p (lastN p 47) hl W
  have hr := hid (show baseL p = p.drop (lastN p 47) from rfl)
  rw [show S [47] = ⟨#[47]⟩ from rfl] at h
  obtain ⟨n, hn⟩ : ∃ n, n = lastN p 47 := ⟨_, rfl⟩
  rw [← hn] at h hc hr hl
  have e1 : (n : Int) - 1 + 1 = (n : Int) := by omega
  clear hn
  go_enter Tryd.func95, Tryd.ntmps95
  go_wp2_with fail
  refine h.out.mono ?_
  rintro e w' ⟨rfl, rfl⟩
  go_wp2
  go_ret
  exact ⟨by rw [hr.out]; rfl, rfl⟩
end Go.Proofs.YtmfjfahlgcdehaaDoor


/- strings.IndexByte, strings.Cut of one byte; path.isPartByte, isPart: what each call answers. -/
namespace Go.Proofs.YtmfjfahlgcdehaaDoor
open Go.RowKit

/-- What stands ahead of the first such byte, what behind it, and is there one. -/
def cutS : List UInt8 → UInt8 → List UInt8 × List UInt8 × Bool
  | [], _ => ([], [], false)
  | x :: a, c => if x = c then ([], a, true) else (x :: (cutS a c).1, (cutS a c).2.1, (cutS a c).2.2)
def idxS (a : List UInt8) (c : UInt8) : Int := if (cutS a c).2.2 = true then ((cutS a c).1.length : Int) else -1
theorem cutS_false : ∀ (a : List UInt8) (c : UInt8), (cutS a c).2.2 = false → cutS a c = (a, [], false)
  | [], _, _ => rfl
  | x :: a, c, h => by
    unfold cutS at h ⊢
    split
    · rename_i hx; rw [if_pos hx] at h; simp at h
    · rename_i hx
      rw [if_neg hx] at h
      rw [cutS_false a c h]
theorem cutS_true : ∀ (a : List UInt8) (c : UInt8), (cutS a c).2.2 = true → a = (cutS a c).1 ++ c :: (cutS a c).2.1
  | [], _, h => by simp [cutS] at h
  | x :: a, c, h => by
    unfold cutS at h ⊢
    split
    · rename_i hx; simp [hx]
    · rename_i hx
      rw [if_neg hx] at h
      have := cutS_true a c h
      simp only [List.cons_append]
      rw [← this]
theorem idxS_eq : ∀ (a : List UInt8) (c : UInt8), Lib.indexByte a c = idxS a c
  | [], _ => rfl
  | x :: a, c => by
    have ih := idxS_eq a c
    unfold Lib.indexByte
    by_cases hx : x = c
    · have : (x == c) = true := by simpa using hx
      rw [if_pos this]
      unfold idxS cutS
      simp [hx]
    · have hx' : ¬ (x == c) = true := by simpa using hx
      rw [if_neg hx', ih]
      have e : cutS (x :: a) c = (x :: (cutS a c).1, (cutS a c).2.1, (cutS a c).2.2) := by
        show (if x = c then _ else _) = _
        rw [if_neg hx]
      unfold idxS
      rw [e]
      by_cases hf : (cutS a c).2.2 = true
      · have hn : ¬ ((((cutS a c).1.length : Int)) == -1) = true := by first | (simp; done) | (simp; omega)
        simp only [hf, if_true, if_neg hn, List.length_cons]
        first | rfl | omega
      · simp [hf]

theorem call_index (args : Array Value) (w : World) : (callFunc 132 args).run Tryd.prog w = ((Extern.BytealgIndexByte.indexByte args).run Tryd.prog w).andThen fun v w' => .ok (.value v) w' :=
  run_callFunc_extern Tryd.func132 (by kernel_rfl) (by kernel_rfl) (by kernel_rfl) (by kernel_rfl) args w

theorem indexbyte0 (a : List UInt8) (c : UInt8) (w : World) :
    Calls Tryd.prog 128 #[.string (S a), .int .u8 (c.toNat : Int)] w fun e w' => e = .returned (.int .i64 (idxS a c)) ∧ w = w' := by
  have hcf : (callFunc 132 #[.string (S a), .int .u8 (c.toNat : Int)]).run Tryd.prog w = .ok (.value (.int .i64 (idxS a c))) w := by
    rw [call_index, run_indexByte_string, Lib.firstIdx_eq, ← idxS_eq]
    have e : ((c.toNat : Int).toNat).toUInt8 = c := by simp
    rw [e]
    simp [S, Result.andThen]
  go_enter Tryd.func128, Tryd.ntmps128
  go_wp2
  go_ret
  exact ⟨rfl, rfl⟩
theorem indexbyte_any (a : List UInt8) (c : UInt8) (w : World) :
    Calls Tryd.prog 125 #[.string (S a), .int .u8 (c.toNat : Int)] w fun e w' => e = .returned (.int .i64 (idxS a c)) ∧ w = w' := by
  have h := hid (indexbyte0 a c w)
  go_enter Tryd.func125, Tryd.ntmps125
  go_wp2_with fail
  refine h.out.mono ?_
  rintro e w' ⟨rfl, rfl⟩
  go_wp2
  go_ret
  exact ⟨rfl, rfl⟩
theorem index_any (a : List UInt8) (c : UInt8) (w : World) :
    Calls Tryd.prog 127 #[.string (S a), .string (S [c])] w fun e w' => e = .returned (.int .i64 (idxS a c)) ∧ w = w' := by
  have h := hid (indexbyte0 a c w)
  have hx1 := fun W => str_index [c] 0 (by simp) W
  have sc : (S [c]).size = 1 := S_size [c]
  have hb := S_beq [c] a
  rw [show [c].getD 0 0 = c from rfl, show ((0 : Nat) : Int) = 0 from rfl] at hx1
  by_cases ha : [c] = a
  · have hr := hid (show idxS a c = 0 by rw [← ha]; simp [idxS, cutS])
    rw [decide_eq_true ha] at hb
    clear ha
    go_enter Tryd.func127, Tryd.ntmps127
    go_wp2
    go_ret
    exact ⟨by rw [hr.out]; rfl, rfl⟩
  · rw [decide_eq_false ha] at hb
    clear ha
    go_enter Tryd.func127, Tryd.ntmps127
    go_wp2_with fail
    refine h.out.mono ?_
    rintro e w' ⟨rfl, rfl⟩
    go_wp2
    go_ret
    exact ⟨rfl, rfl⟩
theorem cut0 (a : List UInt8) (c : UInt8) (ha : a.length ≤ 1000000000) (w : World) :
    Calls Tryd.prog 124 #[.string (S a), .string (S [c])] w fun e w' => e = .returned (.tuple #[.string (S (cutS a c).1), .string (S (cutS a c).2.1), .bool (cutS a c).2.2]) ∧ ∃ m, w' = w.drewN m := by
  have h := hid (index_any a c w)
  have sc : (S [c]).size = 1 := S_size [c]
  by_cases hf : (cutS a c).2.2 = true
  · have hsp := cutS_true a c hf
    have hi : idxS a c = ((cutS a c).1.length : Int) := by unfold idxS; rw [if_pos hf]
    obtain ⟨u, hu⟩ : ∃ u, u = (cutS a c).1 := ⟨_, rfl⟩
    obtain ⟨v, hv⟩ : ∃ v, v = (cutS a c).2.1 := ⟨_, rfl⟩
    rw [← hu, ← hv] at hsp
    rw [← hu] at hi
    rw [← hu, ← hv, hf]
    have hlen : a.length = u.length + 1 + v.length := by rw [hsp]; simp; omega
    have hc1 := fun W => cut_to a u.length (by omega) W
    have hc2 := fun W => cut_from a (u.length + 1) (by omega) W
    have e1 : a.take u.length = u := by rw [hsp]; simp
    have e2 : a.drop (u.length + 1) = v := by rw [hsp, ← List.drop_drop]; simp
    rw [e1] at hc1; rw [e2] at hc2
    rw [show ((u.length + 1 : Nat) : Int) = (u.length : Int) + 1 by omega] at hc2
    rw [hi] at h
    obtain ⟨n, hn⟩ : ∃ n, n = u.length := ⟨_, rfl⟩
    rw [← hn] at h hc1 hc2 hlen
    have hw1 : IntKind.i64.wrap ((n : Int) + 1) = (n : Int) + 1 := IntWalk.i64_in _ (by omega)
    clear hf hsp hu hv e1 e2 hi hn
    go_enter Tryd.func124, Tryd.ntmps124
    go_wp2_with fail
    refine h.out.mono ?_
    rintro e w' ⟨rfl, rfl⟩
    go_wp2_with fail
    go_region
    go_wp2
    go_ret3
    exact ⟨rfl, 1, rfl⟩
  · have hf' : (cutS a c).2.2 = false := by simpa using hf
    have hi : idxS a c = -1 := by unfold idxS; rw [if_neg hf]
    rw [cutS_false a c hf']
    rw [hi] at h
    clear hf hf' hi
    go_enter Tryd.func124, Tryd.ntmps124
    go_wp2_with fail
    refine h.out.mono ?_
    rintro e w' ⟨rfl, rfl⟩
    go_wp2
    go_ret3
    exact ⟨rfl, 0, rfl⟩
theorem cut_any (a : List UInt8) (c : UInt8) (ha : a.length ≤ 1000000000) (w : World) :
    Calls Tryd.prog 118 #[.string (S a), .string (S [c])] w fun e w' => e = .returned (.tuple #[.string (S (cutS a c).1), .string (S (cutS a c).2.1), .bool (cutS a c).2.2]) ∧ ∃ m, w' = w.drewN m := by
  have h := hid (cut0 a c ha w)
  generalize (cutS a c).2.2 = b at *
  generalize S (cutS a c).1 = u at *
  generalize S (cutS a c).2.1 = v at *
  go_enter Tryd.func118, Tryd.ntmps118
  go_wp2_with fail
  refine h.out.mono ?_
  rintro e w' ⟨rfl, m, rfl⟩
  go_wp2
  go_ret3
  exact ⟨rfl, m, rfl⟩

/-- A byte that a part may have. -/
def okByte (c : UInt8) : Bool := decide (97 ≤ c.toNat ∧ c.toNat ≤ 122) || decide (48 ≤ c.toNat ∧ c.toNat ≤ 57) || c == 46 || c == 95 || c == 45
theorem signs_idx (c : UInt8) : decide (0 ≤ idxS [46, 95, 45] c) = (c == 46 || c == 95 || c == 45) := by
  unfold idxS cutS cutS cutS cutS
  by_cases h1 : c = 46
  · subst h1; simp
  · by_cases h2 : c = 95
    · subst h2; simp
    · by_cases h3 : c = 45
      · subst h3; simp
      · have e1 : ¬ (46 : UInt8) = c := fun e => h1 e.symm
        have e2 : ¬ (95 : UInt8) = c := fun e => h2 e.symm
        have e3 : ¬ (45 : UInt8) = c := fun e => h3 e.symm
        simp [h1, h2, h3, e1, e2, e3]
theorem partbyte_any (c : UInt8) (w : World) : Calls Tryd.prog 119 #[.int .u8 (c.toNat : Int)] w fun e w' => e = .returned (.bool (okByte c)) ∧ w = w' := by
  have h := hid (indexbyte_any [46, 95, 45] c w)
  rw [show S [46, 95, 45] = ⟨#[46, 95, 45]⟩ from rfl] at h
  have hs := signs_idx c
  have hcb := c.toNat_lt
  have hr := hid (show okByte c = (decide (97 ≤ c.toNat ∧ c.toNat ≤ 122) || decide (48 ≤ c.toNat ∧ c.toNat ≤ 57) || (c == 46 || c == 95 || c == 45)) by unfold okByte; simp [Bool.or_assoc])
  rw [← hs] at hr
  obtain ⟨x, hx⟩ : ∃ x, x = idxS [46, 95, 45] c := ⟨_, rfl⟩
  rw [← hx] at h hr
  obtain ⟨n, hn⟩ : ∃ n, n = c.toNat := ⟨_, rfl⟩
  rw [← hn] at h hr hcb ⊢
  clear hx hs hn
  go_enter Tryd.func119, Tryd.ntmps119
  go_wp2_with fail
  all_goals first
    | (go_ret
       refine ⟨?_, rfl⟩
       rw [hr.out]
       show Ending.returned (Value.bool true) = _
       congr 2
       symm
       simp only [Bool.or_eq_true, decide_eq_true_eq]
       omega)
    | (refine h.out.mono ?_
       rintro e w' ⟨rfl, rfl⟩
       go_wp2
       all_goals
         go_ret
         refine ⟨?_, rfl⟩
         rw [hr.out, decide_eq_false (p := 97 ≤ n ∧ n ≤ 122) (by omega), decide_eq_false (p := 48 ≤ n ∧ n ≤ 57) (by omega)]
         first
           | (show Ending.returned (Value.bool (decide ((n : Int) ≤ 122) || decide ((n : Int) ≤ 57) || decide (0 ≤ x))) = _
              rw [decide_eq_false (p := (n : Int) ≤ 122) (by omega), decide_eq_false (p := (n : Int) ≤ 57) (by omega)])
           | (show Ending.returned (Value.bool (decide ((n : Int) ≤ 57) || decide (0 ≤ x))) = _
              rw [decide_eq_false (p := (n : Int) ≤ 57) (by omega)]; simp)
           | (show Ending.returned (Value.bool (decide ((n : Int) ≤ 122) || decide (0 ≤ x))) = _
              rw [decide_eq_false (p := (n : Int) ≤ 122) (by omega)]; simp)
           | (show Ending.returned (Value.bool (decide (0 ≤ x))) = _
              simp))
end Go.Proofs.YtmfjfahlgcdehaaDoor


/- path.isPart. -/
namespace Go.Proofs.YtmfjfahlgcdehaaDoor
open Go.RowKit

/-- A text that is a part. -/
def okPart (s : List UInt8) : Bool := decide (1 ≤ s.length ∧ s.length ≤ 40) && decide (s ≠ [46]) && decide (s ≠ [46, 46]) && s.all okByte
theorem okPart_of (s : List UInt8) (h1 : 1 ≤ s.length) (h2 : s.length ≤ 40) (h3 : s ≠ [46]) (h4 : s ≠ [46, 46]) : okPart s = s.all okByte := by
  unfold okPart
  rw [decide_eq_true (And.intro h1 h2), decide_eq_true h3, decide_eq_true h4]; simp
theorem okPart_no (s : List UInt8) (h : s.length < 1 ∨ 40 < s.length ∨ s = [46] ∨ s = [46, 46]) : okPart s = false := by
  unfold okPart
  rcases h with h | h | h | h
  · rw [decide_eq_false (p := 1 ≤ s.length ∧ s.length ≤ 40) (by omega)]; simp
  · rw [decide_eq_false (p := 1 ≤ s.length ∧ s.length ≤ 40) (by omega)]; simp
  · simp [h]
  · simp [h]

set_option maxHeartbeats 1000000 in
theorem ispart_any (s : List UInt8) (hs : s.length ≤ 1000000000) (w : World) :
    Calls Tryd.prog 112 #[.string (S s)] w fun e w' => e = .returned (.bool (okPart s)) ∧ w = w' := by
  have ss := S_size s
  have hb1 : ((S s).toList == [46]) = decide (s = [46]) := by rw [S_toList]; by_cases h : s = [46] <;> simp [h]
  have hb2 : ((S s).toList == [46, 46]) = decide (s = [46, 46]) := by rw [S_toList]; by_cases h : s = [46, 46] <;> simp [h]
  by_cases hok : 1 ≤ s.length ∧ s.length ≤ 40 ∧ s ≠ [46] ∧ s ≠ [46, 46]
  · obtain ⟨h1, h2, h3, h4⟩ := hok
    have hr := hid (okPart_of s h1 h2 h3 h4)
    rw [decide_eq_false h3] at hb1
    rw [decide_eq_false h4] at hb2
    clear h3 h4
    go_enter Tryd.func112, Tryd.ntmps112
    go_wp2_with fail
    go_loopw [22] (fun v wr => ∃ i : Nat, i ≤ s.length ∧ v = .int .i64 i ∧ Hid (∀ j, j < i → okByte (s.getD j 0) = true) ∧ w = wr) (fun v _ => s.length - (intOf v).toNat)
    case atStart => exact ⟨0, Nat.zero_le _, rfl, hid (fun j hj => absurd hj (by omega)), rfl⟩
    case round =>
      obtain ⟨i, hi, rfl, hall, rfl⟩ := hrel
      by_cases hlt : i < s.length
      · have hx1 := fun W => str_index s i hlt W
        have hp := hid (partbyte_any (s.getD i 0) w)
        obtain ⟨p, hpe⟩ : ∃ p, p = s.getD i 0 := ⟨_, rfl⟩
        rw [← hpe] at hx1 hp
        by_cases hb : okByte p = true
        · have hall' := hid (show ∀ j, j < i + 1 → okByte (s.getD j 0) = true from fun j hj => by
            rcases Nat.lt_or_ge j i with h | h
            · exact hall.out j h
            · rw [show j = i by omega, ← hpe]; exact hb)
          rw [hb] at hp
          clear hpe hall hb
          go_wp2_with fail
          refine hp.out.mono ?_
          rintro e w' ⟨rfl, rfl⟩
          go_wp2_with fail
          exact ⟨⟨i + 1, by omega, by go_num, hall', by first | rfl | trivial⟩, by simp [intOf]; omega⟩
        · have hf := hid (show s.all okByte = false by
            rw [List.all_eq_false]
            exact ⟨s.getD i 0, by simp [List.getD, hlt], by rw [← hpe]; exact hb⟩)
          have hb' : okByte p = false := by simpa using hb
          rw [hb'] at hp
          clear hpe hall hb hb'
          go_wp2_with fail
          refine hp.out.mono ?_
          rintro e w' ⟨rfl, rfl⟩
          go_wp2
          go_ret
          exact ⟨by rw [hr.out, hf.out]; rfl, rfl⟩
      · obtain rfl : s.length = i := by omega
        have hf := hid (show s.all okByte = true by
          rw [List.all_eq_true]
          intro c hc
          obtain ⟨j, hj, rfl⟩ := List.getElem_of_mem hc
          have := hall.out j hj
          simpa [List.getD, hj] using this)
        clear hall
        go_wp2
        go_ret
        exact ⟨by rw [hr.out, hf.out]; rfl, rfl⟩
  · have hr := hid (okPart_no s (by
      rcases Nat.lt_or_ge s.length 1 with h | h
      · exact Or.inl h
      · rcases Nat.lt_or_ge 40 s.length with h' | h'
        · exact Or.inr (Or.inl h')
        · by_cases h3 : s = [46]
          · exact Or.inr (Or.inr (Or.inl h3))
          · by_cases h4 : s = [46, 46]
            · exact Or.inr (Or.inr (Or.inr h4))
            · exact absurd ⟨h, h', h3, h4⟩ hok))
    by_cases c1 : s.length < 1
    · clear hok
      go_enter Tryd.func112, Tryd.ntmps112
      go_wp2
      go_ret
      exact ⟨by rw [hr.out]; rfl, rfl⟩
    · by_cases c2 : 40 < s.length
      · clear hok
        go_enter Tryd.func112, Tryd.ntmps112
        go_wp2
        go_ret
        exact ⟨by rw [hr.out]; rfl, rfl⟩
      · by_cases c3 : s = [46]
        · rw [decide_eq_true c3] at hb1
          clear hok c3
          go_enter Tryd.func112, Tryd.ntmps112
          go_wp2
          go_ret
          exact ⟨by rw [hr.out]; rfl, rfl⟩
        · by_cases c4 : s = [46, 46]
          · rw [decide_eq_false c3] at hb1
            rw [decide_eq_true c4] at hb2
            clear hok c3 c4
            go_enter Tryd.func112, Tryd.ntmps112
            go_wp2
            go_ret
            exact ⟨by rw [hr.out]; rfl, rfl⟩
          · exact absurd ⟨by omega, by omega, c3, c4⟩ hok
end Go.Proofs.YtmfjfahlgcdehaaDoor


/- path.Parts: the iterator that it hands back, and what the iterator yields. -/
namespace Go.Proofs.YtmfjfahlgcdehaaDoor
open Go.RowKit
attribute [local go_sem] Oper.semAt_some

/-- The parts of a text: all between two separators. -/
def partsS : List UInt8 → List (List UInt8)
  | [] => [[]]
  | x :: a => if x = 47 then [] :: partsS a else match partsS a with | p :: ps => (x :: p) :: ps | [] => [[x]]
theorem partsS_ne (a : List UInt8) : partsS a ≠ [] := by
  cases a with
  | nil => simp [partsS]
  | cons x a => unfold partsS; split <;> (try split) <;> simp
theorem partsS_cut : ∀ (a : List UInt8), partsS a = (cutS a 47).1 :: (if (cutS a 47).2.2 = true then partsS (cutS a 47).2.1 else [])
  | [] => by simp [partsS, cutS]
  | x :: a => by
    have ih := partsS_cut a
    by_cases hx : x = 47
    · simp [partsS, cutS, hx]
    · simp only [partsS, cutS, if_neg hx]
      rw [ih]
theorem cutS_len : ∀ (a : List UInt8) (c : UInt8), (cutS a c).1.length ≤ a.length ∧ (cutS a c).2.1.length ≤ a.length ∧ ((cutS a c).2.2 = true → (cutS a c).2.1.length < a.length)
  | [], c => by simp [cutS]
  | x :: a, c => by
    have ih := cutS_len a c
    by_cases hx : x = c
    · simp [cutS, hx]
    · simp only [cutS, if_neg hx, List.length_cons]
      refine ⟨by omega, by omega, fun h => ?_⟩
      have := ih.2.2 h
      omega

/-- A text that fits. -/
abbrev Txt := { s : List UInt8 // s.length ≤ 1000000000 }
def lenS : Value → Nat
  | .string b => b.size
  | _ => 0

theorem parts_any (a : List UInt8) (w : World) :
    Calls Tryd.prog 111 #[.string (S a)] w fun e w' => e = .returned (.func (.func 117) #[] #[.pointer (some ⟨w.heap.size, 0, none⟩)]) ∧ w' = w.alloc (.cells #[.string (S a)] 9) := by
  go_enter Tryd.func111, Tryd.ntmps111
  go_wp2
  go_ret
  exact ⟨rfl, rfl⟩

set_option maxRecDepth 100000 in
set_option maxHeartbeats 1000000 in
theorem parts1_in (n : Nat) (hn : 1 ≤ n) (l Bn : Nat) (a : List UInt8) (ha : a.length ≤ 1000000000) (Kp : World → World → Prop) (J Jx : List Txt → World → Prop) (W0 : World)
    (hJ : AbidesFrom W0.heap.size J)
    (hY : ∀ pre x W, J pre W → pre.length < (partsS a).length → YieldAt Fence.wide (n - 1) Tryd.prog l #[.string (S x.1)] W fun e W' =>
      (e = .returned (.bool true) ∧ J (pre ++ [x]) W' ∧ Kp W W') ∨ (e = .returned (.bool false) ∧ Jx (pre ++ [x]) W'))
    (W : World) (hBn : W.cell? ⟨Bn, 0, none⟩ = some (.string (S a))) (h0 : J [] W) :
    CallsIn Fence.wide n Tryd.prog 117 #[.func (.yield l) #[] #[], .pointer (some ⟨Bn, 0, none⟩)] W fun e W' => (∃ v, e = .returned v) ∧
      ((∃ ys : List Txt, ys.map (·.1) = partsS a ∧ J ys W') ∨ (∃ pre : List Txt, pre.map (·.1) <+: partsS a ∧ Jx pre W')) := by
  refine callsIn_of_wp Tryd.func117 rfl trivial ?_ rfl
  simp only [Tryd.ntmps117, List.size_toArray, List.length_cons, List.length_nil, Nat.reduceAdd, Nat.reduceSub, Array.replicate_succ, Array.replicate_zero, List.push_toArray, List.append_toArray, List.nil_append, List.cons_append]
  gi_wp2
  gi_loopw [3] (fun p wr => ∃ (pre : List Txt) (r : List UInt8), p = .string (S r) ∧ r.length ≤ 1000000000 ∧ partsS a = pre.map (·.1) ++ partsS r ∧ J pre wr)
    (fun p wr => lenS p)
  case atStart =>
    exact ⟨[], a, rfl, ha, rfl, h0⟩
  case round =>
    obtain ⟨pre, r, rfl, hr, hx, hJs⟩ := hrel
    have hcut := hid (cut_any r 47 hr wr)
    have hl := cutS_len r 47
    have hp := partsS_cut r
    obtain ⟨u, hu⟩ : ∃ u, u = (cutS r 47).1 := ⟨_, rfl⟩
    obtain ⟨v, hv⟩ : ∃ v, v = (cutS r 47).2.1 := ⟨_, rfl⟩
    obtain ⟨b, hb⟩ : ∃ b, b = (cutS r 47).2.2 := ⟨_, rfl⟩
    rw [← hu, ← hv, ← hb] at hcut hp hl
    clear hu hv hb
    have hul : u.length ≤ 1000000000 := by omega
    have hvl : v.length ≤ 1000000000 := by omega
    have hd := hid hl.2.2
    replace hp := hid hp
    have hlt : pre.length < (partsS a).length := by
      rw [hx, hp.out]; simp
    clear hl
    have hJm : ∀ m, J pre (wr.drewN m) := fun m => hJ pre wr (wr.drewN m) none hJs ⟨rfl, rfl, rfl, Nat.le_refl _, fun _ _ _ => rfl⟩ (fun r e => by cases e)
    gi_wp2_with (refine ⟨trivial, ?_⟩; gi_at_call 118; refine (callsIn_wide.2 hcut.out).mono ?_; rintro e w' ⟨rfl, m, rfl⟩)
    obtain ⟨fn, tmps, assign, body, hy, hR⟩ := hY pre ⟨u, hul⟩ (wr.drewN m) (hJm m) hlt
    dsimp only at hy
    cases b with
    | true =>
      have hvd := hid (hd.out rfl)
      clear hd
      gi_wp2
      refine hR.mono ?_
      rintro e W' (⟨rfl, hJ', hk⟩ | ⟨rfl, hJx'⟩)
      · gi_wp2
        go_roundw
        case rel => exact ⟨pre ++ [⟨u, hul⟩], v, rfl, hvl, by rw [hx, hp.out]; simp, hJ'⟩
        case measure => simp [lenS, S_size]; exact hvd.out
      · gi_wp2
        refine bodyPost_ret (results_none rfl _ _ _) rfl ?_
        exact ⟨⟨_, rfl⟩, .inr ⟨pre ++ [⟨u, hul⟩], by rw [hx, hp.out]; simp, hJx'⟩⟩
    | false =>
      replace hp : Hid (partsS r = [u]) := hid (by rw [hp.out]; simp)
      clear hd hlt hJm hcut
      rw [hy]
      gi_wp2
      refine hR.mono ?_
      rintro e W' (⟨rfl, hJ', hk⟩ | ⟨rfl, hJx'⟩)
      · gi_wp2
        refine bodyPost_ret (results_none rfl _ _ _) rfl ?_
        exact ⟨⟨_, rfl⟩, .inl ⟨pre ++ [⟨u, hul⟩], by rw [hx, hp.out]; simp, hJ'⟩⟩
      · gi_wp2
        refine bodyPost_ret (results_none rfl _ _ _) rfl ?_
        exact ⟨⟨_, rfl⟩, .inr ⟨pre ++ [⟨u, hul⟩], by rw [hx, hp.out]; simp, hJx'⟩⟩

/-- What Parts hands back yields the parts, in their order. -/
theorem parts_stops (n : Nat) (hn : 1 ≤ n) (Bn : Nat) (a : List UInt8) (ha : a.length ≤ 1000000000) (Kp : World → World → Prop) (w : World) (hB : Bn < w.heap.size)
    (hc : w.cell? ⟨Bn, 0, none⟩ = some (.string (S a))) :
    SeqStopsK Fence.wide n Tryd.prog 117 #[.pointer (some ⟨Bn, 0, none⟩)] (fun x : Txt => #[Value.string (S x.1)]) Kp (fun ys => ys.map (·.1) = partsS a) (fun pre => pre.map (·.1) <+: partsS a) (partsS a).length w :=
  fun l J Jx W hW hJ _ hY h0 => parts1_in n hn l Bn a ha Kp J Jx W hJ hY W ((hW.cell (p := ⟨Bn, 0, none⟩) hB).trans hc) h0
end Go.Proofs.YtmfjfahlgcdehaaDoor


/- path.Check: every text. -/
namespace Go.Proofs.YtmfjfahlgcdehaaDoor
open Go.RowKit
attribute [local go_sem] Oper.semAt_some

/-- A text that is a path. -/
def okPath (a : List UInt8) : Bool := decide (a.length ≤ 120) && (partsS a).all okPart
def pathErr (a : List UInt8) : Int := if okPath a = true then 0 else 38
theorem pathErr_ok {a : List UInt8} (h : okPath a = true) : pathErr a = 0 := if_pos h
theorem pathErr_no {a : List UInt8} (h : okPath a = false) : pathErr a = 38 := if_neg (by rw [h]; simp)
theorem okPath_no {a x : List UInt8} (h : okPart x = false) (hx : x ∈ partsS a) : okPath a = false := by
  unfold okPath
  rw [show (partsS a).all okPart = false by rw [List.all_eq_false]; exact ⟨x, hx, by rw [h]; simp⟩]; simp

set_option maxRecDepth 100000 in
set_option maxHeartbeats 2000000 in
theorem check_any (a : List UInt8) (ha : a.length ≤ 1000000000) (w : World) :
    Calls Tryd.prog 94 #[.string (S a)] w fun e w' => e = .returned (.int .i64 (pathErr a)) ∧ Below w.heap.size w w' := by
  have ss := S_size a
  by_cases hl : 120 < a.length
  · have hno := hid (show pathErr a = 38 from pathErr_no (by unfold okPath; rw [decide_eq_false (by omega)]; simp))
    have bR := Boxed.new w 49 (.int .i64 38)
    have hc5 := bR.cell
    go_enter Tryd.func94, Tryd.ntmps94
    go_wp2
    refine bodyPost_ret (v := .int .i64 38) ?_ rfl ?_
    · simp [results, Tryd.f94, go_sem, hc5]
    · exact ⟨by rw [hno.out], (Below.refl _ w).alloc (Nat.le_refl _) _⟩
  · have hpa := hid (parts_any a)
    have hlen := hid (show okPath a = (partsS a).all okPart by unfold okPath; rw [decide_eq_true (by omega)]; simp)
    refine (callsIn_wide (n := 4)).1 ?_
    refine callsIn_of_wp_marks Tryd.func94 rfl trivial ?_ rfl
    simp only [Tryd.ntmps94, List.size_toArray, List.length_cons, List.length_nil, Nat.reduceAdd, Nat.reduceSub, Array.replicate_succ, Array.replicate_zero, List.push_toArray, List.append_toArray, List.nil_append, List.cons_append]
    gi_wp2_with (refine ⟨trivial, ?_⟩; gi_at_call 111; refine (callsIn_wide.2 (hpa.out _)).mono ?_; rintro e w' ⟨rfl, rfl⟩)
    have bR := (Boxed.new w 49 (.int .i64 0)).alloc (.cells #[.string (S a)] 9)
    have bA := Boxed.new (w.alloc (.cells #[.int .i64 0] 49)) 9 (.string (S a))
    rw [World.size_alloc] at bA
    have hB0 := ((Below.refl _ w).alloc (Nat.le_refl _) (.cells #[.int .i64 0] 49)).alloc (by simp) (.cells #[.string (S a)] 9)
    have hsz : ((w.alloc (.cells #[.int .i64 0] 49)).alloc (.cells #[.string (S a)] 9)).heap.size = w.heap.size + 2 := by simp
    obtain ⟨W0, hW0⟩ : ∃ W0, (w.alloc (.cells #[.int .i64 0] 49)).alloc (.cells #[.string (S a)] 9) = W0 := ⟨_, rfl⟩
    rw [hW0] at bA bR hB0 hsz ⊢
    clear hW0
    refine wpIn_rangeFunc_ownF rfl (by omega) (gf := 117) (lb := #[.pointer (some ⟨w.heap.size + 1, 0, none⟩)]) rfl trivial (enters_of Tryd.func117 (by kernel_rfl) rfl)
      (parts_stops (4 - 1) (by omega) (w.heap.size + 1) a ha (Below w.heap.size) W0 (by omega) bA.cell) belowK_t (belowK_b (by omega)) (Below.refl _ _) (fun _ => rfl)
      (fun pre W => ((∀ x ∈ pre, okPart x.1 = true) ∧ Boxed W w.heap.size 49 (.int .i64 0)) ∧ Below w.heap.size w W)
      (fun c pre W => ((c = .ret ∧ ∃ x ∈ pre, okPart x.1 = false) ∧ Boxed W w.heap.size 49 (.int .i64 38)) ∧ Below w.heap.size w W)
      (OwnFrom.and (OwnFrom.and (ownFrom_pure _ _) (Own.from (boxed_own _ _ _) _)) (ownFrom_below (Nat.le_refl _) (by omega)))
      (fun c => OwnFrom.and (OwnFrom.and (ownFrom_pure _ _) (Own.from (boxed_own _ _ _) _)) (ownFrom_below (Nat.le_refl _) (by omega)))
      ⟨⟨by simp, bR⟩, hB0⟩
      (fun x => { tmps := #[.string (S a), undef, .pointer (some ⟨w.heap.size, 0, none⟩), .string (S x.1), .string (S a), .int .i64 (a.length : Int), .bool (decide (120 < (a.length : Int))), .string (S a), .func (.func 117) #[] #[.pointer (some ⟨w.heap.size + 1, 0, none⟩)], .string (S x.1), undef, undef, undef], defers := [] }) ?assign ?body ?done ?stop
    case assign =>
      intro l x W K hK
      gi_wp2
      exact hK
    case body =>
      rintro l pre x W ⟨⟨hp, bR1⟩, hB1⟩ hlt
      have cR := bR1.cell
      have fR := bR1.frozen
      have hi := hid (ispart_any x.1 x.2 W)
      by_cases hx : okPart x.1 = true
      · have hp' := hid (show ∀ z ∈ pre ++ [x], okPart z.1 = true from fun z hz => (List.mem_append.1 hz).elim (hp z) (fun e => by simp at e; subst e; exact hx))
        rw [hx] at hi
        clear hx hp
        gi_wp2_with (refine ⟨trivial, ?_⟩; gi_at_call 112; refine (CallsIn.inRound l (callsIn_wide.2 hi.out)).mono ?_; rintro e w' ⟨rfl, rfl⟩)
        exact ⟨KeepsOthers.refl _, Below.refl _ _, ⟨hp'.out, bR1⟩, hB1⟩
      · have hx' : okPart x.1 = false := by simpa using hx
        have hp' := hid (show ∃ z ∈ pre ++ [x], okPart z.1 = false from ⟨x, by simp, hx'⟩)
        rw [hx'] at hi
        clear hx hx' hp
        gi_wp2_with (refine ⟨trivial, ?_⟩; gi_at_call 112; refine (CallsIn.inRound l (callsIn_wide.2 hi.out)).mono ?_; rintro e w' ⟨rfl, rfl⟩)
        exact ⟨KeepsOthers.setCell _ _ _, ⟨⟨rfl, hp'.out⟩, bR1.set _⟩, hB1.setCell (p := ⟨w.heap.size, 0, none⟩) (by simp) _⟩
    case done =>
      rintro D zs W hD hS ⟨⟨hp, bR1⟩, hB1⟩ hK
      have cR := bR1.cell
      have fR := bR1.frozen
      have hok := hid (show pathErr a = 0 from pathErr_ok (by
        rw [hlen.out, List.all_eq_true]
        intro z hz
        rw [← hS] at hz
        obtain ⟨t, ht, rfl⟩ := List.mem_map.1 hz
        exact hp t ht))
      clear hp hlen hS
      gi_wp2
      have hK' := (KeepsOthers.setCell W ⟨w.heap.size, 0, none⟩ (.int .i64 0)).same D _ hK rfl
      refine ⟨by simp, .inl ⟨_, _, rfl, run_takeDeferred hK', ?_⟩⟩
      have hc5 := cell_kept (bR1.set (.int .i64 0)).cell (grownBy_putObj' _ D (.deferred none)) (fun r e => by cases e; exact ⟨_, hK', rfl⟩)
      refine ⟨.int .i64 0, ?_, by rw [hok.out], (hB1.setCell (p := ⟨w.heap.size, 0, none⟩) (by simp) _).trans (belowK_b (w := w) (Nat.le_refl _) _ D _ _ (by omega) hK' rfl rfl)⟩
      simp [results, Tryd.f94, go_sem, hc5]
    case stop =>
      rintro D c pre W hD hpre ⟨⟨⟨rfl, x, hx, hy⟩, bR1⟩, hB1⟩ hK
      have hok := hid (pathErr_no (okPath_no hy (hpre.subset (List.mem_map.2 ⟨x, hx, rfl⟩))))
      gi_wp2
      refine ⟨by simp, .inl ⟨_, _, rfl, run_takeDeferred hK, ?_⟩⟩
      have hc5 := cell_kept bR1.cell (grownBy_putObj' _ D (.deferred none)) (fun r e => by cases e; exact ⟨_, hK, rfl⟩)
      refine ⟨.int .i64 38, ?_, by rw [hok.out], hB1.trans (belowK_b (w := w) (Nat.le_refl _) W D _ _ (by omega) hK rfl rfl)⟩
      simp [results, Tryd.f94, go_sem, hc5]
end Go.Proofs.YtmfjfahlgcdehaaDoor
