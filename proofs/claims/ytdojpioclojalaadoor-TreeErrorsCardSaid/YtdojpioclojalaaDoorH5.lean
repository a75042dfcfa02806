import Derived.Test.YtdojpioclojalaaDoorH3
import Derived.Test.YtdojpioclojalaaDoorH4

/- A hash in memory: its cells, what it holds; lists of bytes in parts. -/
namespace Go.Proofs.YtdojpioclojalaaDoor
open Go.RowKit

theorem sha_add_add (x : Addr) (i j : Nat) : (x.add i).add j = x.add (i + j) := by
  unfold Addr.add
  by_cases hi : i = 0
  · subst hi; simp
  · by_cases hj : j = 0
    · subst hj; simp [hi]
    · simp [hi, hj, Nat.add_assoc]

/-- A slice of bytes reads as a list. -/
def Reads (w : World) (a : Option Addr) (ys : List UInt8) : Prop :=
  (a = none → ys = []) ∧ ∀ ad, a = some ad → ∀ (j : Nat) (u : Value), (ys.map B)[j]? = some u → w.cell? (ad.add j) = some u
theorem Reads.kept {S : List Nat} {w w' : World} {a : Option Addr} {ys : List UInt8} (h : Reads w a ys) (hk : Kept S w w') (hS : ys ≠ [] → ∀ x, a = some x → x.block ∉ S) : Reads w' a ys :=
  ⟨h.1, fun ad ha j u hu => by
    have hc := h.2 ad ha j u hu
    have hl := World.block_lt_of_cell? w _ hc
    have hne : ys ≠ [] := fun e => by rw [e] at hu; simp at hu
    exact (hk.cell hl (by rw [add_block]; exact hS hne ad ha)).trans hc⟩
theorem Reads.lt {w : World} {a : Option Addr} {ys : List UInt8} (h : Reads w a ys) (hne : ys ≠ []) : ∀ x, a = some x → x.block < w.heap.size := by
  intro x hx
  cases ys with
  | nil => exact absurd rfl hne
  | cons y ys =>
    have hc := h.2 x hx 0 (B y) rfl
    have := World.block_lt_of_cell? w _ hc
    rwa [add_block] at this
theorem B_one (l : List UInt8) : ∀ u ∈ l.map B, u.oneCell' = true := by
  intro u hu
  simp at hu
  obtain ⟨b, _, rfl⟩ := hu
  simp [B, Value.oneCell']

def stL (s : Sha.St) : List Value := [U s.a, U s.b, U s.c, U s.d, U s.e, U s.f, U s.g, U s.h]
theorem stL_one (s : Sha.St) : ∀ u ∈ stL s, u.oneCell' = true := by
  intro u hu
  simp [stL] at hu
  rcases hu with rfl | rfl | rfl | rfl | rfl | rfl | rfl | rfl <;> rfl
/-- A hash's cells. -/
def hL (s : Sha.St) (bl : List UInt8) (n : Nat) : List Value := stL s ++ (bl.map B ++ [.int .i64 (n : Int)])
theorem hL_len (s : Sha.St) (bl : List UInt8) (n : Nat) (h : bl.length = 64) : (hL s bl n).length = 73 := by simp [hL, stL, h]
theorem hL_st (s : Sha.St) (bl : List UInt8) (n j : Nat) (v : Value) (h : (stL s)[j]? = some v) : (hL s bl n)[j]? = some v := by
  have hj := (List.getElem?_eq_some_iff.1 h).1
  unfold hL
  rw [List.getElem?_append_left hj]; exact h
theorem hL_bl (s : Sha.St) (bl : List UInt8) (n j : Nat) (v : Value) (h : (bl.map B)[j]? = some v) : (hL s bl n)[8 + j]? = some v := by
  have hj := (List.getElem?_eq_some_iff.1 h).1
  unfold hL
  rw [List.getElem?_append_right (by simp [stL]), show 8 + j - (stL s).length = j by simp [stL], List.getElem?_append_left hj]; exact h
theorem hL_n (s : Sha.St) (bl : List UInt8) (n : Nat) (h : bl.length = 64) : (hL s bl n)[72]? = some (.int .i64 (n : Int)) := by
  unfold hL
  rw [List.getElem?_append_right (by simp [stL]), List.getElem?_append_right (by simp [stL, h])]
  simp [stL, h]

theorem splice_map {α β : Type} (f : α → β) (L : List α) (k : Nat) (cs : List α) : splice (L.map f) k (cs.map f) = (splice L k cs).map f := by simp [splice]
theorem hL_copy (s : Sha.St) (bl cs : List UInt8) (n r : Nat) (h : r + cs.length ≤ bl.length) : splice (hL s bl n) (8 + r) (cs.map B) = hL s (splice bl r cs) n := by
  unfold hL
  rw [← splice_map]
  unfold splice
  have h8 : (stL s).length = 8 := rfl
  rw [List.take_append, h8, List.drop_append, h8, List.take_append, List.drop_append]
  simp [List.length_map]
  have e1 : 8 + r + cs.length - 8 = r + cs.length := by omega
  have e2 : r + cs.length - bl.length = 0 := by omega
  have e3 : r - bl.length = 0 := by omega
  have e4 : List.drop (8 + r + cs.length) (stL s) = [] := List.drop_eq_nil_of_le (by rw [h8]; omega)
  have e5 : List.take (8 + r) (stL s) = stL s := List.take_of_length_le (by rw [h8]; omega)
  simp [e1, e2, e3, e4, e5]
theorem hL_set (s : Sha.St) (bl : List UInt8) (n m : Nat) (h : bl.length = 64) : (hL s bl n).set 72 (.int .i64 (m : Int)) = hL s bl m := by
  unfold hL
  rw [List.set_append_right _ _ (by simp [stL]), List.set_append_right _ _ (by simp [stL, h])]
  simp [stL, h]
theorem hL_state (s t : Sha.St) (bl : List UInt8) (n : Nat) : splice (hL s bl n) 0 (stL t) = hL t bl n := by
  unfold splice hL
  have h8 : (stL t).length = 8 := rfl
  have e4 : List.drop 8 (stL s) = [] := rfl
  rw [h8, Nat.zero_add, List.drop_append, e4]
  simp [stL]

/-- The hash at p has been written xs. -/
def Hs (w : World) (p : Nat) (xs : List UInt8) : Prop :=
  ∃ s bl, w.heap[p]? = some (.cells (hL s bl xs.length).toArray 128 (0, 0)) ∧ bl.length = 64 ∧ (xs ≠ [] → s = Sha.stOf xs) ∧ bl.take (xs.length % 64) = xs.drop (64 * (xs.length / 64))
/-- The same, its state that of what it was written, of nothing too. -/
def Hs1 (w : World) (p : Nat) (xs : List UInt8) : Prop :=
  ∃ bl, w.heap[p]? = some (.cells (hL (Sha.stOf xs) bl xs.length).toArray 128 (0, 0)) ∧ bl.length = 64 ∧ bl.take (xs.length % 64) = xs.drop (64 * (xs.length / 64))
theorem Hs1.hs {w : World} {p : Nat} {xs : List UInt8} (h : Hs1 w p xs) : Hs w p xs := by
  obtain ⟨bl, h1, h2, h3⟩ := h
  exact ⟨_, bl, h1, h2, fun _ => rfl, h3⟩
theorem Hs.kept {S : List Nat} {w w' : World} {p : Nat} {xs : List UInt8} (h : Hs w p xs) (hk : Kept S w w') (hS : p ∉ S) : Hs w' p xs := by
  obtain ⟨s, bl, h1, h2⟩ := h
  exact ⟨s, bl, hk.at h1 hS, h2⟩
theorem Hs.lt {w : World} {p : Nat} {xs : List UInt8} (h : Hs w p xs) : p < w.heap.size := by
  obtain ⟨s, bl, h1, h2⟩ := h
  exact lt_of_block h1

theorem splice_take {α : Type} (bl c : List α) (r : Nat) (h : r ≤ bl.length) : (splice bl r c).take (r + c.length) = bl.take r ++ c := by
  unfold splice
  rw [← List.append_assoc, List.take_append_of_le_length (by simp; omega), List.take_of_length_le (by simp; omega)]

/-- Some bytes more, and the block isn't whole. -/
theorem more_part (X c bl : List UInt8) (hb : bl.length = 64) (hbl : bl.take (X.length % 64) = X.drop (64 * (X.length / 64))) (hr : X.length % 64 + c.length < 64) :
    Sha.stOf (X ++ c) = Sha.stOf X ∧ (splice bl (X.length % 64) c).take ((X ++ c).length % 64) = (X ++ c).drop (64 * ((X ++ c).length / 64)) := by
  have e1 : (X ++ c).length / 64 = X.length / 64 := by simp; omega
  have e2 : (X ++ c).length % 64 = X.length % 64 + c.length := by simp; omega
  refine ⟨?_, ?_⟩
  · unfold Sha.stOf
    rw [e1, Sha.stN_append _ _ _ (by omega)]
  · rw [e1, e2, splice_take _ _ _ (by omega), List.drop_append_of_le_length (by omega), hbl]
/-- Some bytes more, and the block is whole. -/
theorem more_whole (X c bl : List UInt8) (hb : bl.length = 64) (hbl : bl.take (X.length % 64) = X.drop (64 * (X.length / 64))) (hr : X.length % 64 + c.length = 64) :
    Sha.mix (Sha.stOf X) (splice bl (X.length % 64) c) = Sha.stOf (X ++ c) ∧ (splice bl (X.length % 64) c).length = 64 ∧ (splice bl (X.length % 64) c).take ((X ++ c).length % 64) = (X ++ c).drop (64 * ((X ++ c).length / 64)) := by
  have e1 : (X ++ c).length / 64 = X.length / 64 + 1 := by simp; omega
  have e2 : (X ++ c).length % 64 = 0 := by simp; omega
  have hl : (splice bl (X.length % 64) c).length = 64 := by rw [length_splice _ _ _ (by omega)]; exact hb
  have hs : splice bl (X.length % 64) c = (X ++ c).drop (64 * (X.length / 64)) := by
    have := splice_take bl c (X.length % 64) (by omega)
    rw [hr, List.take_of_length_le (by omega)] at this
    rw [this, hbl, List.drop_append_of_le_length (by omega)]
  refine ⟨?_, hl, ?_⟩
  · unfold Sha.stOf
    rw [e1, Sha.stN, Sha.stN_append _ _ _ (by omega), hs, List.take_of_length_le]
    simp; omega
  · rw [e1, e2, List.take_zero, List.drop_eq_nil_of_le]
    simp; omega

theorem slice_rest (ad : Addr) (m c n : Nat) (h : n ≤ m) (hmc : m ≤ c) : ∃ ad' : Addr, (∀ W, (Instr.sliceAt 23 (.slice (some ad) m c) (some (.int .i64 (n : Int))) none none).run Tryd.prog W = .ok (.slice (some ad') (m - n) (c - n)) W) ∧ (n < m → ad' = ad.add n) ∧ ad'.block = ad.block := by
  refine ⟨if c = n then ad else ad.add n, fun W => ?_, fun h => by rw [if_neg (by omega)], ?_⟩
  · rw [run_sliceAt_slice W 23 _ _ _ _ (by simp [Program.elem, Tryd.underlying23])]
    have hs : (sizeOf 5).run Tryd.prog W = .ok 1 W := by kernel_rfl
    rw [run_slice_l W 23 _ _ _ (by simp [Program.elem, Tryd.underlying23]) .i64 (n : Int) (by omega) (by omega)]
    have he : Tryd.prog.elem 23 = 5 := by simp [Program.elem, Tryd.underlying23]
    rw [he, hs]
    simp [Result.andThen, sliced]
    split <;> rfl
  · split
    · rfl
    · exact add_block _ _
end Go.Proofs.YtdojpioclojalaaDoor
