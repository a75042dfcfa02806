import Derived.Test.YtkabfdclecbnpaaMH
import Derived.Laws.MakeOwn

/- sha.end, sha.Hash.Sum, Len, sha.Of. -/
namespace Go.Proofs.Ytkabfdclecbnpaa
open Go.RowKit

theorem sha_info_u8 : (Try.prog.info? 5).map (fun i => (i.zero, i.size, i.bytes)) = some (some (.int .u8 0), 1, 1) := by kernel_rfl
theorem make_u8 (n : Nat) (W : World) (hn : n ≤ 1000000) : (Instr.makeSlice 85 (.int .i64 (n : Int)) (.int .i64 (n : Int))).run Try.prog W = .ok (.slice (some ⟨W.heap.size, 0, none⟩) n n) (W.alloc (.cells (List.replicate n (B 0)).toArray 5)) := by
  obtain ⟨i0, hi0, hz0, hz1, hz2⟩ := info_parts sha_info_u8
  have := run_makeSlice (P := Try.prog) W 85 5 i0 (.int .u8 0) Try.underlying85 hi0 hz0 .i64 .i64 (n : Int) (n : Int) (by omega) (by omega) (by rw [hz1]; omega) (by rw [hz2]; omega) (by omega)
  rw [this]
  have e : madeCells (Value.int .u8 0).cells ((n : Int).toNat * i0.size) = (List.replicate n (B 0)).toArray := by
    rw [hz1]
    apply Array.ext
    · simp [madeCells, Value.cells]
    · intro j h1 h2
      simp [madeCells, Value.cells, B, Nat.mod_one]
  rw [e]
  simp
theorem sha_B_ofNat (M : Nat) : B (UInt8.ofNat M) = .int .u8 ((M : Int) % 256) := by unfold B; simp

/-- The end's bytes, the last i of them written. -/
def pL (n i : Nat) : List UInt8 := 128 :: (List.replicate ((119 - n % 64) % 64) 0 ++ (List.range 8).map fun j => if 7 - j < i then UInt8.ofNat (8 * n / 256 ^ (7 - j)) else 0)
theorem pL_len (n i : Nat) : (pL n i).length = 9 + (119 - n % 64) % 64 := by simp [pL]; omega
theorem pL_end (n : Nat) : pL n 8 = Sha.pad n := by
  unfold pL Sha.pad
  congr 2
theorem pL_start (n : Nat) : pL n 0 = 128 :: List.replicate ((119 - n % 64) % 64 + 8) 0 := by
  unfold pL
  rw [← List.replicate_append_replicate]
  simp [List.range_succ]
theorem pL_set (n i : Nat) (hi : i < 8) : (pL n i).set (9 + (119 - n % 64) % 64 - 1 - i) (UInt8.ofNat (8 * n / 256 ^ i)) = pL n (i + 1) := by
  unfold pL
  generalize (119 - n % 64) % 64 = z
  rw [show 9 + z - 1 - i = (z + (7 - i)) + 1 by omega, List.set_cons_succ, List.set_append_right _ _ (by simp)]
  congr 2
  simp only [List.length_replicate, show z + (7 - i) - z = 7 - i by omega]
  apply List.ext_getElem?
  intro j
  rw [List.getElem?_set]
  by_cases hj : 7 - i = j
  · subst hj
    simp [show 7 - i < 8 by omega, show 7 - (7 - i) = i by omega]
  · by_cases h8 : j < 8
    · have e : (7 - j < i + 1) = (7 - j < i) := by simp; omega
      simp [hj, h8, e]
    · simp [hj, h8]

def EndRel (w : World) (n i : Nat) (wr : World) : Prop := Kept [] w wr ∧ wr.heap[w.heap.size]? = some (.cells ((pL n i).map B).toArray 5 (0, 0))
theorem EndRel.step {w wr : World} {n i : Nat} (h : EndRel w n i wr) (hi : i < 8) : EndRel w n (i + 1) (wr.setCell ⟨w.heap.size, 9 + (119 - n % 64) % 64 - 1 - i, none⟩ (B (UInt8.ofNat (8 * n / 256 ^ i)))) := by
  obtain ⟨h1, h2⟩ := h
  refine ⟨h1.setCell (fun e => absurd e (by simp)) _, ?_⟩
  rw [Go.heap_setCell_same wr _ _ _ _ _ h2, ← pL_set n i hi]
  simp

/-- The sum's cells, the first i of them written. -/
def iL (l : List UInt8) (i : Nat) : List UInt8 := l.take i ++ List.replicate (32 - i) 0
theorem iL_len (l : List UInt8) (i : Nat) (hl : l.length = 32) (hi : i ≤ 32) : (iL l i).length = 32 := by simp [iL, hl]; omega
theorem iL_set (l : List UInt8) (i : Nat) (hl : l.length = 32) (hi : i < 32) (v : UInt8) (hv : l[i]? = some v) : (iL l i).set i v = iL l (i + 1) := by
  unfold iL
  have hi2 : i < l.length := by omega
  have hv2 : l[i] = v := by simpa [hi2] using hv
  obtain ⟨m, hm⟩ : ∃ m, 32 - i = m + 1 := ⟨32 - i - 1, by omega⟩
  rw [hm, show 32 - (i + 1) = m by omega, List.set_append_right _ _ (by simp; omega), List.take_succ_eq_append_getElem hi2, List.replicate_succ, hv2]
  have e : i - (List.take i l).length = 0 := by simp; omega
  rw [e, List.set_cons_zero, List.append_assoc]
  rfl
theorem iL_all (l : List UInt8) (hl : l.length = 32) : iL l 32 = l := by simp [iL]; exact List.take_of_length_le (by omega)

/-- A hash that was written nothing. -/
def z0 : List Value := hL ⟨0, 0, 0, 0, 0, 0, 0, 0⟩ (List.replicate 64 0) 0
theorem z0_len : z0.length = 73 := hL_len _ _ _ (by simp)
theorem splice_all {α : Type} (L cs : List α) (h : L.length = cs.length) : splice L 0 cs = cs := by
  unfold splice
  rw [List.take_zero, List.nil_append, List.drop_eq_nil_of_le (by omega), List.append_nil]
def IdRel (w : World) (q r : Nat) (s : Sha.St) (l : List UInt8) (i : Nat) (wr : World) : Prop :=
  w.heap.size < q ∧ q < r ∧ Kept [] w wr ∧ wr.heap[w.heap.size]? = some (.cells ((List.replicate 32 (0 : UInt8)).map B).toArray 40 (0, 0)) ∧ (∀ j, j < 8 → wr.cell? ⟨q, j, none⟩ = some (U (s.list.getD j 0))) ∧ wr.heap[r]? = some (.cells ((iL l i).map B).toArray 40 (0, 0))
theorem IdRel.step {w wr : World} {q r : Nat} {s : Sha.St} {l : List UInt8} {i : Nat} (h : IdRel w q r s l i wr) (hl : l.length = 32) (hi : i < 32) (v : UInt8) (hv : l[i]? = some v) : IdRel w q r s l (i + 1) (wr.setCell ⟨r, i, none⟩ (B v)) := by
  obtain ⟨h0, h1, h2, h3, h4, h5⟩ := h
  refine ⟨h0, h1, h2.setCell (fun e => absurd e (by simp; omega)) _, heap_setCell_other h3 (by simp; omega), fun j hj => ?_, ?_⟩
  · have hc := h4 j hj
    unfold World.cell? at hc ⊢
    rw [Below.heap_setCell _ _ _ _ (by simp; omega)]
    exact hc
  · rw [Go.heap_setCell_same wr _ _ _ _ _ h5, ← iL_set l i hl hi v hv]
    simp

end Go.Proofs.Ytkabfdclecbnpaa
