/- coldstorelaw02's fields ([]Op): how a row of them is read; few. -/
import Derived.Test.YtignphegdigalaaC8
namespace Go.Proofs.Ytignphegdigalaa
open Go.RowKit Go.Lib

/-- A field as it was handed. -/
structure OpR where
  kind : Int
  size : Int
  num : Nat
  ba : Option Addr
  bc : Nat
  bs : List UInt8

/-- A row of fields, four cells each, that was handed. -/
def IsOps (w : World) (a : Option Addr) (ops : List OpR) : Prop :=
  (a = none → ops = []) ∧ ∀ x, a = some x → ∀ i o, ops[i]? = some o → w.cell? (x.add (i * 4)) = some (.int .i64 o.kind) ∧ w.cell? ⟨(x.add (i * 4)).block, (x.add (i * 4)).off + 1, none⟩ = some (.int .i64 o.size) ∧ w.cell? ⟨(x.add (i * 4)).block, (x.add (i * 4)).off + 2, none⟩ = some (.int .u64 (o.num : Int)) ∧
    w.cell? ⟨(x.add (i * 4)).block, (x.add (i * 4)).off + 3, none⟩ = some (.slice o.ba o.bs.length o.bc) ∧ SrcB w (.slice o.ba o.bs.length o.bc) o.bs ∧ o.num < 18446744073709551616 ∧ o.bs.length ≤ 9223372036854775807

/-- What a field writes. -/
def OpR.out (o : OpR) : List UInt8 :=
  if o.kind = 0 ∨ o.kind = 1 then numB o.num (sz o.size) else if o.kind = 2 ∨ o.kind = 3 then numB o.bs.length 4 ++ o.bs else if o.kind = 4 then o.bs else []
def outs (ops : List OpR) : List UInt8 := ops.flatMap OpR.out
theorem outs_snoc (ops : List OpR) (i : Nat) (h : i < ops.length) : outs (ops.take (i + 1)) = outs (ops.take i) ++ ops[i].out := by
  unfold outs
  rw [List.take_succ_eq_append_getElem h, List.flatMap_append, List.flatMap_cons, List.flatMap_nil, List.append_nil]
theorem out_len {o : OpR} (h : o.bs.length ≤ 60) : o.out.length ≤ 64 := by
  have := sz_le o.size
  unfold OpR.out
  split
  · simp [numB_len]; omega
  · split
    · simp [numB_len]; omega
    · split
      · omega
      · simp
theorem outs_len {ops : List OpR} (h : ∀ o ∈ ops, o.bs.length ≤ 60) (i : Nat) : (outs (ops.take i)).length ≤ 64 * i := by
  induction i with
  | zero => simp [outs]
  | succ i ih =>
    by_cases hi : i < ops.length
    · rw [outs_snoc ops i hi, List.length_append]
      have := out_len (h _ (List.getElem_mem hi))
      omega
    · rw [List.take_of_length_le (by omega)] at ih ⊢
      omega

/-- The writer of write, when i fields are written. -/
def WriteAt (p : Nat) (w : World) (xs : List UInt8) (wr : World) : Prop := Kept [] w wr ∧ ∃ v, Wr wr p v xs ∧ ∀ g, v.ownBlock = some g → w.heap.size ≤ g
theorem WriteAt.step {p : Nat} {w wr w2 : World} {ys : List UInt8} {v : Value} (hp : w.heap.size ≤ p) (hk : Kept [] w wr) (hv : ∀ g, v.ownBlock = some g → w.heap.size ≤ g) (h : Wrote p v wr ys w2) : WriteAt p w ys w2 := by
  obtain ⟨v', hk2, hw, hf⟩ := h
  refine ⟨hk.trans' hk2 (fun x hx hm => ?_), v', hw, fun g hg => ?_⟩
  · simp at hm
    rcases hm with hm | hm
    · omega
    · have := hv x hm; omega
  · rcases hf g hg with h | h
    · exact hv g h
    · exact Nat.le_trans hk.size h
end Go.Proofs.Ytignphegdigalaa
