/- coldstorelaw02's fields ([]Op): how a row of them is read; few. -/
import Derived.Test.YtijkpnggehnmcaaC8
namespace Go.Proofs.Ytijkpnggehnmcaa
open Go.RowKit Go.Lib

/-- A field as it was handed. -/
structure OpR where
  kind : Int
  size : Int
  num : Nat
  ba : Option Addr
  bc : Nat
  bs : List UInt8

/-- A row of fields, four cells each, that was handed. -/
def IsOps (w : World) (a : Option Addr) (ops : List OpR) : Prop :=
  (a = none → ops = []) ∧ ∀ x, a = some x → ∀ i o, ops[i]? = some o → w.cell? (x.add (i * 4)) = some (.int .i64 o.kind) ∧ w.cell? ⟨(x.add (i * 4)).block, (x.add (i * 4)).off + 1, none⟩ = some (.int .i64 o.size) ∧ w.cell? ⟨(x.add (i * 4)).block, (x.add (i * 4)).off + 2, none⟩ = some (.int .u64 (o.num : Int)) ∧
    w.cell? ⟨(x.add (i * 4)).block, (x.add (i * 4)).off + 3, none⟩ = some (.slice o.ba o.bs.length o.bc) ∧ SrcB w (.slice o.ba o.bs.length o.bc) o.bs ∧ o.num < 18446744073709551616 ∧ o.bs.length ≤ 9223372036854775807

theorem few_true (a : Option Addr) (c : Nat) (ops : List OpR) (w : World) (h : IsOps w a ops) (hm : ops.length ≤ 9223372036854775807) :
    Calls Try.prog 15 #[.slice a ops.length c] w fun e w' => e = .returned (.bool (decide ((∀ o ∈ ops, o.bs.length ≤ 60) ∧ ops.length ≤ 40))) ∧ Kept [] w w' := by
  have H := hid h
  clear h
  go_enter Try.func15, Try.ntmps15
  go_wp2_with fail
  go_loopw [7] (fun s wr => ∃ i : Nat, i ≤ ops.length ∧ s = .int .i64 i ∧ Kept [] w wr ∧ ∀ j o, j < i → ops[j]? = some o → o.bs.length ≤ 60) (fun s _ => ops.length - (intOf s).toNat)
  case atStart => exact ⟨0, Nat.zero_le _, rfl, Kept.refl _ _, fun j o hj => absurd hj (by omega)⟩
  case round =>
    obtain ⟨i, hi, rfl, hkw, hall⟩ := hrel
    by_cases hlt : i < ops.length
    · cases a with
      | none => exact absurd (H.out.1 rfl) (fun e => by rw [e] at hlt; simp at hlt)
      | some x =>
        obtain ⟨c0, c1, c2, c3, hsrc, hn, hl⟩ := H.out.2 x rfl i ops[i] (by simp [hlt])
        have g0 := (hkw.cell (World.block_lt_of_cell? w _ c0) (by simp)).trans c0
        have g1 := (hkw.cell (World.block_lt_of_cell? w _ c1) (by simp)).trans c1
        have g2 := (hkw.cell (World.block_lt_of_cell? w _ c2) (by simp)).trans c2
        have g3 := (hkw.cell (World.block_lt_of_cell? w _ c3) (by simp)).trans c3
        have Hkw := hid hkw
        have Hall := hid hall
        clear c0 c1 c2 c3 hsrc hkw hall
        by_cases h60 : 60 < ops[i].bs.length
        · have h60' : (60 : Int) < (ops[i].bs.length : Int) := by omega
          have hbad : decide ((∀ o ∈ ops, o.bs.length ≤ 60) ∧ ops.length ≤ 40) = false := by
            simp only [decide_eq_false_iff_not]
            exact fun h => by have := h.1 _ (List.getElem_mem hlt); omega
          have HB := hid hbad
          clear hbad h60
          go_wp2
          go_ret
          exact ⟨by rw [HB.out]; rfl, Hkw.out.alloc _⟩
        · have h60' : ¬ (60 : Int) < (ops[i].bs.length : Int) := by omega
          go_wp2
          go_roundw
          case rel => exact ⟨i + 1, by omega, by go_num, Hkw.out.alloc _, fun j o hj ho => by
            rcases Nat.lt_or_ge j i with h | h
            · exact Hall.out j o h ho
            · have : j = i := by omega
              subst this
              simp [hlt] at ho
              subst ho
              omega⟩
          case measure => simp [intOf]; omega
    · have hin : i = ops.length := by omega
      subst hin
      have hgood : decide ((∀ o ∈ ops, o.bs.length ≤ 60) ∧ ops.length ≤ 40) = decide (ops.length ≤ 40) := by
        congr 1
        simp only [eq_iff_iff, and_iff_right_iff_imp]
        intro _ o ho
        obtain ⟨j, hj, rfl⟩ := List.getElem_of_mem ho
        exact hall j _ hj (by simp [hj])
      have HB := hid hgood
      clear hgood hall
      go_wp2
      go_ret
      exact ⟨by rw [HB.out]; simp; omega, hkw⟩

/-- What a field writes. -/
def OpR.out (o : OpR) : List UInt8 :=
  if o.kind = 0 ∨ o.kind = 1 then numB o.num (sz o.size) else if o.kind = 2 ∨ o.kind = 3 then numB o.bs.length 4 ++ o.bs else if o.kind = 4 then o.bs else []
def outs (ops : List OpR) : List UInt8 := ops.flatMap OpR.out
theorem outs_snoc (ops : List OpR) (i : Nat) (h : i < ops.length) : outs (ops.take (i + 1)) = outs (ops.take i) ++ ops[i].out := by
  unfold outs
  rw [List.take_succ_eq_append_getElem h, List.flatMap_append, List.flatMap_cons, List.flatMap_nil, List.append_nil]
theorem out_len {o : OpR} (h : o.bs.length ≤ 60) : o.out.length ≤ 64 := by
  have := sz_le o.size
  unfold OpR.out
  split
  · simp [numB_len]; omega
  · split
    · simp [numB_len]; omega
    · split
      · omega
      · simp
theorem outs_len {ops : List OpR} (h : ∀ o ∈ ops, o.bs.length ≤ 60) (i : Nat) : (outs (ops.take i)).length ≤ 64 * i := by
  induction i with
  | zero => simp [outs]
  | succ i ih =>
    by_cases hi : i < ops.length
    · rw [outs_snoc ops i hi, List.length_append]
      have := out_len (h _ (List.getElem_mem hi))
      omega
    · rw [List.take_of_length_le (by omega)] at ih ⊢
      omega

/-- The writer of write, when i fields are written. -/
def WriteAt (p : Nat) (w : World) (xs : List UInt8) (wr : World) : Prop := Kept [] w wr ∧ ∃ v, Wr wr p v xs ∧ ∀ g, v.ownBlock = some g → w.heap.size ≤ g
theorem WriteAt.step {p : Nat} {w wr w2 : World} {ys : List UInt8} {v : Value} (hp : w.heap.size ≤ p) (hk : Kept [] w wr) (hv : ∀ g, v.ownBlock = some g → w.heap.size ≤ g) (h : Wrote p v wr ys w2) : WriteAt p w ys w2 := by
  obtain ⟨v', hk2, hw, hf⟩ := h
  refine ⟨hk.trans' hk2 (fun x hx hm => ?_), v', hw, fun g hg => ?_⟩
  · simp at hm
    rcases hm with hm | hm
    · omega
    · have := hv x hm; omega
  · rcases hf g hg with h | h
    · exact hv g h
    · exact Nat.le_trans hk.size h
end Go.Proofs.Ytijkpnggehnmcaa
