import Derived.Test.YtembincggkpflaaDoorME
import Derived.Test.YtembincggkpflaaDoorMK

/- coldstorelaw12.PackNames. -/
namespace Go.Proofs.YtembincggkpflaaDoor
open Go.RowKit Go.Lib Go.Maps

theorem RowsC.kept {w w' : World} {a : Option Addr} {rows : List (List UInt8)} (h : RowsC w a rows) (hk : Kept [] w w') : RowsC w' a rows :=
  ⟨h.1, fun x hx i r hr => by
    obtain ⟨ar, cr, h1, h2, h3⟩ := h.2 x hx i r hr
    exact ⟨ar, cr, (hk.cell (World.block_lt_of_cell? w _ h1) (by simp)).trans h1, srcB_old h2 hk, h3⟩⟩
theorem few12_spec {rows : List (List UInt8)} (h : few12B rows = true) : (∀ r ∈ rows, okB r) ∧ rows.length ≤ 20 := by
  unfold few12B at h; exact of_decide_eq_true h
theorem okB.le {r : List UInt8} (h : okB r) : r.length ≤ 65600 := by unfold okB at h; omega
theorem acc_small {rows : List (List UInt8)} (h : ∀ r ∈ rows, okB r) : ∀ b ∈ accAll rows, b.length ≤ 200 := by
  have hh : ∀ (ys : List (List UInt8)) bl, (∀ r ∈ ys, okB r) → (∀ b ∈ bl, b.length ≤ 200) → ∀ b ∈ ys.foldl more1 bl, b.length ≤ 200 := by
    intro ys
    induction ys with
    | nil => intro bl _ h; exact h
    | cons y r ih =>
      intro bl hy hb
      refine ih _ (fun z hz => hy z (by simp [hz])) ?_
      unfold more1
      split
      · intro b hm
        rcases List.mem_append.1 hm with hm | hm
        · exact hb b hm
        · simp at hm; subst hm
          have h1 := hy b (by simp)
          unfold took at *
          rename_i ht
          have h2 := (addErr_zero (of_decide_eq_true ht)).1
          unfold okB at h1; omega
      · exact hb
  exact hh rows [] h (by simp)
theorem flat_small {bl : List (List UInt8)} (h : ∀ b ∈ bl, b.length ≤ 200) : bl.flatten.length ≤ 200 * bl.length := by
  induction bl with
  | nil => simp
  | cons b r ih => have h1 := h b (by simp); have h2 := ih (fun x hx => h x (by simp [hx])); rw [List.flatten_cons, List.length_append, List.length_cons]; omega
theorem packL_small {rows : List (List UInt8)} (h : few12B rows = true) : (packL (accAll rows)).length ≤ 5000 ∧ (accAll rows).length ≤ 20 := by
  obtain ⟨h1, h2⟩ := few12_spec h
  have h3 := flat_small (acc_small h1)
  have h4 := accAll_len rows
  rw [packL_len]
  unfold sizeP
  rw [ens_ends, ens_len]
  omega
/-- Two builders that have the same blobs. -/
def NmI (w : World) (p1 p2 : Nat) (bl : List (List UInt8)) (wr : World) : Prop :=
  ∃ Sa Sb, Kept [] w wr ∧ Bw w wr Sa p1 bl ∧ Bw w wr Sb p2 bl ∧ ∀ x ∈ Sa, x ∉ Sb
def BwAny (w wr : World) (S : List Nat) (p : Nat) (bl : List (List UInt8)) (e : Ending) (w' : World) : Prop :=
  ∃ S' v1 v2, e = .returned (.tuple #[v1, v2]) ∧ Kept [] w w' ∧ Kept S wr w' ∧ Bw w w' S' p bl ∧ ∀ x ∈ S', x ∈ S ∨ wr.heap.size ≤ x
theorem BwAdded.any {w wr : World} {S : List Nat} {p : Nat} {bl : List (List UInt8)} {ys : List UInt8} {e : Ending} {w' : World} (h : BwAdded w wr S p bl ys e w') : BwAny w wr S p (more1 bl ys) e w' := by
  obtain ⟨S', h1, h2, h3, h4, (⟨_, h5⟩ | ⟨_, h5⟩)⟩ := h
  · exact ⟨S', _, _, h5, h1, h2, h3, h4⟩
  · exact ⟨S', _, _, h5, h1, h2, h3, h4⟩

end Go.Proofs.YtembincggkpflaaDoor
