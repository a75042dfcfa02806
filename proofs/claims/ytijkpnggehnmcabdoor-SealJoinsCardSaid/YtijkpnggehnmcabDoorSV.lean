/- Rows of bytes as the cells of one slice: what append takes and leaves. -/
import Derived.Test.YtijkpnggehnmcabDoorSQ
namespace Go.Proofs.YtijkpnggehnmcabDoor
open Go.RowKit Go.Lib

/-- The cells of a slice of rows. -/
def RowVals (w : World) (vals : List Value) (rows : List (List UInt8)) : Prop :=
  vals.length = rows.length ∧ ∀ (i : Nat) (r : List UInt8), rows[i]? = some r → ∃ ar cr, vals[i]? = some (.slice ar r.length cr) ∧ SrcB w (.slice ar r.length cr) r

theorem RowVals.kept {w w' : World} {vals : List Value} {rows : List (List UInt8)} (h : RowVals w vals rows) (hk : Kept [] w w') : RowVals w' vals rows :=
  ⟨h.1, fun i r hi => by
    obtain ⟨ar, cr, h1, h2⟩ := h.2 i r hi
    exact ⟨ar, cr, h1, h2.kept hk (by simp)⟩⟩
theorem RowVals.append {w : World} {v1 v2 : List Value} {r1 r2 : List (List UInt8)} (h1 : RowVals w v1 r1) (h2 : RowVals w v2 r2) : RowVals w (v1 ++ v2) (r1 ++ r2) :=
  ⟨by simp [h1.1, h2.1], fun i r hi => by
    rcases Nat.lt_or_ge i r1.length with hlt | hge
    · rw [List.getElem?_append_left hlt] at hi
      rw [List.getElem?_append_left (by rw [h1.1]; exact hlt)]
      exact h1.2 i r hi
    · rw [List.getElem?_append_right hge] at hi
      rw [List.getElem?_append_right (by rw [h1.1]; exact hge), h1.1]
      exact h2.2 _ r hi⟩
theorem RowVals.oneCell {w : World} {vals : List Value} {rows : List (List UInt8)} (h : RowVals w vals rows) : ∀ u ∈ vals, u.oneCell' = true := fun u hu => by
  obtain ⟨i, hi, rfl⟩ := List.getElem_of_mem hu
  have hi' : i < rows.length := h.1 ▸ hi
  obtain ⟨ar, cr, h1, _⟩ := h.2 i rows[i] (List.getElem?_eq_getElem hi')
  rw [List.getElem?_eq_getElem hi] at h1
  have h1 : vals[i] = Value.slice ar rows[i].length cr := by simpa using h1
  rw [h1]
  rfl

theorem rows_vals {w : World} {a : Option Addr} {c : Nat} {rows : List (List UInt8)} (h : IsRows w a rows) (hc : a = none → c = 0) : ∃ vals, Src w (.slice a rows.length c) rows.length vals ∧ RowVals w vals rows := by
  cases a with
  | none =>
    have h0 := h.1 rfl
    subst h0
    rw [hc rfl]
    exact ⟨[], Or.inl ⟨rfl, rfl, rfl⟩, rfl, fun i r hi => by simp at hi⟩
  | some x =>
    have hg : ∀ i r, rows[i]? = some r → ((List.range rows.length).map fun i => (w.cell? (x.add i)).getD undef)[i]? = some ((w.cell? (x.add i)).getD undef) := fun i r hi => by
      have hlt : i < rows.length := by
        rcases Nat.lt_or_ge i rows.length with h' | h'
        · exact h'
        · rw [List.getElem?_eq_none h'] at hi; simp at hi
      rw [List.getElem?_map, List.getElem?_range hlt]
      rfl
    refine ⟨(List.range rows.length).map fun i => (w.cell? (x.add i)).getD undef, Or.inr ⟨x, c, rfl, fun j u hj => ?_⟩, by simp, fun i r hi => ?_⟩
    · have hlt : j < rows.length := by
        rcases Nat.lt_or_ge j rows.length with h' | h'
        · exact h'
        · rw [List.getElem?_eq_none (by simpa using h')] at hj; simp at hj
      obtain ⟨ar, cr, g0, _⟩ := h.2 x rfl j rows[j] (List.getElem?_eq_getElem hlt)
      rw [hg j rows[j] (List.getElem?_eq_getElem hlt), g0] at hj
      rw [g0]
      simpa using hj
    · obtain ⟨ar, cr, g0, g1⟩ := h.2 x rfl i r hi
      exact ⟨ar, cr, by rw [hg i r hi, g0]; rfl, g1⟩

theorem vals_is {W : World} {base : Nat} {a : Option Addr} {c : Nat} {vals : List Value} {rows : List (List UInt8)} (ho : W.ownsRow base 22 1 (.slice a rows.length c) rows.length vals) (hr : RowVals W vals rows) : IsRows W a rows := by
  rcases ho.2 with ⟨hv, h0⟩ | ⟨g, cap, cur, hv, _⟩
  · simp at hv
    have hx : rows = [] := List.eq_nil_of_length_eq_zero h0
    exact ⟨fun _ => hx, fun x h => by rw [hv.1] at h; simp at h⟩
  · simp at hv
    obtain ⟨rfl, rfl⟩ := hv
    refine ⟨fun h => by simp at h, fun x hx i r hi => ?_⟩
    simp at hx
    subst hx
    obtain ⟨a', c', h1, h2⟩ := hr.2 i r hi
    exact ⟨a', c', ho.cells (g := g) rfl i _ h1, h2⟩

theorem rows_fresh (w : World) : (w.alloc (.cells #[] 22)).ownsRow w.heap.size 22 1 (.slice (some ⟨w.heap.size, 0, none⟩) 0 0) 0 [] :=
  ⟨by simp, Or.inr ⟨w.heap.size, 0, #[], rfl, Nat.le_refl _, heap_alloc_new' _ _, by simp, by unfold maxLen; omega, by simp, by simp⟩⟩
end Go.Proofs.YtijkpnggehnmcabDoor
