import Derived.Test.YtmkdjonlfkfnlaaDoorFH
import Derived.Test.YtmkdjonlfkfnlaaDoorRows
import Derived.ProofKit
import Derived.OpenShut
import Derived.Deep.Slices

/- Rows of bytes as an argument, with their capacities. -/
namespace Go.Proofs.YtmkdjonlfkfnlaaDoor
open Go.ChangeShapes Go.WideShapes Go.ChangeAt Go.RowKit Go.Deep Go.Lib

section
variable {H : Type} {enc : TypeId × Value → H} {w : World} {base : Nat} {held : Bool}
theorem src_of_trodC {fuel : Nat} {v : Value} {y : DataW H × List MemPlace} (h : DataW.trod enc Tryd.prog w base (fun _ => true) held fuel 30 [v] = some y) :
    ∃ a c, ∃ bs : List UInt8, v = .slice a bs.length c ∧ SrcB w (.slice a bs.length c) bs ∧ bs.length ≤ c ∧ c ≤ 9223372036854775807 := by
  rcases open_ints Tryd.underlying30 Tryd.underlying5 (by kernel_rfl) h with ⟨hcs, _⟩ | ⟨x, l, c, zs, hcs, _, hl, hm, hz, _, hcell, hwz⟩
  · simp at hcs
    subst hcs
    exact ⟨none, 0, [], rfl, Or.inl ⟨rfl, rfl, rfl⟩, by simp, by simp⟩
  · simp at hcs
    subst hcs
    obtain ⟨bs, hbl, hs, _, h1, h2⟩ := src_of_row (Or.inr ⟨x, rfl, hl, hm, by simpa using hz, hcell, hwz⟩)
    subst hbl
    exact ⟨some x, c, bs, rfl, hs, hl, by unfold maxLen at hm; omega⟩
/-- Rows of bytes, each with its capacity. -/
def RowsC (w : World) (a : Option Addr) (rows : List (List UInt8)) : Prop :=
  (a = none → rows = []) ∧ ∀ x, a = some x → ∀ (i : Nat) (r : List UInt8), rows[i]? = some r → ∃ ar cr, w.cell? (x.add i) = some (.slice ar r.length cr) ∧ SrcB w (.slice ar r.length cr) r ∧ r.length ≤ cr ∧ cr ≤ 9223372036854775807
theorem RowsC.is {w : World} {a : Option Addr} {rows : List (List UInt8)} (h : RowsC w a rows) : IsRows w a rows :=
  ⟨h.1, fun x hx i r hr => by obtain ⟨ar, cr, h1, h2, _⟩ := h.2 x hx i r hr; exact ⟨ar, cr, h1, h2⟩⟩
theorem listC_of {p : Nat → List UInt8 → Prop} : ∀ n, (∀ i, i < n → ∃ o, p i o) → ∃ rows : List (List UInt8), rows.length = n ∧ ∀ i o, rows[i]? = some o → p i o
  | 0, _ => ⟨[], rfl, fun i o ho => by simp at ho⟩
  | n + 1, h => by
    obtain ⟨ops, hl, hp⟩ := listC_of n (fun i hi => h i (by omega))
    obtain ⟨o, ho⟩ := h n (by omega)
    refine ⟨ops ++ [o], by simp [hl], fun i o' hi => ?_⟩
    rcases Nat.lt_or_ge i ops.length with h1 | h1
    · rw [List.getElem?_append_left h1] at hi
      exact hp i o' hi
    · rw [List.getElem?_append_right h1] at hi
      have h2 : i - ops.length = 0 := by
        rcases Nat.eq_zero_or_pos (i - ops.length) with h2 | h2
        · exact h2
        · rw [List.getElem?_eq_none (by simp; omega)] at hi; simp at hi
      rw [h2] at hi
      simp at hi
      subst hi
      have : i = n := by omega
      exact this ▸ ho

end
end Go.Proofs.YtmkdjonlfkfnlaaDoor
