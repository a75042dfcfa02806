/- Params as an argument, opened to its numbers. -/
import Derived.Test.YtllcfffpagogbaaDoorQ8
import Derived.Lib.LaidTab
import Derived.Lib.SmallJoins
import Derived.OpenShut
namespace Go.Proofs.YtllcfffpagogbaaDoor
open Go.RowKit Go.WideShapes

set_option maxRecDepth 100000 in
set_option maxHeartbeats 1000000 in
theorem open_par {H : Type} {enc : TypeId × Value → H} {w : World} {r : Reach} {b0 base : Nat} {sp : Nat → Bool} {held : Bool} {v : Value} {d : DataW H} {p : List MemPlace} (hv : Value.okWide Tryd.prog w r b0 24 v) (h : DataW.Trod enc Tryd.prog w base sp held 24 v d p) :
    ∃ a b e f s : Int, v = parV a b e f s ∧ (Lit.int .i64 a).wf = true ∧ (Lit.int .i64 b).wf = true ∧ (Lit.int .i64 e).wf = true ∧ (Lit.int .i64 f).wf = true ∧ (Lit.int .u64 s).wf = true := by
  have hC : Tryd.prog.cellsOf 24 = 5 := by kernel_rfl
  have hI : Tryd.prog.cellsOf 3 = 1 := by kernel_rfl
  have hU : Tryd.prog.cellsOf 22 = 1 := by kernel_rfl
  obtain ⟨cs, rfl, hsz⟩ := okWide_struct Tryd.underlying24 hv
  rw [hC] at hsz
  obtain ⟨fuel, hf⟩ := h
  obtain ⟨xs, n, _, _, hl, hlen, hx⟩ := DataW.trod_struct Tryd.underlying24 hf
  have hcs : ∀ i, i < 5 → ∃ c, cs[i]? = some c := fun i hi => ⟨cs[i]'(by omega), Array.getElem?_eq_getElem _⟩
  have hlt : ∀ i, i < 5 → ∃ y, xs[i]? = some y := fun i hi => ⟨xs[i]'(by rw [hlen]; simpa using hi), List.getElem?_eq_getElem _⟩
  have one : ∀ (i : Nat) (c : Value), cs[i]? = some c → (((Value.agg cs).cells.toList.drop i).take 1) = [c] := fun i c hc => by
    have : ((Value.agg cs).cells.toList)[i]? = some c := by simpa [Value.cells] using hc
    obtain ⟨h1, h2⟩ := List.getElem?_eq_some_iff.1 this
    rw [List.drop_eq_getElem_cons h1, List.take_succ_cons, List.take_zero, h2]
  have hint : ∀ i, i < 4 → ∃ z : Int, cs[i]? = some (.int .i64 z) ∧ (Lit.int .i64 z).wf = true := fun i hi => by
    obtain ⟨c, hc⟩ := hcs i (by omega)
    obtain ⟨y, hy⟩ := hlt i (by omega)
    have h2 : DataW.trod enc Tryd.prog w base sp held n 3 [c] = some y := by
      rw [← hy, ← one i c hc]
      rcases i with _ | _ | _ | _ | i
      · have := hx 0 _ rfl; simpa [hI] using this
      · have := hx 1 _ rfl; simpa [hI] using this
      · have := hx 2 _ rfl; simpa [hI] using this
      · have := hx 3 _ rfl; simpa [hI] using this
      · omega
    obtain ⟨z, hz, _, hw⟩ := DataW.trod_int Tryd.underlying3 h2
    simp at hz
    exact ⟨z, by rw [hc, hz], hw⟩
  obtain ⟨a, ha, wa⟩ := hint 0 (by omega)
  obtain ⟨b, hb, wb⟩ := hint 1 (by omega)
  obtain ⟨e, he, we⟩ := hint 2 (by omega)
  obtain ⟨f, hf2, wf⟩ := hint 3 (by omega)
  obtain ⟨s, hs, ws⟩ : ∃ z : Int, cs[4]? = some (.int .u64 z) ∧ (Lit.int .u64 z).wf = true := by
    obtain ⟨c, hc⟩ := hcs 4 (by omega)
    obtain ⟨y, hy⟩ := hlt 4 (by omega)
    have h2 : DataW.trod enc Tryd.prog w base sp held n 22 [c] = some y := by
      rw [← hy, ← one 4 c hc]
      have := hx 4 _ rfl; simpa [hU] using this
    obtain ⟨z, hz, _, hw⟩ := DataW.trod_int Tryd.underlying22 h2
    simp at hz
    exact ⟨z, by rw [hc, hz], hw⟩
  refine ⟨a, b, e, f, s, ?_, wa, wb, we, wf, ws⟩
  unfold parV
  congr 1
  apply Array.ext_getElem?
  intro i
  rcases i with _ | _ | _ | _ | _ | i
  · exact ha
  · exact hb
  · exact he
  · exact hf2
  · exact hs
  · rw [Array.getElem?_eq_none (by omega), Array.getElem?_eq_none (by simp)]
end Go.Proofs.YtllcfffpagogbaaDoor
