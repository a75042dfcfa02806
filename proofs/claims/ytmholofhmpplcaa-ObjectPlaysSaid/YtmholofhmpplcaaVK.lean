import Derived.Test.YtmholofhmpplcaaMQ4

/- A handed row of truths, as a row whose block is known. -/
namespace Go.Proofs.Ytmholofhmpplcaa
open Go.ChangeShapes Go.WideShapes Go.ChangeAt Go.RowKit Go.Deep Go.Lib
theorem open_boolsS {H : Type} {enc : TypeId × Value → H} {w : World} {base : Nat} {held : Bool} {fuel : Nat} {a : Option Addr} {len cap : Nat} {y : DataW H × List MemPlace} (h : DataW.trod enc Try.prog w base (fun _ => true) held fuel 22 [.slice a len cap] = some y) :
    ∃ (fl : List Bool) (T : List Nat), fl.length = len ∧ SrcS w T (.slice a fl.length cap) fl.length (fl.map .bool) ∧ (∀ x ∈ T, x < w.heap.size) ∧ len ≤ 9223372036854775807 := by
  obtain ⟨fl, h1, h2, h3⟩ := open_bools h
  rcases open_slice Try.underlying22 h with ⟨hcs, _⟩ | ⟨x, l, c, m, n, D, Pl, hcs, hb, hl, hm, hmm, _, hi⟩
  · simp at hcs
    obtain ⟨rfl, rfl, rfl⟩ := hcs
    have hn : fl = [] := List.eq_nil_of_length_eq_zero h1
    subst hn
    exact ⟨[], [], rfl, SrcS.nil _ _, by simp, by omega⟩
  · simp at hcs
    obtain ⟨rfl, rfl, rfl⟩ := hcs
    cases fl with
    | nil =>
      refine ⟨[], [], h1, ⟨rfl, some x, cap, rfl, by simp, by unfold maxLen at hm; omega, by simp, fun j u hj => by simp at hj⟩, by simp, h3⟩
    | cons b r =>
      rcases h2 with ⟨_, _, h4⟩ | ⟨ad, c', h4, h5⟩
      · simp at h4
      · simp at h4
        obtain ⟨rfl, rfl⟩ := h4
        refine ⟨b :: r, [x.block], h1, ⟨by simp, some x, cap, rfl, by omega, by unfold maxLen at hm; omega, by simp, fun j u hj => ⟨x, rfl, by simp, h5 j u hj⟩⟩, fun k hk => ?_, h3⟩
        simp at hk
        subst hk
        have := World.block_lt_of_cell? _ _ (h5 0 (.bool b) rfl)
        rw [add_block] at this
        exact this
end Go.Proofs.Ytmholofhmpplcaa
