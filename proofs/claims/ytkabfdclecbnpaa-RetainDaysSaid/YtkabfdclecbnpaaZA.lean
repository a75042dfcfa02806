import Derived.Test.YtkabfdclecbnpaaMZ5
import Derived.Test.YtkabfdclecbnpaaZ9
import Derived.Test.YtkabfdclecbnpaaJC

/- Less, as a call that lays blocks and no more; the order's own sentences. -/
namespace Go.Proofs.Ytkabfdclecbnpaa
open Go.RowKit Go.Lib Go.Sort Go.Shelf

theorem Grown.trans {u v w : World} (h : Grown u v) (h' : Grown v w) : Grown u w := by
  obtain ⟨q, os, rfl⟩ := h
  obtain ⟨q', os', rfl⟩ := h'
  refine ⟨q + q', os ++ os', ?_⟩
  show grow (grow ((u.drewN q).drewN q') os) os' = _
  rw [grow_grow]
  congr 1
  simp [World.drewN, Nat.add_assoc]

set_option maxRecDepth 100000 in
set_option maxHeartbeats 2000000 in
theorem less_grown (x y : Sp) (hx : x.ok) (hy : y.ok) (w : World) :
    Calls Try.prog 39 #[.agg x.cells.toArray, .agg y.cells.toArray] w fun e w' => e = .returned (.bool (decide (x.cmp y < 0))) ∧ Grown w w' := by
  obtain ⟨cx, hcx⟩ : ∃ cx, cx = x.cells := ⟨_, rfl⟩
  obtain ⟨cy, hcy⟩ : ∃ cy, cy = y.cells := ⟨_, rfl⟩
  obtain ⟨W, hW⟩ : ∃ W, W = (w.alloc (.cells cx.toArray 42)).alloc (.cells cy.toArray 42) := ⟨_, rfl⟩
  have K0 := hid (show Grown w W by rw [hW]; exact ((Grown.refl w).alloc _).alloc _)
  have AX : At W w.heap.size x := by rw [hW, hcx]; exact heap_alloc_old (heap_alloc_at rfl)
  have AY : At W (w.heap.size + 1) y := by rw [hW, hcy]; exact heap_alloc_at (by simp)
  have rx := hid AX.reads; have ry := hid AY.reads
  have ix := hid (Sp.info hx); have iy := hid (Sp.info hy)
  have hc := hid (j_compare x y hx hy W)
  rw [← hcx] at rx ix hc
  rw [← hcy] at ry iy hc
  rw [hW] at rx ry hc
  rw [← hcx, ← hcy]
  have HW := hid hW
  clear hW hcx hcy AX AY
  obtain ⟨n, hn⟩ : ∃ n, n = x.cmp y := ⟨_, rfl⟩
  rw [← hn] at hc ⊢
  clear hn
  go_enter Try.func39, Try.ntmps39
  go_wp2_with (first | (refine wpList_load_cells rfl 42 (.tmp 2) rfl ⟨w.heap.size, 0, none⟩ rfl cx _ Try.underlying42 rfl ix.out rx.out ?_) | (refine wpList_load_cells rfl 42 (.tmp 3) rfl ⟨w.heap.size + 1, 0, none⟩ rfl cy _ Try.underlying42 rfl iy.out ry.out ?_))
  refine hc.out.mono ?_
  rintro e w1 ⟨rfl, g1⟩
  have K1 := hid (K0.out.trans (HW.out ▸ g1))
  clear g1 hc
  go_wp2
  go_ret
  exact ⟨rfl, K1.out⟩


/-- Of two that are not the same one is ahead, and one alone. -/
theorem ltQ_two (x y : Sp) : (decide (x.cmp y < 0) && decide (y.cmp x < 0)) = false ∧ ((decide (x.cmp y < 0) || decide (y.cmp x < 0)) = !decide (x = y)) := by
  have hn := spC.neg x y
  have hz := spC.zero x y
  by_cases h : x = y
  · have h0 := hz.2 h
    subst h
    rw [h0]; simp
  · have h0 : ¬ x.cmp y = 0 := fun e => h (hz.1 e)
    have hn2 := spC.neg y x
    by_cases h1 : x.cmp y < 0
    · have h2 : ¬ y.cmp x < 0 := by omega
      simp [h1, h2, h]
    · have h2 : y.cmp x < 0 := by omega
      simp [h1, h2, h]
theorem ltQ_three (x y z : Sp) : (decide (x.cmp y < 0) && decide (y.cmp z < 0) && !decide (x.cmp z < 0)) = false := by
  by_cases h1 : x.cmp y < 0
  · by_cases h2 : y.cmp z < 0
    · simp [h1, h2, spC.trans x y z h1 h2]
    · simp [h2]
  · simp [h1]
end Go.Proofs.Ytkabfdclecbnpaa
