
/- coldstorelaw07: names of an empty store; alive. -/
import Derived.Test.YtnkolgamnakegaaY7
import Derived.Test.YtnkolgamnakegaaOC
namespace Go.Proofs.Ytnkolgamnakegaa
open Go.RowKit Go.Lib Go.Maps
attribute [local go_sem] Oper.semAt_some

set_option maxRecDepth 100000 in
set_option maxHeartbeats 2000000 in
theorem names_empty (w : World) (U : List Nat) (p T : Nat) (more : List Value) (q : Int) (fv : Value) (fl : List Bool) (k : Nat) (h : Ob w U p T more q [] fv fl k) :
    Calls Try.prog 49 #[.pointer (some ⟨p, 0, none⟩), .int .i64 9] w fun e w' => ∃ a c, e = .returned (.slice a 0 c) ∧ Kept [] w w' := by
  have hall := hid (fun (W : World) (kk : Kept [] w W) => ob_all W U p T more q [] fv fl k (h.kept kk (by simp)))
  clear h
  refine (callsIn_wide (n := 4)).1 ?_
  refine callsIn_of_wp_marks Try.func49 rfl trivial ?_ rfl
  simp only [Try.ntmps49, List.size_toArray, List.length_cons, List.length_nil, Nat.reduceAdd, Nat.reduceSub, Array.replicate_succ, Array.replicate_zero, List.push_toArray, List.append_toArray, List.nil_append, List.cons_append]
  gi_wp2_with (refine ⟨trivial, ?_⟩; gi_at_call 48; refine (callsIn_wide.2 (hall.out _ ((((Kept.refl [] w).alloc _).alloc _).alloc _ |>.alloc _))).mono ?_; rintro e w1 ⟨b3, b4, la, lc, oa, oc, rfl, k1, hA, hb3, hb4, hla, hoa⟩)
  obtain ⟨W0, hW0⟩ : ∃ W0, W0 = ((((w.alloc (.cells #[.int .i64 9] 3)).alloc (.cells #[.slice none 0 0] 44)).alloc (.cells #[] 9)).alloc (.cells #[.slice (some ⟨w.heap.size + 1 + 1, 0, none⟩) 0 0] 44)) := ⟨_, rfl⟩
  have k00 : Kept [] w W0 := hW0 ▸ ((((Kept.refl [] w).alloc _).alloc _).alloc _).alloc _
  have hs0 : W0.heap.size = w.heap.size + 4 := by rw [hW0]; simp
  have q1 : W0.heap[w.heap.size + 1]? = some (.cells #[.slice none 0 0] 44 (0, 0)) := by
    rw [hW0]; exact heap_alloc_old (heap_alloc_old (heap_alloc_at (by simp)))
  have q5 : W0.heap[w.heap.size + 3]? = some (.cells #[.slice (some ⟨w.heap.size + 2, 0, none⟩) 0 0] 44 (0, 0)) := by
    rw [hW0]; exact heap_alloc_at (by simp)
  rw [← hW0] at k1 hb3 hb4 hla hoa
  clear hW0 hall
  have hk01 := hid (k00.trans k1)
  have Q1 := hid (k1.at q1 (by simp))
  have Q5 := hid (k1.at q5 (by simp))
  have HA := hid hA
  have hneed := hid (show ∀ k, ONeed b3 b4 la oa k → k < w1.heap.size ∧ w.heap.size + 4 ≤ k from fun k hk => ⟨hA.lt k hk, by
    rcases hk with rfl | rfl | ⟨x, hx, rfl⟩ | ⟨x, hx, rfl⟩
    · omega
    · omega
    · have := hla x hx; omega
    · have := hoa x hx; omega⟩)
  have hw1 : w.heap.size + 4 ≤ w1.heap.size := by have := k1.size; omega
  clear hla hoa hb3 hb4 k1 hA k00 hs0 q1 q5
  have hno : ∀ (pre : List Ent) (x : Ent), ¬ (pre ++ [x]) <+: ([] : List Ent) := fun pre x h => by
    have := h.length_le
    simp at this
  refine range_r (β := Unit) (encs := evals) rfl (by omega) (gf := 72) (lb := #[.pointer (some ⟨b3, 0, none⟩), .pointer (some ⟨b4, 0, none⟩)]) rfl trivial (enters_of Try.func72 (by kernel_rfl) rfl)
    (E := fun _ => True) (fun _ _ _ _ => trivial) (oall_seq (4 - 1) (by omega) b3 b4 la lc oa oc [] w1 HA.out (by simp)) (fun k hk => (hneed.out k hk).1) (Or.inl rfl) (fun _ => rfl)
    (fun pre W => Kept [] w W ∧ W.heap[w.heap.size + 1]? = some (.cells #[.slice none 0 0] 44 (0, 0)) ∧ W.heap[w.heap.size + 3]? = some (.cells #[.slice (some ⟨w.heap.size + 2, 0, none⟩) 0 0] 44 (0, 0))) (fun _ _ => False) ?hI (fun _ _ _ h _ => h.elim) ?h0
    (fun x _ => { tmps := #[], defers := [] })
    (fun _ _ _ => True) (fun _ _ _ _ _ _ => trivial) (fun l pre x W K hz => absurd hz (hno pre x)) (fun l pre x _ W _ hz => absurd hz (hno pre x)) ?done (fun _ _ _ h => h.elim)
  case hI =>
    rintro s A B ⟨hk0, h1, h3⟩ hkk
    have hb31 : b3 < w1.heap.size ∧ w.heap.size + 4 ≤ b3 := hneed.out b3 (Or.inl rfl)
    exact ⟨hk0.trans' hkk (fun x hx hm => by simp at hm; omega), hkk.at h1 (by simp; omega), hkk.at h3 (by simp; omega)⟩
  case h0 => exact ⟨hk01.out, Q1.out, Q5.out⟩
  case done =>
    rintro ps W rfl ⟨hk0, h1, h3⟩ _ hK
    have c3 : W.cell? ⟨w.heap.size + 1 + 1 + 1, 0, none⟩ = some (.slice (some ⟨w.heap.size + 2, 0, none⟩) 0 0) := cell_of_one h3
    have c1 : W.cell? ⟨w.heap.size + 1, 0, none⟩ = some (.slice none 0 0) := cell_of_one h1
    have f1 : W.frozen? ⟨w.heap.size + 1, 0, none⟩ = false := free_of_one h1
    have hk4 : Kept [w.heap.size + 1] W (W.setCell ⟨w.heap.size + 1, 0, none⟩ (.slice (some ⟨w.heap.size + 2, 0, none⟩) 0 0)) := (Kept.refl _ W).setCell (p := ⟨w.heap.size + 1, 0, none⟩) (fun _ => by simp) _
    have hK2 := hk4.at hK (by simp; omega)
    have e1 : (W.setCell ⟨w.heap.size + 1, 0, none⟩ (.slice (some ⟨w.heap.size + 2, 0, none⟩) 0 0)).heap[w.heap.size + 1]? = some (.cells #[.slice (some ⟨w.heap.size + 2, 0, none⟩) 0 0] 44 (0, 0)) := one_setCell h1
    have Hk0 := hid hk0
    clear hk0 h1 h3 hK
    gi_wp2
    refine ⟨by simp, .inl ⟨_, _, rfl, run_takeDeferred hK2, ?_⟩⟩
    have hkd := kept_putObj (W.setCell ⟨w.heap.size + 1, 0, none⟩ (.slice (some ⟨w.heap.size + 2, 0, none⟩) 0 0)) w1.heap.size (.deferred none)
    have e3 := cell_of_one (hkd.at e1 (by simp; omega))
    refine ⟨.slice (some ⟨w.heap.size + 2, 0, none⟩) 0 0, ?_, _, _, rfl, (Hk0.out.trans' hk4 (fun x hx hm => by simp at hm; omega)).trans' hkd (fun x hx hm => by simp at hm; omega)⟩
    simp [results, Try.f49, go_sem, e3]
end Go.Proofs.Ytnkolgamnakegaa
