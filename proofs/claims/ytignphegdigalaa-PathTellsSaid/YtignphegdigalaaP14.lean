/- coldstorelaw05.parts: up to so many parts, in a row of the call's own. -/
import Derived.Test.YtignphegdigalaaP12
import Derived.Test.YtignphegdigalaaP13
namespace Go.Proofs.Ytignphegdigalaa
open Go.RowKit
attribute [local go_sem] Oper.semAt_some

set_option maxRecDepth 100000 in
set_option maxHeartbeats 2000000 in
theorem lparts_any (a : List UInt8) (most : Nat) (h1 : 1 ≤ most) (ha : a.length ≤ 100000000) (hm : most ≤ 1000000) (w : World) :
    Calls Try.prog 30 #[.string (S a), .int .i64 (most : Int)] w fun e w' => ∃ v, e = .returned v ∧ w'.ownsRow w.heap.size 9 1 v ((partsS a).take most).length (tS ((partsS a).take most)) ∧ Below w.heap.size w w' := by
  have hpa := hid (parts_any a)
  have h0 : ¬ ((most : Int) ≤ 0) := by omega
  refine (callsIn_wide (n := 4)).1 ?_
  refine callsIn_of_wp_marks Try.func30 rfl trivial ?_ rfl
  simp only [Try.ntmps30, List.size_toArray, List.length_cons, List.length_nil, Nat.reduceAdd, Nat.reduceSub, Array.replicate_succ, Array.replicate_zero, List.push_toArray, List.append_toArray, List.nil_append, List.cons_append]
  gi_wp2_with (refine ⟨trivial, ?_⟩; gi_at_call 49; refine (callsIn_wide.2 (hpa.out _)).mono ?_; rintro e w' ⟨rfl, rfl⟩)
  obtain ⟨i0, hi0, hz0, hz1, hz2⟩ := info_parts info_str
  have hB0 : Below w.heap.size w (((((w.alloc (.cells #[.int .i64 (most : Int)] 3)).alloc (.cells #[.slice none 0 0] 49)).alloc (.cells #[] 9)).alloc (.cells #[.slice (some ⟨w.heap.size + 1 + 1, 0, none⟩) 0 0] 49)).alloc (.cells #[.string (S a)] 9)) :=
    (((((Below.refl _ w).alloc (Nat.le_refl _) _).alloc (by simp) _).alloc (by simp; omega) _).alloc (by simp; omega) _).alloc (by simp; omega) _
  have bM := (((((Boxed.new w 3 (.int .i64 (most : Int))).alloc (.cells #[.slice none 0 0] 49)).alloc (.cells #[] 9)).alloc (.cells #[.slice (some ⟨w.heap.size + 1 + 1, 0, none⟩) 0 0] 49)).alloc (.cells #[.string (S a)] 9))
  have bR := ((((Boxed.new (w.alloc (.cells #[.int .i64 (most : Int)] 3)) 49 (.slice none 0 0)).alloc (.cells #[] 9)).alloc (.cells #[.slice (some ⟨w.heap.size + 1 + 1, 0, none⟩) 0 0] 49)).alloc (.cells #[.string (S a)] 9))
  have hO := (((World.ownsRow_made ((w.alloc (.cells #[.int .i64 (most : Int)] 3)).alloc (.cells #[.slice none 0 0] 49)) (base := w.heap.size) (e := 9) (size := 1) #[] 0 (by simp; omega) (by decide) (by simp)).alloc (.cells #[.slice (some ⟨w.heap.size + 1 + 1, 0, none⟩) 0 0] 49)).alloc (.cells #[.string (S a)] 9))
  have bK := ((Boxed.new (((w.alloc (.cells #[.int .i64 (most : Int)] 3)).alloc (.cells #[.slice none 0 0] 49)).alloc (.cells #[] 9)) 49 (.slice (some ⟨w.heap.size + 1 + 1, 0, none⟩) 0 0)).alloc (.cells #[.string (S a)] 9))
  have bA := Boxed.new ((((w.alloc (.cells #[.int .i64 (most : Int)] 3)).alloc (.cells #[.slice none 0 0] 49)).alloc (.cells #[] 9)).alloc (.cells #[.slice (some ⟨w.heap.size + 1 + 1, 0, none⟩) 0 0] 49)) 9 (.string (S a))
  simp only [World.size_alloc] at bR bK bA hO
  have hsz : (((((w.alloc (.cells #[.int .i64 (most : Int)] 3)).alloc (.cells #[.slice none 0 0] 49)).alloc (.cells #[] 9)).alloc (.cells #[.slice (some ⟨w.heap.size + 1 + 1, 0, none⟩) 0 0] 49)).alloc (.cells #[.string (S a)] 9)).heap.size = w.heap.size + 5 := by simp
  obtain ⟨W0, hW0⟩ : ∃ W0, (((((w.alloc (.cells #[.int .i64 (most : Int)] 3)).alloc (.cells #[.slice none 0 0] 49)).alloc (.cells #[] 9)).alloc (.cells #[.slice (some ⟨w.heap.size + 1 + 1, 0, none⟩) 0 0] 49)).alloc (.cells #[.string (S a)] 9)) = W0 := ⟨_, rfl⟩
  rw [hW0] at bA bR bK bM hO hB0 hsz ⊢
  clear hW0 hpa
  have hcount := partsS_count a
  have hte : 49 ≠ 9 := by decide
  refine wpIn_rangeFunc_ownF rfl (by omega) (gf := 65) (lb := #[.pointer (some ⟨w.heap.size + 1 + 1 + 1 + 1, 0, none⟩)]) rfl trivial (enters_of Try.func65 (by kernel_rfl) rfl)
    (parts_stops (4 - 1) (by omega) (w.heap.size + 1 + 1 + 1 + 1) a (by omega) (Below w.heap.size) W0 (by omega) bA.cell) belowK_t (belowK_b (by omega)) (Below.refl _ _) (fun _ => rfl)
    (fun pre W => (∃ v, Boxed W (w.heap.size + 1 + 1 + 1) 49 v ∧ W.ownsRow w.heap.size 9 1 v pre.length (tS (pre.map (·.1))) ∧ True) ∧ (pre.length < most ∧ (Boxed W w.heap.size 3 (.int .i64 (most : Int)) ∧ (Boxed W (w.heap.size + 1) 49 (.slice none 0 0) ∧ Below w.heap.size w W))))
    (fun c pre W => (∃ v, Boxed W (w.heap.size + 1) 49 v ∧ W.ownsRow w.heap.size 9 1 v pre.length (tS (pre.map (·.1))) ∧ True) ∧ ((c = .ret ∧ pre.length = most) ∧ Below w.heap.size w W))
    (OwnFrom.and (Own.from (holdsRow_own _ _ _ _ _ _ _ (fun _ _ => True)) _) (OwnFrom.and (ownFrom_pure _ _) (OwnFrom.and (Own.from (boxed_own _ _ _) _) (OwnFrom.and (Own.from (boxed_own _ _ _) _) (ownFrom_below (Nat.le_refl _) (by omega))))))
    (fun c => OwnFrom.and (Own.from (holdsRow_own _ _ _ _ _ _ _ (fun _ _ => True)) _) (OwnFrom.and (ownFrom_pure _ _) (ownFrom_below (Nat.le_refl _) (by omega))))
    ⟨⟨_, bK, hO, trivial⟩, h1, bM, bR, hB0⟩
    (fun x => { tmps := #[.string (S a), .int .i64 (most : Int), undef, .pointer (some ⟨w.heap.size, 0, none⟩), .pointer (some ⟨w.heap.size + 1, 0, none⟩), .pointer (some ⟨w.heap.size + 1 + 1 + 1, 0, none⟩), .string (S x.1), .slice (some ⟨w.heap.size + 1 + 1, 0, none⟩) 0 0, .int .i64 (most : Int), .bool false, undef, .string (S a), .func (.func 65) #[] #[.pointer (some ⟨w.heap.size + 1 + 1 + 1 + 1, 0, none⟩)], .string (S x.1), undef, undef, undef, undef, undef, undef, undef, undef, undef, undef], defers := [] }) ?assign ?body ?done ?stop
  case assign =>
    intro l x W K hK
    gi_wp2
    exact hK
  case body =>
    rintro l pre x W ⟨⟨v, hv, hrow, -⟩, hlt, hM, hR, hB⟩ hlen
    have cv := hv.cell
    have fv := hv.frozen
    obtain ⟨q, hq⟩ : ∃ q, ((pre.length : Int) + 1 == (most : Int)) = q := ⟨_, rfl⟩
    have hQ := hid hq
    cases q <;> gi_wp2_with (gi_at_builtin; refine wpListIn_append_own _ rfl _ _ _ rfl w.heap.size 9 i0 _ 1 16 Try.underlying49 hi0 hz0 hz1 hz2 rfl (by decide) _ _ _ rfl (hrow.alloc _) ⟨W.heap.size, 0, none⟩ 1 1 [.string (S x.1)] rfl rfl (cell_one_new _ _ _) (by simp [Value.oneCell']) (by unfold maxLen; omega) (by omega) (by have := hB.size; simp; omega) ?_; intro v' w1 hown' hgrow _; obtain ⟨g', cap', rfl⟩ := ownsRow_succ hown'; obtain ⟨hv1, hv2, hr2, hk2, hb2⟩ := hv.appended hte hrow hB.size (by omega) hown' hgrow; have hc1 := hv1.cell; have hf1 := hv1.frozen; have hMw := (hM.alloc (.cells #[.string (S x.1)] 9)).kept hgrow (hM.not_row (by decide) hrow); have hRw := (hR.alloc (.cells #[.string (S x.1)] 9)).kept hgrow (hR.not_row hte hrow); have hcM := hMw.cell; have hcR := hRw.cell; have hfR := hRw.frozen)
    · have hmo : pre.length + 1 < most := by have := hQ.out; simp at this; omega
      refine ⟨hk2, hb2, ⟨_, hv2, by simpa [tS] using hr2, trivial⟩, by simpa using hmo, hMw.other (by omega) _, hRw.other (by omega) _, hB.trans hb2⟩
    · have hmo : pre.length + 1 = most := by have := hQ.out; simp at this; omega
      refine ⟨hk2.trans (KeepsOthers.setCell _ _ _), ⟨_, (hRw.other (by omega) _).set _, ?_, trivial⟩, ⟨rfl, by simpa using hmo⟩, (hB.trans hb2).setCell (p := ⟨w.heap.size + 1, 0, none⟩) (by simp) _⟩
      have h7 := hr2.kept (grownBy_setCell' _ (w.heap.size + 1) (.slice (some ⟨g', 0, none⟩) (pre.length + 1) cap')) (.inr ((hRw.other (B' := w.heap.size + 1 + 1 + 1) (by omega) (.slice (some ⟨g', 0, none⟩) (pre.length + 1) cap')).not_row hte hr2).symm)
      simpa [tS] using h7
  case done =>
    rintro D zs W hD hS ⟨⟨v, hv, hrow, -⟩, hlt, hM, hR, hB⟩ hK
    have cv := hv.cell
    have cR := hR.cell
    have fR := hR.frozen
    obtain ⟨a9, c9, rfl⟩ := owns_slice1 hrow
    have hlen := hid (show zs.length = (partsS a).length by rw [← hS]; simp)
    have htk := hid (show (partsS a).take most = zs.map (·.1) by rw [hS, List.take_of_length_le (by have := hlen.out; omega)])
    have hHr := hid hrow
    have hHB := hid hB
    clear hrow hB hS
    gi_wp2
    have hK' := (KeepsOthers.setCell W ⟨w.heap.size + 1, 0, none⟩ (.slice a9 zs.length c9)).same D _ hK rfl
    refine ⟨by simp, .inl ⟨_, _, rfl, run_takeDeferred hK', ?_⟩⟩
    have hc5 := cell_kept (hR.set (.slice a9 zs.length c9)).cell (grownBy_putObj' _ D (.deferred none)) (fun r e => by cases e; exact ⟨_, hK', rfl⟩)
    refine ⟨.slice a9 zs.length c9, ?_, _, rfl, ?_, (hHB.out.setCell (p := ⟨w.heap.size + 1, 0, none⟩) (by simp) _).trans (belowK_b (w := w) (Nat.le_refl _) _ D _ _ (by omega) hK' rfl rfl)⟩
    · simp [results, Try.f30, go_sem, hc5]
    · rw [htk.out, List.length_map]
      exact ownsRow_putObj (hHr.out.kept (grownBy_setCell' W (w.heap.size + 1) _) (.inr (hR.not_row hte hHr.out).symm)) _ hK' rfl
  case stop =>
    rintro D c pre W hD hpre ⟨⟨v, hv, hrow, -⟩, ⟨rfl, hlt⟩, hB⟩ hK
    obtain ⟨a9, c9, rfl⟩ := owns_slice1 hrow
    have htk := hid (show (partsS a).take most = pre.map (·.1) by
      obtain ⟨r, hr⟩ := hpre
      rw [← hr, ← hlt, List.take_left' (by simp)])
    have hHr := hid hrow
    have hHB := hid hB
    clear hrow hB hpre
    gi_wp2
    refine ⟨by simp, .inl ⟨_, _, rfl, run_takeDeferred hK, ?_⟩⟩
    have hc5 := cell_kept hv.cell (grownBy_putObj' _ D (.deferred none)) (fun r e => by cases e; exact ⟨_, hK, rfl⟩)
    refine ⟨.slice a9 pre.length c9, ?_, _, rfl, ?_, hHB.out.trans (belowK_b (w := w) (Nat.le_refl _) _ D _ _ (by omega) hK rfl rfl)⟩
    · simp [results, Try.f30, go_sem, hc5]
    · rw [htk.out, List.length_map]
      exact ownsRow_putObj hHr.out _ hK rfl
end Go.Proofs.Ytignphegdigalaa
