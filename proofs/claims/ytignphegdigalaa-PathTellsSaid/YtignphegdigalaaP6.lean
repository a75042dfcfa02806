/- path.Check: every text. -/
import Derived.Test.YtignphegdigalaaP5
namespace Go.Proofs.Ytignphegdigalaa
open Go.RowKit
attribute [local go_sem] Oper.semAt_some

/-- A text that is a path. -/
def okPath (a : List UInt8) : Bool := decide (a.length ≤ 120) && (partsS a).all okPart
def pathErr (a : List UInt8) : Int := if okPath a = true then 0 else 38
theorem pathErr_ok {a : List UInt8} (h : okPath a = true) : pathErr a = 0 := if_pos h
theorem pathErr_no {a : List UInt8} (h : okPath a = false) : pathErr a = 38 := if_neg (by rw [h]; simp)
theorem okPath_no {a x : List UInt8} (h : okPart x = false) (hx : x ∈ partsS a) : okPath a = false := by
  unfold okPath
  rw [show (partsS a).all okPart = false by rw [List.all_eq_false]; exact ⟨x, hx, by rw [h]; simp⟩]; simp

set_option maxRecDepth 100000 in
set_option maxHeartbeats 2000000 in
theorem check_any (a : List UInt8) (ha : a.length ≤ 1000000000) (w : World) :
    Calls Try.prog 20 #[.string (S a)] w fun e w' => e = .returned (.int .i64 (pathErr a)) ∧ Below w.heap.size w w' := by
  have ss := S_size a
  by_cases hl : 120 < a.length
  · have hno := hid (show pathErr a = 38 from pathErr_no (by unfold okPath; rw [decide_eq_false (by omega)]; simp))
    have bR := Boxed.new w 29 (.int .i64 38)
    have hc5 := bR.cell
    go_enter Try.func20, Try.ntmps20
    go_wp2
    refine bodyPost_ret (v := .int .i64 38) ?_ rfl ?_
    · simp [results, Try.f20, go_sem, hc5]
    · exact ⟨by rw [hno.out], (Below.refl _ w).alloc (Nat.le_refl _) _⟩
  · have hpa := hid (parts_any a)
    have hlen := hid (show okPath a = (partsS a).all okPart by unfold okPath; rw [decide_eq_true (by omega)]; simp)
    refine (callsIn_wide (n := 4)).1 ?_
    refine callsIn_of_wp_marks Try.func20 rfl trivial ?_ rfl
    simp only [Try.ntmps20, List.size_toArray, List.length_cons, List.length_nil, Nat.reduceAdd, Nat.reduceSub, Array.replicate_succ, Array.replicate_zero, List.push_toArray, List.append_toArray, List.nil_append, List.cons_append]
    gi_wp2_with (refine ⟨trivial, ?_⟩; gi_at_call 49; refine (callsIn_wide.2 (hpa.out _)).mono ?_; rintro e w' ⟨rfl, rfl⟩)
    have bR := (Boxed.new w 29 (.int .i64 0)).alloc (.cells #[.string (S a)] 9)
    have bA := Boxed.new (w.alloc (.cells #[.int .i64 0] 29)) 9 (.string (S a))
    rw [World.size_alloc] at bA
    have hB0 := ((Below.refl _ w).alloc (Nat.le_refl _) (.cells #[.int .i64 0] 29)).alloc (by simp) (.cells #[.string (S a)] 9)
    have hsz : ((w.alloc (.cells #[.int .i64 0] 29)).alloc (.cells #[.string (S a)] 9)).heap.size = w.heap.size + 2 := by simp
    obtain ⟨W0, hW0⟩ : ∃ W0, (w.alloc (.cells #[.int .i64 0] 29)).alloc (.cells #[.string (S a)] 9) = W0 := ⟨_, rfl⟩
    rw [hW0] at bA bR hB0 hsz ⊢
    clear hW0
    refine wpIn_rangeFunc_ownF rfl (by omega) (gf := 65) (lb := #[.pointer (some ⟨w.heap.size + 1, 0, none⟩)]) rfl trivial (enters_of Try.func65 (by kernel_rfl) rfl)
      (parts_stops (4 - 1) (by omega) (w.heap.size + 1) a ha (Below w.heap.size) W0 (by omega) bA.cell) belowK_t (belowK_b (by omega)) (Below.refl _ _) (fun _ => rfl)
      (fun pre W => ((∀ x ∈ pre, okPart x.1 = true) ∧ Boxed W w.heap.size 29 (.int .i64 0)) ∧ Below w.heap.size w W)
      (fun c pre W => ((c = .ret ∧ ∃ x ∈ pre, okPart x.1 = false) ∧ Boxed W w.heap.size 29 (.int .i64 38)) ∧ Below w.heap.size w W)
      (OwnFrom.and (OwnFrom.and (ownFrom_pure _ _) (Own.from (boxed_own _ _ _) _)) (ownFrom_below (Nat.le_refl _) (by omega)))
      (fun c => OwnFrom.and (OwnFrom.and (ownFrom_pure _ _) (Own.from (boxed_own _ _ _) _)) (ownFrom_below (Nat.le_refl _) (by omega)))
      ⟨⟨by simp, bR⟩, hB0⟩
      (fun x => { tmps := #[.string (S a), undef, .pointer (some ⟨w.heap.size, 0, none⟩), .string (S x.1), .string (S a), .int .i64 (a.length : Int), .bool (decide (120 < (a.length : Int))), .string (S a), .func (.func 65) #[] #[.pointer (some ⟨w.heap.size + 1, 0, none⟩)], .string (S x.1), undef, undef, undef], defers := [] }) ?assign ?body ?done ?stop
    case assign =>
      intro l x W K hK
      gi_wp2
      exact hK
    case body =>
      rintro l pre x W ⟨⟨hp, bR1⟩, hB1⟩ hlt
      have cR := bR1.cell
      have fR := bR1.frozen
      have hi := hid (ispart_any x.1 x.2 W)
      by_cases hx : okPart x.1 = true
      · have hp' := hid (show ∀ z ∈ pre ++ [x], okPart z.1 = true from fun z hz => (List.mem_append.1 hz).elim (hp z) (fun e => by simp at e; subst e; exact hx))
        rw [hx] at hi
        clear hx hp
        gi_wp2_with (refine ⟨trivial, ?_⟩; gi_at_call 55; refine (CallsIn.inRound l (callsIn_wide.2 hi.out)).mono ?_; rintro e w' ⟨rfl, rfl⟩)
        exact ⟨KeepsOthers.refl _, Below.refl _ _, ⟨hp'.out, bR1⟩, hB1⟩
      · have hx' : okPart x.1 = false := by simpa using hx
        have hp' := hid (show ∃ z ∈ pre ++ [x], okPart z.1 = false from ⟨x, by simp, hx'⟩)
        rw [hx'] at hi
        clear hx hx' hp
        gi_wp2_with (refine ⟨trivial, ?_⟩; gi_at_call 55; refine (CallsIn.inRound l (callsIn_wide.2 hi.out)).mono ?_; rintro e w' ⟨rfl, rfl⟩)
        exact ⟨KeepsOthers.setCell _ _ _, ⟨⟨rfl, hp'.out⟩, bR1.set _⟩, hB1.setCell (p := ⟨w.heap.size, 0, none⟩) (by simp) _⟩
    case done =>
      rintro D zs W hD hS ⟨⟨hp, bR1⟩, hB1⟩ hK
      have cR := bR1.cell
      have fR := bR1.frozen
      have hok := hid (show pathErr a = 0 from pathErr_ok (by
        rw [hlen.out, List.all_eq_true]
        intro z hz
        rw [← hS] at hz
        obtain ⟨t, ht, rfl⟩ := List.mem_map.1 hz
        exact hp t ht))
      clear hp hlen hS
      gi_wp2
      have hK' := (KeepsOthers.setCell W ⟨w.heap.size, 0, none⟩ (.int .i64 0)).same D _ hK rfl
      refine ⟨by simp, .inl ⟨_, _, rfl, run_takeDeferred hK', ?_⟩⟩
      have hc5 := cell_kept (bR1.set (.int .i64 0)).cell (grownBy_putObj' _ D (.deferred none)) (fun r e => by cases e; exact ⟨_, hK', rfl⟩)
      refine ⟨.int .i64 0, ?_, by rw [hok.out], (hB1.setCell (p := ⟨w.heap.size, 0, none⟩) (by simp) _).trans (belowK_b (w := w) (Nat.le_refl _) _ D _ _ (by omega) hK' rfl rfl)⟩
      simp [results, Try.f20, go_sem, hc5]
    case stop =>
      rintro D c pre W hD hpre ⟨⟨⟨rfl, x, hx, hy⟩, bR1⟩, hB1⟩ hK
      have hok := hid (pathErr_no (okPath_no hy (hpre.subset (List.mem_map.2 ⟨x, hx, rfl⟩))))
      gi_wp2
      refine ⟨by simp, .inl ⟨_, _, rfl, run_takeDeferred hK, ?_⟩⟩
      have hc5 := cell_kept bR1.cell (grownBy_putObj' _ D (.deferred none)) (fun r e => by cases e; exact ⟨_, hK, rfl⟩)
      refine ⟨.int .i64 38, ?_, by rw [hok.out], hB1.trans (belowK_b (w := w) (Nat.le_refl _) W D _ _ (by omega) hK rfl rfl)⟩
      simp [results, Try.f20, go_sem, hc5]
end Go.Proofs.Ytignphegdigalaa
