import Derived.Test.YtmholofhmpplcaaVI
import Derived.Test.YtmholofhmpplcaaMN

/- names stopping early. -/
namespace Go.Proofs.Ytmholofhmpplcaa
open Go.RowKit Go.Lib Go.Maps
attribute [local go_sem] Oper.semAt_some
set_option maxRecDepth 100000 in
set_option maxHeartbeats 8000000 in
theorem names_upto0 (w : World) (U : List Nat) (p T : Nat) (more : List Value) (q : Int) (es : List Ent) (fv : Value) (fl : List Bool) (k : Nat) (h : Ob w U p T more q es fv fl k) (most : Nat) (hm : 1 ≤ most) (hm2 : most ≤ 7) (hel : es.length ≤ 4096) :
    Calls Try.prog 14 #[.pointer (some ⟨p, 0, none⟩), .int .i64 (most : Int)] w fun e w' => ∃ a c vy, e = .returned (.tuple #[.slice a (min most es.length) c, vy]) ∧ Kept [] w w' := by
  have h00 : ¬ ((most : Int) ≤ 0) := by omega
  have hall := hid (fun (W : World) (kk : Kept [] w W) => ob_all W U p T more q es fv fl k (h.kept kk (by simp)))
  have Hm := hid hm
  clear h hm
  obtain ⟨i0, hi0, hz0, hz1, hz2⟩ := info_split info_str
  obtain ⟨j0, hj0, hy0, hy1, hy2⟩ := info_split info_int
  refine (callsIn_wide (n := 4)).1 ?_
  refine callsIn_of_wp_marks Try.func14 rfl trivial ?_ rfl
  simp only [Try.ntmps14, List.size_toArray, List.length_cons, List.length_nil, Nat.reduceAdd, Nat.reduceSub, Array.replicate_succ, Array.replicate_zero, List.push_toArray, List.append_toArray, List.nil_append, List.cons_append]
  gi_wp2_with (refine ⟨trivial, ?_⟩; gi_at_call 32; refine (callsIn_wide.2 (hall.out _ ((((((((Kept.refl [] w).alloc _).alloc _).alloc _).alloc _).alloc _).alloc _).alloc _))).mono ?_; rintro e w1 ⟨b3, b4, la, lc, oa, oc, rfl, k1, hA, hb3, hb4, hla, hoa⟩)
  obtain ⟨W0, hW0⟩ : ∃ W0, W0 = (((((((w.alloc (.cells #[.int .i64 (most : Int)] 3)).alloc (.cells #[.slice none 0 0] 44)).alloc (.cells #[.slice none 0 0] 45)).alloc (.cells #[] 9)).alloc (.cells #[] 3)).alloc (.cells #[.slice (some ⟨w.heap.size + 1 + 1 + 1, 0, none⟩) 0 0] 44)).alloc (.cells #[.slice (some ⟨w.heap.size + 1 + 1 + 1 + 1, 0, none⟩) 0 0] 45)) := ⟨_, rfl⟩
  have k00 : Kept [] w W0 := hW0 ▸ ((((((((Kept.refl [] w).alloc _).alloc _).alloc _).alloc _).alloc _).alloc _).alloc _)
  have hs0 : W0.heap.size = w.heap.size + 7 := by rw [hW0]; simp
  have q0 : W0.heap[w.heap.size]? = some (.cells #[.int .i64 (most : Int)] 3 (0, 0)) := by
    rw [hW0]; exact heap_alloc_old (heap_alloc_old (heap_alloc_old (heap_alloc_old (heap_alloc_old (heap_alloc_old (heap_alloc_at rfl))))))
  have q1 : W0.heap[w.heap.size + 1]? = some (.cells #[.slice none 0 0] 44 (0, 0)) := by
    rw [hW0]; exact heap_alloc_old (heap_alloc_old (heap_alloc_old (heap_alloc_old (heap_alloc_old (heap_alloc_at (by simp))))))
  have q2 : W0.heap[w.heap.size + 2]? = some (.cells #[.slice none 0 0] 45 (0, 0)) := by
    rw [hW0]; exact heap_alloc_old (heap_alloc_old (heap_alloc_old (heap_alloc_old (heap_alloc_at (by simp)))))
  have q3 : W0.heap[w.heap.size + 3]? = some (.cells #[] 9 (0, 0)) := by
    rw [hW0]; exact heap_alloc_old (heap_alloc_old (heap_alloc_old (heap_alloc_at (by simp))))
  have q4 : W0.heap[w.heap.size + 4]? = some (.cells #[] 3 (0, 0)) := by
    rw [hW0]; exact heap_alloc_old (heap_alloc_old (heap_alloc_at (by simp)))
  have q5 : W0.heap[w.heap.size + 5]? = some (.cells #[.slice (some ⟨w.heap.size + 3, 0, none⟩) 0 0] 44 (0, 0)) := by
    rw [hW0]; exact heap_alloc_old (heap_alloc_at (by simp))
  have q6 : W0.heap[w.heap.size + 6]? = some (.cells #[.slice (some ⟨w.heap.size + 4, 0, none⟩) 0 0] 45 (0, 0)) := by
    rw [hW0]; exact heap_alloc_at (by simp)
  rw [← hW0] at k1 hb3 hb4 hla hoa
  clear hW0 hall
  rw [hs0] at hb3 hb4 hla hoa
  have hk01 := hid (k00.trans k1)
  have hR1 := hid (show NR w1 w.heap.size w1.heap.size most (.slice (some ⟨w.heap.size + 3, 0, none⟩) 0 0) (.slice (some ⟨w.heap.size + 4, 0, none⟩) 0 0) [] from
    ⟨k1.at q0 (by simp), k1.at q1 (by simp), k1.at q2 (by simp), k1.at q5 (by simp), k1.at q6 (by simp),
     ⟨by simp, Or.inr ⟨w.heap.size + 3, 0, #[], rfl, by omega, k1.at q3 (by simp), by simp, by unfold maxLen; omega, by simp, by simp⟩⟩,
     ⟨by simp, Or.inr ⟨w.heap.size + 4, 0, #[], rfl, by omega, k1.at q4 (by simp), by simp, by unfold maxLen; omega, by simp, by simp⟩⟩,
     fun g hg => by simp [Value.ownBlock] at hg; omega, fun g hg => by simp [Value.ownBlock] at hg; omega⟩)
  have HA := hid hA
  have hneed := hid (show ∀ k, ONeed b3 b4 la oa k → k < w1.heap.size ∧ w.heap.size + 7 ≤ k from fun k hk => ⟨hA.lt k hk, by
    rcases hk with rfl | rfl | ⟨x, hx, rfl⟩ | ⟨x, hx, rfl⟩
    · exact hb3
    · exact hb4
    · exact hla x hx
    · exact hoa x hx⟩)
  have hw1 : w.heap.size + 7 ≤ w1.heap.size := by have := k1.size; omega
  have hb31 : b3 < w1.heap.size ∧ w.heap.size + 7 ≤ b3 := hneed.out b3 (Or.inl rfl)
  clear hla hoa hb3 hb4 k1 hA k00 hs0 q0 q1 q2 q3 q4 q5 q6
  refine range_r (β := Unit) (encs := evals) rfl (by omega) (gf := 48) (lb := #[.pointer (some ⟨b3, 0, none⟩), .pointer (some ⟨b4, 0, none⟩)]) rfl trivial (enters_of Try.func48 (by kernel_rfl) rfl)
    (E := fun _ => True) (fun _ _ _ _ => trivial) (oall_seq (4 - 1) (by omega) b3 b4 la lc oa oc es w1 HA.out (by have := Hm.out; omega)) (fun k hk => (hneed.out k hk).1) (Or.inl rfl) (fun _ => rfl)
    (fun pre W => pre.length < most ∧ Kept [] w W ∧ ∃ vx vy, NR W w.heap.size w1.heap.size most vx vy pre) (fun pre W => pre.length = most ∧ pre.length ≤ es.length ∧ Kept [] w W ∧ ∃ a c ay n2 cb, W.heap[w.heap.size + 1]? = some (.cells #[.slice a most c] 44 (0, 0)) ∧ W.heap[w.heap.size + 2]? = some (.cells #[.slice ay n2 cb] 45 (0, 0))) ?hI ?hIx ?h0
    (fun x _ => { tmps := #[.pointer (some ⟨p, 0, none⟩), .int .i64 (most : Int), undef, .pointer (some ⟨w.heap.size, 0, none⟩), .pointer (some ⟨w.heap.size + 1, 0, none⟩), .pointer (some ⟨w.heap.size + 1 + 1, 0, none⟩), .pointer (some ⟨w.heap.size + 1 + 1 + 1 + 1 + 1, 0, none⟩), .pointer (some ⟨w.heap.size + 1 + 1 + 1 + 1 + 1 + 1, 0, none⟩), nmV x, szV x, .slice (some ⟨w.heap.size + 1 + 1 + 1, 0, none⟩) 0 0, .slice (some ⟨w.heap.size + 1 + 1 + 1 + 1, 0, none⟩) 0 0, .int .i64 (most : Int), .bool false, undef, undef, .pointer (some ⟨p, 0, none⟩), .func (.func 48) #[] #[.pointer (some ⟨b3, 0, none⟩), .pointer (some ⟨b4, 0, none⟩)], nmV x, szV x, undef, undef, undef, undef, undef, undef, undef, undef, undef, undef, undef, undef, undef, undef, undef, undef], defers := [] })
    (fun _ _ _ => True) (fun _ _ _ _ _ _ => trivial) ?assign ?body ?done ?hstop
  case hI =>
    rintro s A B ⟨hlt, hk0, vx, vy, hi⟩ hkk
    exact ⟨hlt, hk0.trans' hkk (fun x hx hm => by simp at hm; omega), vx, vy, hi.keep hkk (fun k hk => by simp at hk; omega)⟩
  case hIx =>
    rintro s A B ⟨h1, h1b, hk0, a, c, ay, n2, cb, h2, h3⟩ hkk
    exact ⟨h1, h1b, hk0.trans' hkk (fun x hx hm => by simp at hm; omega), a, c, ay, n2, cb, hkk.at h2 (by simp; omega), hkk.at h3 (by simp; omega)⟩
  case hstop =>
    rintro pre W _ ⟨h1, h1b, hk0, a, c, ay, n2, cb, h2, h3⟩ hK
    gi_wp2
    refine ⟨by simp, .inl ⟨_, _, rfl, run_takeDeferred hK, ?_⟩⟩
    have hkd := kept_putObj W w1.heap.size (.deferred none)
    have e3 := cell_of_one (hkd.at h2 (by simp; omega))
    have e4 : (W.putObj w1.heap.size (.deferred none)).cell? ⟨w.heap.size + 1 + 1, 0, none⟩ = some (.slice ay n2 cb) := cell_of_one (hkd.at h3 (by simp; omega))
    refine ⟨.tuple #[.slice a most c, .slice ay n2 cb], ?_, a, c, _, by rw [show min most es.length = most by omega], hk0.trans' hkd (fun x hx hm => by simp at hm; omega)⟩
    simp [results, Try.f14, go_sem, e3, e4]
  case h0 => exact ⟨by have := Hm.out; simp; omega, hk01.out, _, _, hR1.out⟩
  case assign =>
    intro l pre x V K _ hsz hK
    gi_wp2
    exact hK () V (Kept.refl [] V) trivial
  case body =>
    rintro l pre x _ W ⟨hlt, hk0, vx, vy, hR⟩ hzp hsz _
    have hlen : pre.length + 1 ≤ es.length := by
      obtain ⟨r, hr⟩ := hzp
      have h1 := congrArg List.length hr
      simp at h1
      omega
    have cx := cell_of_one hR.cx; have cy := cell_of_one hR.cy
    have hes := Hm.out
    have hM0 := hid (show MidN W w.heap.size vx vy W.drew vx vy pre.length pre.length (pre.map nmV) (pre.map szV) from ⟨(Kept.refl _ W).drew, hR.rowx, hR.rowy, fun g hg => Or.inl hg, fun g hg => Or.inl hg⟩)
    have HR := hid hR; have Hk0 := hid hk0
    clear hR hk0
    gi_wp2
    have hlt5 := hid (show w.heap.size + 7 ≤ W.heap.size from by omega)
    have hMs : ∀ {v : World}, Kept (vx.ownBlock.toList ++ vy.ownBlock.toList) W v → w.heap.size ≤ v.heap.size := fun h => by have := h.size; have := hlt5.out; omega
    have hno := hid (show ∀ k, w.heap.size + 5 ≤ k → k ≤ w1.heap.size + 1 → k ∉ vx.ownBlock.toList ++ vy.ownBlock.toList from fun k h1 h2 hm => by
      simp at hm
      rcases hm with e | e
      · rcases HR.out.ownx _ e with e | e <;> omega
      · rcases HR.out.owny _ e with e | e <;> omega)
    have hcx : ∀ {v : World}, Kept (vx.ownBlock.toList ++ vy.ownBlock.toList) W v → v.heap[w.heap.size + 1 + 1 + 1 + 1 + 1]? = some (.cells #[vx] 44 (0, 0)) := fun h => h.at HR.out.cx (hno.out _ (by omega) (by omega))
    have hcy : ∀ {v : World}, Kept (vx.ownBlock.toList ++ vy.ownBlock.toList) W v → v.heap[w.heap.size + 1 + 1 + 1 + 1 + 1 + 1]? = some (.cells #[vy] 45 (0, 0)) := fun h => h.at HR.out.cy (hno.out _ (by omega) (by omega))
    have hSof : ∀ {v : World}, Kept (vx.ownBlock.toList ++ vy.ownBlock.toList) W v → v.cell? ⟨w.heap.size + 1 + 1 + 1 + 1 + 1, 0, none⟩ = some vx ∧ v.cell? ⟨w.heap.size + 1 + 1 + 1 + 1 + 1 + 1, 0, none⟩ = some vy := fun h => ⟨cell_of_one (hcx h), cell_of_one (hcy h)⟩
    refine wpIn_region_V (fun v => v.cell? ⟨w.heap.size + 1 + 1 + 1 + 1 + 1, 0, none⟩ = some vx ∧ v.cell? ⟨w.heap.size + 1 + 1 + 1 + 1 + 1 + 1, 0, none⟩ = some vy) [8, 9]
      (fun a' w' => ∃ vx' vy' z1 z2, a' = { tmps := #[.pointer (some ⟨p, 0, none⟩), .int .i64 (most : Int), undef, .pointer (some ⟨w.heap.size, 0, none⟩), .pointer (some ⟨w.heap.size + 1, 0, none⟩), .pointer (some ⟨w.heap.size + 1 + 1, 0, none⟩), .pointer (some ⟨w.heap.size + 1 + 1 + 1 + 1 + 1, 0, none⟩), .pointer (some ⟨w.heap.size + 1 + 1 + 1 + 1 + 1 + 1, 0, none⟩), nmV x, szV x, .slice (some ⟨w.heap.size + 1 + 1 + 1, 0, none⟩) 0 0, .slice (some ⟨w.heap.size + 1 + 1 + 1 + 1, 0, none⟩) 0 0, .int .i64 (most : Int), .bool false, undef, undef, .pointer (some ⟨p, 0, none⟩), .func (.func 48) #[] #[.pointer (some ⟨b3, 0, none⟩), .pointer (some ⟨b4, 0, none⟩)], nmV x, szV x, vx, nmV x, z1, vx', vy, szV x, z2, vy', undef, undef, undef, undef, undef, undef, undef, undef], defers := [] } ∧
        ∃ v, Hid (MidN W w.heap.size vx vy v vx' vy' (pre.length + 1) (pre.length + 1) ((pre ++ [x]).map nmV) ((pre ++ [x]).map szV)) ∧ w' = (v.setCell ⟨w.heap.size + 1 + 1 + 1 + 1 + 1, 0, none⟩ vx').setCell ⟨w.heap.size + 1 + 1 + 1 + 1 + 1 + 1, 0, none⟩ vy') (by kernel_rfl) ?plain ?rest ?region
    case plain =>
      intro o ho
      simp only [List.mem_cons, List.not_mem_nil, or_false] at ho
      rcases ho with rfl | rfl | rfl | rfl | rfl | rfl | rfl | rfl | rfl | rfl <;> exact ⟨fun ρ => Oper.semAt_plain _ _ _ (by intro c hc; cases hc), fun w ρ => by simp [Oper.about, resolve, Target.leads, Sem.run_pure]⟩
    case region =>
      refine takeV 0 vx rfl (by kernel_rfl) (by kernel_rfl) (by kernel_rfl) (by kernel_rfl) (by kernel_rfl) (by decide) (by rfl) (fun v hv => by have h := hv.1; go_simp) (hSof hM0.out.kept) ?_
      simp only [Act.put, List.setIfInBounds_toArray, List.set_cons_succ, List.set_cons_zero]
      refine takeV 4 vy rfl (by kernel_rfl) (by kernel_rfl) (by kernel_rfl) (by kernel_rfl) (by kernel_rfl) (by decide) (by rfl) (fun v hv => by have h := hv.2; go_simp) (hSof hM0.out.kept) ?_
      simp only [Act.put, List.setIfInBounds_toArray, List.set_cons_succ, List.set_cons_zero]
      refine takeV 1 (nmV x) rfl (by kernel_rfl) (by kernel_rfl) (by kernel_rfl) (by kernel_rfl) (by kernel_rfl) (by decide) (by rfl) (fun v hv => by go_simp) (hSof hM0.out.kept) ?_
      simp only [Act.put, List.setIfInBounds_toArray, List.set_cons_succ, List.set_cons_zero]
      refine takeV 5 (szV x) rfl (by kernel_rfl) (by kernel_rfl) (by kernel_rfl) (by kernel_rfl) (by kernel_rfl) (by decide) (by rfl) (fun v hv => by go_simp) (hSof hM0.out.kept) ?_
      simp only [Act.put, List.setIfInBounds_toArray, List.set_cons_succ, List.set_cons_zero]
      have hM1 := hid (show MidN W w.heap.size vx vy (W.drew.alloc (.cells #[nmV x] 9)) vx vy (pre.length) (pre.length) (pre.map nmV) (pre.map szV) from hM0.out.alloc _)
      have hx2 := hid (show (W.drew.alloc (.cells #[nmV x] 9)).heap[W.drew.heap.size]? = some (.cells [nmV x].toArray 9 (0, 0)) from heap_alloc_at rfl)
      have hM3 := hid (show MidN W w.heap.size vx vy (W.drew.alloc (.cells #[szV x] 3)) vx vy (pre.length) (pre.length) (pre.map nmV) (pre.map szV) from hM0.out.alloc _)
      have hy4 := hid (show (W.drew.alloc (.cells #[szV x] 3)).heap[W.drew.heap.size]? = some (.cells [szV x].toArray 3 (0, 0)) from heap_alloc_at rfl)
      refine bothV 2 6 rfl rfl (by kernel_rfl) (by rfl) (by rfl) (.slice (some ⟨W.drew.heap.size, 0, none⟩) 1 1) (W.drew.alloc (.cells #[nmV x] 9)) (by have h := build_nm (S x.name) W.drew; unfold execOp; simp [Act.eval, Act.put, h]) (fun _ => hSof hM1.out.kept) (.slice (some ⟨W.drew.heap.size, 0, none⟩) 1 1) (W.drew.alloc (.cells #[szV x] 3)) (by have h := build_sz x.b.length W.drew; unfold execOp; simp [Act.eval, Act.put, szV, h]) (fun _ => hSof hM3.out.kept) ?_ ?_
      · simp only [Act.put, List.setIfInBounds_toArray, List.set_cons_succ, List.set_cons_zero]
        obtain ⟨ux5, U6, hr7, ho8, hg9, -, hn10⟩ := run_append_k (P := Try.prog) (W.drew.alloc (.cells #[nmV x] 9)) 44 44 w.heap.size 9 i0 _ 1 16 Try.underlying44 hi0 hz0 hz1 hz2 rfl (by decide) vx pre.length _ hM1.out.rowx _ 1 [nmV x] (one_src hx2.out) rfl (by simp [Value.oneCell', szV]) (by unfold maxLen; omega) (by omega) (by have := hMs hM1.out.kept; omega)
        have hM11 := hid (show MidN W w.heap.size vx vy U6 ux5 vy (pre.length + 1) (pre.length) ((pre ++ [x]).map nmV) (pre.map szV) from hM1.out.appx (by rw [List.map_append]; simpa using ho8) hg9 hn10)
        clear ho8 hn10
        have hM12 := hid (show MidN W w.heap.size vx vy ((W.drew.alloc (.cells #[nmV x] 9)).alloc (.cells #[szV x] 3)) vx vy (pre.length) (pre.length) (pre.map nmV) (pre.map szV) from hM1.out.alloc _)
        have hy13 := hid (show ((W.drew.alloc (.cells #[nmV x] 9)).alloc (.cells #[szV x] 3)).heap[(W.drew.alloc (.cells #[nmV x] 9)).heap.size]? = some (.cells [szV x].toArray 3 (0, 0)) from heap_alloc_at rfl)
        have hx14 := hid (show ((W.drew.alloc (.cells #[nmV x] 9)).alloc (.cells #[szV x] 3)).heap[W.drew.heap.size]? = some (.cells [nmV x].toArray 9 (0, 0)) from heap_alloc_old hx2.out)
        refine bothV 3 6 rfl rfl (by kernel_rfl) (by rfl) (by rfl) ux5 U6 (run_app_op (.tmp 20) (.tmp 22) 44 rfl _ _ _ rfl rfl hr7) (fun _ => hSof hM11.out.kept) (.slice (some ⟨(W.drew.alloc (.cells #[nmV x] 9)).heap.size, 0, none⟩) 1 1) ((W.drew.alloc (.cells #[nmV x] 9)).alloc (.cells #[szV x] 3)) (by have h := build_sz x.b.length (W.drew.alloc (.cells #[nmV x] 9)); unfold execOp; simp [Act.eval, Act.put, szV, h]) (fun _ => hSof hM12.out.kept) ?_ ?_
        · simp only [Act.put, List.setIfInBounds_toArray, List.set_cons_succ, List.set_cons_zero]
          have hM15 := hid (show MidN W w.heap.size vx vy (U6.alloc (.cells #[szV x] 3)) ux5 vy (pre.length + 1) (pre.length) ((pre ++ [x]).map nmV) (pre.map szV) from hM11.out.alloc _)
          have hy16 := hid (show (U6.alloc (.cells #[szV x] 3)).heap[U6.heap.size]? = some (.cells [szV x].toArray 3 (0, 0)) from heap_alloc_at rfl)
          refine runV 6 rfl (by kernel_rfl) (by rfl) (.slice (some ⟨U6.heap.size, 0, none⟩) 1 1) (U6.alloc (.cells #[szV x] 3)) (by have h := build_sz x.b.length U6; unfold execOp; simp [Act.eval, Act.put, szV, h]) (fun _ => hSof hM15.out.kept) ?_
          simp only [Act.put, List.setIfInBounds_toArray, List.set_cons_succ, List.set_cons_zero]
          obtain ⟨uy17, U18, hr19, ho20, hg21, -, hn22⟩ := run_append_k (P := Try.prog) (U6.alloc (.cells #[szV x] 3)) 45 45 w.heap.size 3 j0 _ 1 8 Try.underlying45 hj0 hy0 hy1 hy2 rfl (by decide) vy pre.length _ hM15.out.rowy _ 1 [szV x] (one_src hy16.out) rfl (by simp [Value.oneCell', szV]) (by unfold maxLen; omega) (by omega) (by have := hMs hM15.out.kept; omega)
          have hM23 := hid (show MidN W w.heap.size vx vy U18 ux5 uy17 (pre.length + 1) (pre.length + 1) ((pre ++ [x]).map nmV) ((pre ++ [x]).map szV) from hM15.out.appy (by rw [List.map_append]; simpa using ho20) hg21 hn22)
          clear ho20 hn22
          refine runV 7 rfl (by kernel_rfl) (by rfl) uy17 U18 (run_app_op (.tmp 24) (.tmp 26) 45 rfl _ _ _ rfl rfl hr19) (fun _ => hSof hM23.out.kept) ?_
          simp only [Act.put, List.setIfInBounds_toArray, List.set_cons_succ, List.set_cons_zero]
          have c1 := cell_of_one (hcx hM23.out.kept)
          have f1 := free_of_one (hcx hM23.out.kept)
          obtain ⟨ax, cx2, rfl⟩ := owns_slice hM23.out.rowx
          obtain ⟨ay, cy2, rfl⟩ := owns_slice hM23.out.rowy
          refine writeV 8 rfl (by kernel_rfl) (by rfl) (U18.setCell ⟨w.heap.size + 1 + 1 + 1 + 1 + 1, 0, none⟩ (.slice ax (pre.length + 1) cx2)) (by go_simp) (fun h => absurd (by simp) h) ?_
          simp only [Act.put, List.setIfInBounds_toArray, List.set_cons_succ, List.set_cons_zero]
          have hcy2 := heap_setCell_other (p := ⟨w.heap.size + 1 + 1 + 1 + 1 + 1, 0, none⟩) (u := .slice ax (pre.length + 1) cx2) (hcy hM23.out.kept) (by simp)
          have c2 := cell_of_one hcy2
          have f2 := free_of_one hcy2
          refine writeV 9 rfl (by kernel_rfl) (by rfl) ((U18.setCell ⟨w.heap.size + 1 + 1 + 1 + 1 + 1, 0, none⟩ (.slice ax (pre.length + 1) cx2)).setCell ⟨w.heap.size + 1 + 1 + 1 + 1 + 1 + 1, 0, none⟩ (.slice ay (pre.length + 1) cy2)) (by go_simp) (fun h => absurd (by simp) h) ?_
          simp only [Act.put, List.setIfInBounds_toArray, List.set_cons_succ, List.set_cons_zero]
          exact doneV (by kernel_rfl) ⟨_, _, _, _, rfl, _, hM23, rfl⟩ _
        · simp only [Act.put, List.setIfInBounds_toArray, List.set_cons_succ, List.set_cons_zero]
          obtain ⟨ux24, U25, hr26, ho27, hg28, -, hn29⟩ := run_append_k (P := Try.prog) ((W.drew.alloc (.cells #[nmV x] 9)).alloc (.cells #[szV x] 3)) 44 44 w.heap.size 9 i0 _ 1 16 Try.underlying44 hi0 hz0 hz1 hz2 rfl (by decide) vx pre.length _ hM12.out.rowx _ 1 [nmV x] (one_src hx14.out) rfl (by simp [Value.oneCell', szV]) (by unfold maxLen; omega) (by omega) (by have := hMs hM12.out.kept; omega)
          have hM30 := hid (show MidN W w.heap.size vx vy U25 ux24 vy (pre.length + 1) (pre.length) ((pre ++ [x]).map nmV) (pre.map szV) from hM12.out.appx (by rw [List.map_append]; simpa using ho27) hg28 hn29)
          have hy31 := hid (show U25.heap[(W.drew.alloc (.cells #[nmV x] 9)).heap.size]? = some (.cells [szV x].toArray 3 (0, 0)) from heap_grown hg28 hy13.out (cell_far hM12.out.rowx hy13.out (by decide)))
          clear ho27 hn29
          refine runV 3 rfl (by kernel_rfl) (by rfl) ux24 U25 (run_app_op (.tmp 20) (.tmp 22) 44 rfl _ _ _ rfl rfl hr26) (fun _ => hSof hM30.out.kept) ?_
          simp only [Act.put, List.setIfInBounds_toArray, List.set_cons_succ, List.set_cons_zero]
          obtain ⟨uy32, U33, hr34, ho35, hg36, -, hn37⟩ := run_append_k (P := Try.prog) U25 45 45 w.heap.size 3 j0 _ 1 8 Try.underlying45 hj0 hy0 hy1 hy2 rfl (by decide) vy pre.length _ hM30.out.rowy _ 1 [szV x] (one_src hy31.out) rfl (by simp [Value.oneCell', szV]) (by unfold maxLen; omega) (by omega) (by have := hMs hM30.out.kept; omega)
          have hM38 := hid (show MidN W w.heap.size vx vy U33 ux24 uy32 (pre.length + 1) (pre.length + 1) ((pre ++ [x]).map nmV) ((pre ++ [x]).map szV) from hM30.out.appy (by rw [List.map_append]; simpa using ho35) hg36 hn37)
          clear ho35 hn37
          refine runV 7 rfl (by kernel_rfl) (by rfl) uy32 U33 (run_app_op (.tmp 24) (.tmp 26) 45 rfl _ _ _ rfl rfl hr34) (fun _ => hSof hM38.out.kept) ?_
          simp only [Act.put, List.setIfInBounds_toArray, List.set_cons_succ, List.set_cons_zero]
          have c1 := cell_of_one (hcx hM38.out.kept)
          have f1 := free_of_one (hcx hM38.out.kept)
          obtain ⟨ax, cx2, rfl⟩ := owns_slice hM38.out.rowx
          obtain ⟨ay, cy2, rfl⟩ := owns_slice hM38.out.rowy
          refine writeV 8 rfl (by kernel_rfl) (by rfl) (U33.setCell ⟨w.heap.size + 1 + 1 + 1 + 1 + 1, 0, none⟩ (.slice ax (pre.length + 1) cx2)) (by go_simp) (fun h => absurd (by simp) h) ?_
          simp only [Act.put, List.setIfInBounds_toArray, List.set_cons_succ, List.set_cons_zero]
          have hcy2 := heap_setCell_other (p := ⟨w.heap.size + 1 + 1 + 1 + 1 + 1, 0, none⟩) (u := .slice ax (pre.length + 1) cx2) (hcy hM38.out.kept) (by simp)
          have c2 := cell_of_one hcy2
          have f2 := free_of_one hcy2
          refine writeV 9 rfl (by kernel_rfl) (by rfl) ((U33.setCell ⟨w.heap.size + 1 + 1 + 1 + 1 + 1, 0, none⟩ (.slice ax (pre.length + 1) cx2)).setCell ⟨w.heap.size + 1 + 1 + 1 + 1 + 1 + 1, 0, none⟩ (.slice ay (pre.length + 1) cy2)) (by go_simp) (fun h => absurd (by simp) h) ?_
          simp only [Act.put, List.setIfInBounds_toArray, List.set_cons_succ, List.set_cons_zero]
          exact doneV (by kernel_rfl) ⟨_, _, _, _, rfl, _, hM38, rfl⟩ _
      · simp only [Act.put, List.setIfInBounds_toArray, List.set_cons_succ, List.set_cons_zero]
        have hM39 := hid (show MidN W w.heap.size vx vy ((W.drew.alloc (.cells #[szV x] 3)).alloc (.cells #[nmV x] 9)) vx vy (pre.length) (pre.length) (pre.map nmV) (pre.map szV) from hM3.out.alloc _)
        have hx40 := hid (show ((W.drew.alloc (.cells #[szV x] 3)).alloc (.cells #[nmV x] 9)).heap[(W.drew.alloc (.cells #[szV x] 3)).heap.size]? = some (.cells [nmV x].toArray 9 (0, 0)) from heap_alloc_at rfl)
        have hy41 := hid (show ((W.drew.alloc (.cells #[szV x] 3)).alloc (.cells #[nmV x] 9)).heap[W.drew.heap.size]? = some (.cells [szV x].toArray 3 (0, 0)) from heap_alloc_old hy4.out)
        refine runV 2 rfl (by kernel_rfl) (by rfl) (.slice (some ⟨(W.drew.alloc (.cells #[szV x] 3)).heap.size, 0, none⟩) 1 1) ((W.drew.alloc (.cells #[szV x] 3)).alloc (.cells #[nmV x] 9)) (by have h := build_nm (S x.name) (W.drew.alloc (.cells #[szV x] 3)); unfold execOp; simp [Act.eval, Act.put, h]) (fun _ => hSof hM39.out.kept) ?_
        simp only [Act.put, List.setIfInBounds_toArray, List.set_cons_succ, List.set_cons_zero]
        obtain ⟨ux42, U43, hr44, ho45, hg46, -, hn47⟩ := run_append_k (P := Try.prog) ((W.drew.alloc (.cells #[szV x] 3)).alloc (.cells #[nmV x] 9)) 44 44 w.heap.size 9 i0 _ 1 16 Try.underlying44 hi0 hz0 hz1 hz2 rfl (by decide) vx pre.length _ hM39.out.rowx _ 1 [nmV x] (one_src hx40.out) rfl (by simp [Value.oneCell', szV]) (by unfold maxLen; omega) (by omega) (by have := hMs hM39.out.kept; omega)
        have hM48 := hid (show MidN W w.heap.size vx vy U43 ux42 vy (pre.length + 1) (pre.length) ((pre ++ [x]).map nmV) (pre.map szV) from hM39.out.appx (by rw [List.map_append]; simpa using ho45) hg46 hn47)
        have hy49 := hid (show U43.heap[W.drew.heap.size]? = some (.cells [szV x].toArray 3 (0, 0)) from heap_grown hg46 hy41.out (cell_far hM39.out.rowx hy41.out (by decide)))
        clear ho45 hn47
        refine runV 3 rfl (by kernel_rfl) (by rfl) ux42 U43 (run_app_op (.tmp 20) (.tmp 22) 44 rfl _ _ _ rfl rfl hr44) (fun _ => hSof hM48.out.kept) ?_
        simp only [Act.put, List.setIfInBounds_toArray, List.set_cons_succ, List.set_cons_zero]
        obtain ⟨uy50, U51, hr52, ho53, hg54, -, hn55⟩ := run_append_k (P := Try.prog) U43 45 45 w.heap.size 3 j0 _ 1 8 Try.underlying45 hj0 hy0 hy1 hy2 rfl (by decide) vy pre.length _ hM48.out.rowy _ 1 [szV x] (one_src hy49.out) rfl (by simp [Value.oneCell', szV]) (by unfold maxLen; omega) (by omega) (by have := hMs hM48.out.kept; omega)
        have hM56 := hid (show MidN W w.heap.size vx vy U51 ux42 uy50 (pre.length + 1) (pre.length + 1) ((pre ++ [x]).map nmV) ((pre ++ [x]).map szV) from hM48.out.appy (by rw [List.map_append]; simpa using ho53) hg54 hn55)
        clear ho53 hn55
        refine runV 7 rfl (by kernel_rfl) (by rfl) uy50 U51 (run_app_op (.tmp 24) (.tmp 26) 45 rfl _ _ _ rfl rfl hr52) (fun _ => hSof hM56.out.kept) ?_
        simp only [Act.put, List.setIfInBounds_toArray, List.set_cons_succ, List.set_cons_zero]
        have c1 := cell_of_one (hcx hM56.out.kept)
        have f1 := free_of_one (hcx hM56.out.kept)
        obtain ⟨ax, cx2, rfl⟩ := owns_slice hM56.out.rowx
        obtain ⟨ay, cy2, rfl⟩ := owns_slice hM56.out.rowy
        refine writeV 8 rfl (by kernel_rfl) (by rfl) (U51.setCell ⟨w.heap.size + 1 + 1 + 1 + 1 + 1, 0, none⟩ (.slice ax (pre.length + 1) cx2)) (by go_simp) (fun h => absurd (by simp) h) ?_
        simp only [Act.put, List.setIfInBounds_toArray, List.set_cons_succ, List.set_cons_zero]
        have hcy2 := heap_setCell_other (p := ⟨w.heap.size + 1 + 1 + 1 + 1 + 1, 0, none⟩) (u := .slice ax (pre.length + 1) cx2) (hcy hM56.out.kept) (by simp)
        have c2 := cell_of_one hcy2
        have f2 := free_of_one hcy2
        refine writeV 9 rfl (by kernel_rfl) (by rfl) ((U51.setCell ⟨w.heap.size + 1 + 1 + 1 + 1 + 1, 0, none⟩ (.slice ax (pre.length + 1) cx2)).setCell ⟨w.heap.size + 1 + 1 + 1 + 1 + 1 + 1, 0, none⟩ (.slice ay (pre.length + 1) cy2)) (by go_simp) (fun h => absurd (by simp) h) ?_
        simp only [Act.put, List.setIfInBounds_toArray, List.set_cons_succ, List.set_cons_zero]
        exact doneV (by kernel_rfl) ⟨_, _, _, _, rfl, _, hM56, rfl⟩ _
    case rest =>
      rintro a' w' ⟨vx', vy', z1, z2, rfl, v, hv, hw'⟩
      have c5 := hcx hv.out.kept
      have c6 := hcy hv.out.kept
      obtain ⟨ax, ca, rfl⟩ := owns_slice hv.out.rowx
      obtain ⟨ay, cb, rfl⟩ := owns_slice hv.out.rowy
      have hk2 := hid (show Kept [w.heap.size + 5, w.heap.size + 6] v w' from hw' ▸ ((Kept.refl _ v).setCell (p := ⟨w.heap.size + 5, 0, none⟩) (fun _ => by simp) _).setCell (p := ⟨w.heap.size + 6, 0, none⟩) (fun _ => by simp) _)
      have hc5 := hid (show w'.heap[w.heap.size + 5]? = some (.cells #[.slice ax (pre.length + 1) ca] 44 (0, 0)) from hw' ▸ heap_setCell_other (one_setCell c5) (by simp))
      have hc6 := hid (show w'.heap[w.heap.size + 6]? = some (.cells #[.slice ay (pre.length + 1) cb] 45 (0, 0)) from hw' ▸ one_setCell (heap_setCell_other c6 (by simp)))
      have HV := hid hv.out
      have hkv := hid hv.out.kept
      have hR' : NR w' w.heap.size w1.heap.size most (.slice ax (pre.length + 1) ca) (.slice ay (pre.length + 1) cb) (pre ++ [x]) := by
        have e5 : ∀ k, w.heap.size ≤ k → k ≤ w.heap.size + 2 → k ∉ vx.ownBlock.toList ++ vy.ownBlock.toList := fun k h1 h2 hm => by
          simp at hm
          rcases hm with e | e
          · rcases HR.out.ownx _ e with e | e <;> omega
          · rcases HR.out.owny _ e with e | e <;> omega
        have hrx := hk2.out.owns HV.out.rowx (fun g hg hm => by
          rcases HV.out.newx g hg with e | e
          · rcases HR.out.ownx _ e with e | e <;> (simp at hm; omega)
          · simp at hm; omega)
        have hry := hk2.out.owns HV.out.rowy (fun g hg hm => by
          rcases HV.out.newy g hg with e | e
          · rcases HR.out.owny _ e with e | e <;> (simp at hm; omega)
          · simp at hm; omega)
        refine ⟨hk2.out.at (hkv.out.at HR.out.most_ (e5 _ (by omega) (by omega))) (by simp), hk2.out.at (hkv.out.at HR.out.resx (e5 _ (by omega) (by omega))) (by simp), hk2.out.at (hkv.out.at HR.out.resy (e5 _ (by omega) (by omega))) (by simp), hc5.out, hc6.out,
          by rw [List.length_append]; exact hrx, by rw [List.length_append]; exact hry, fun g hg => ?_, fun g hg => ?_⟩
        · rcases HV.out.newx g hg with e | e
          · exact HR.out.ownx _ e
          · right; omega
        · rcases HV.out.newy g hg with e | e
          · exact HR.out.owny _ e
          · right; omega
      have HR' := hid hR'
      have hkeep := hid (show Keep (fun k => ONeed b3 b4 la oa k ∨ k = w1.heap.size ∨ k = w1.heap.size + 1) W w' from
        (hkv.out.keep (fun k _ hk hm => by
          simp at hm
          have hb : k ≤ w1.heap.size + 1 ∧ k ≠ w.heap.size + 3 ∧ k ≠ w.heap.size + 4 := by
            rcases hk with hk | hk
            · have := hneed.out k hk; omega
            · omega
          rcases hm with e | e
          · rcases HR.out.ownx _ e with e | e <;> omega
          · rcases HR.out.owny _ e with e | e <;> omega)).trans (hk2.out.keep (fun k _ hk => by
          rcases hk with hk | hk
          · have := hneed.out k hk; simp; omega
          · simp; omega)))
      have Hk2 := hid (show Kept [] w w' from (Hk0.out.trans' hkv.out (fun k hl hm => by
        simp at hm
        rcases hm with e | e
        · rcases HR.out.ownx _ e with e | e <;> omega
        · rcases HR.out.owny _ e with e | e <;> omega)).trans' hk2.out (fun k hl hm => by simp at hm; omega))
      have cx' : w'.cell? ⟨w.heap.size + 1 + 1 + 1 + 1 + 1, 0, none⟩ = some (.slice ax (pre.length + 1) ca) := cell_of_one hc5.out
      have cm' : w'.cell? ⟨w.heap.size, 0, none⟩ = some (.int .i64 (most : Int)) := cell_of_one HR'.out.most_
      have hplen := hid hlen
      clear hv hw' hR' c5 c6
      by_cases hlast : pre.length + 1 = most
      · have hne : ((pre.length : Int) + 1 == (most : Int)) = true := by simp; omega
        gi_wp2
        have cy' : w'.cell? ⟨w.heap.size + 1 + 1 + 1 + 1 + 1 + 1, 0, none⟩ = some (.slice ay (pre.length + 1) cb) := cell_of_one hc6.out
        have r1 : w'.cell? ⟨w.heap.size + 1, 0, none⟩ = some (.slice none 0 0) := cell_of_one HR'.out.resx
        have q1 : w'.frozen? ⟨w.heap.size + 1, 0, none⟩ = false := free_of_one HR'.out.resx
        have r2 : w'.cell? ⟨w.heap.size + 1 + 1, 0, none⟩ = some (.slice none 0 0) := cell_of_one HR'.out.resy
        have q2 : w'.frozen? ⟨w.heap.size + 1 + 1, 0, none⟩ = false := free_of_one HR'.out.resy
        refine wpIn_region_V (fun v => v.cell? ⟨w.heap.size + 1 + 1 + 1 + 1 + 1, 0, none⟩ = some (.slice ax (pre.length + 1) ca) ∧ v.cell? ⟨w.heap.size + 1 + 1 + 1 + 1 + 1 + 1, 0, none⟩ = some (.slice ay (pre.length + 1) cb)) []
          (fun a' w'' => a'.defers = [] ∧ w'' = (w'.drew.setCell ⟨w.heap.size + 1, 0, none⟩ (.slice ax (pre.length + 1) ca)).setCell ⟨w.heap.size + 1 + 1, 0, none⟩ (.slice ay (pre.length + 1) cb)) (by kernel_rfl) ?plain3 ?rest3 ?region3
        case plain3 =>
          intro o ho
          simp only [List.mem_cons, List.not_mem_nil, or_false] at ho
          rcases ho with rfl | rfl | rfl | rfl <;> exact ⟨fun ρ => Oper.semAt_plain _ _ _ (by intro c hc; cases hc), fun w ρ => by simp [Oper.about, resolve, Target.leads, Sem.run_pure]⟩
        case region3 =>
          refine takeV 0 (.slice ax (pre.length + 1) ca) rfl (by kernel_rfl) (by kernel_rfl) (by kernel_rfl) (by kernel_rfl) (by kernel_rfl) (by decide) (by rfl) (fun v hv => by have h := hv.1; go_simp) ⟨cx', cy'⟩ ?_
          simp only [Act.put, List.setIfInBounds_toArray, List.set_cons_succ, List.set_cons_zero]
          refine takeV 1 (.slice ay (pre.length + 1) cb) rfl (by kernel_rfl) (by kernel_rfl) (by kernel_rfl) (by kernel_rfl) (by kernel_rfl) (by decide) (by rfl) (fun v hv => by have h := hv.2; go_simp) ⟨cx', cy'⟩ ?_
          simp only [Act.put, List.setIfInBounds_toArray, List.set_cons_succ, List.set_cons_zero]
          have r1' : w'.drew.cell? ⟨w.heap.size + 1, 0, none⟩ = some (.slice none 0 0) := r1
          have q1' : w'.drew.frozen? ⟨w.heap.size + 1, 0, none⟩ = false := q1
          have k1 := (Kept.refl [w.heap.size + 1] w'.drew).setCell (p := ⟨w.heap.size + 1, 0, none⟩) (fun _ => by simp) (.slice ax (pre.length + 1) ca)
          refine writeV 2 rfl (by kernel_rfl) (by rfl) (w'.drew.setCell ⟨w.heap.size + 1, 0, none⟩ (.slice ax (pre.length + 1) ca)) (by go_simp) (fun _ => ⟨cell_of_one (k1.at (show w'.drew.heap[w.heap.size + 1 + 1 + 1 + 1 + 1]? = _ from HR'.out.cx) (by simp; omega)), cell_of_one (k1.at (show w'.drew.heap[w.heap.size + 1 + 1 + 1 + 1 + 1 + 1]? = _ from HR'.out.cy) (by simp; omega))⟩) ?_
          simp only [Act.put, List.setIfInBounds_toArray, List.set_cons_succ, List.set_cons_zero]
          have hb2 := k1.at (show w'.drew.heap[w.heap.size + 1 + 1]? = _ from HR'.out.resy) (by simp)
          have r2' := cell_of_one hb2
          have q2' := free_of_one hb2
          have k2 := ((Kept.refl [w.heap.size + 1, w.heap.size + 1 + 1] w'.drew).setCell (p := ⟨w.heap.size + 1, 0, none⟩) (fun _ => by simp) (.slice ax (pre.length + 1) ca)).setCell (p := ⟨w.heap.size + 1 + 1, 0, none⟩) (fun _ => by simp) (.slice ay (pre.length + 1) cb)
          refine writeV 3 rfl (by kernel_rfl) (by rfl) ((w'.drew.setCell ⟨w.heap.size + 1, 0, none⟩ (.slice ax (pre.length + 1) ca)).setCell ⟨w.heap.size + 1 + 1, 0, none⟩ (.slice ay (pre.length + 1) cb)) (by go_simp) (fun _ => ⟨cell_of_one (k2.at (show w'.drew.heap[w.heap.size + 1 + 1 + 1 + 1 + 1]? = _ from HR'.out.cx) (by simp; omega)), cell_of_one (k2.at (show w'.drew.heap[w.heap.size + 1 + 1 + 1 + 1 + 1 + 1]? = _ from HR'.out.cy) (by simp; omega))⟩) ?_
          simp only [Act.put, List.setIfInBounds_toArray, List.set_cons_succ, List.set_cons_zero]
          exact doneV (by kernel_rfl) ⟨rfl, rfl⟩ _
        case rest3 =>
          rintro a' w'' ⟨hd', hw''⟩
          gi_wp2
          have hk4 : Kept [w.heap.size + 1, w.heap.size + 2] w' w'' := hw'' ▸ (((Kept.refl _ w').drew).setCell (p := ⟨w.heap.size + 1, 0, none⟩) (fun _ => by simp) _).setCell (p := ⟨w.heap.size + 2, 0, none⟩) (fun _ => by simp) _
          have e1 : w''.heap[w.heap.size + 1]? = some (.cells #[.slice ax (pre.length + 1) ca] 44 (0, 0)) := hw'' ▸ heap_setCell_other (one_setCell (show w'.drew.heap[w.heap.size + 1]? = _ from HR'.out.resx)) (by simp)
          have e2 : w''.heap[w.heap.size + 2]? = some (.cells #[.slice ay (pre.length + 1) cb] 45 (0, 0)) := hw'' ▸ one_setCell (heap_setCell_other (show w'.drew.heap[w.heap.size + 1 + 1]? = _ from HR'.out.resy) (by simp))
          have hkk : Keep (fun k => k = w1.heap.size ∨ k = w1.heap.size + 1) W w'' := by
            have h1 := hkeep.out
            exact (⟨h1.os, h1.tape, h1.output, h1.size, fun k hk hl => h1.block k (Or.inr hk) hl⟩ : Keep (fun k => k = w1.heap.size ∨ k = w1.heap.size + 1) W w').trans (hk4.keep (fun k _ hk => by simp; omega))
          have hix : (pre ++ [x]).length = most ∧ (pre ++ [x]).length ≤ es.length ∧ Kept [] w w'' ∧ ∃ a c ay n2 cb, w''.heap[w.heap.size + 1]? = some (.cells #[.slice a most c] 44 (0, 0)) ∧ w''.heap[w.heap.size + 2]? = some (.cells #[.slice ay n2 cb] 45 (0, 0)) :=
            ⟨by simp; omega, by simp; have := hplen.out; omega, Hk2.out.trans' hk4 (fun k hl hm => by simp at hm; omega), ax, ca, ay, _, cb, by rw [← hlast]; exact e1, e2⟩
          first
          | exact ⟨fun k hk => hkk k (Or.inr hk), hix⟩
          | exact ⟨hkk.mono (fun k hk => Or.inr hk), hix⟩
          | exact ⟨hkk.sub (fun k hk => Or.inr hk), hix⟩
          | exact ⟨⟨hkk.1, fun k hk => hkk.2 k (Or.inr hk)⟩, hix⟩
          | exact ⟨hd', hkk, hix⟩
          | exact ⟨hkk, hix⟩
          | (unfold RPost; simp only []; first | exact ⟨hd', hkk, hix⟩ | exact ⟨hkk, hix⟩ | exact ⟨hkk, hd', hix⟩)
      · have hne : ((pre.length : Int) + 1 == (most : Int)) = false := by simp; omega
        gi_wp2
        exact ⟨hkeep.out, by simp; omega, Hk2.out, _, _, HR'.out⟩
  case done =>
    rintro ps W rfl ⟨hlt, hk0, vx, vy, hR⟩ _ hK
    obtain ⟨ax, ca, rfl⟩ := owns_slice hR.rowx
    obtain ⟨ay, cb, rfl⟩ := owns_slice hR.rowy
    have cx := cell_of_one hR.cx
    have cy := cell_of_one hR.cy
    have r1 : W.cell? ⟨w.heap.size + 1, 0, none⟩ = some (.slice none 0 0) := cell_of_one hR.resx
    have q1 : W.frozen? ⟨w.heap.size + 1, 0, none⟩ = false := free_of_one hR.resx
    have r2 : W.cell? ⟨w.heap.size + 1 + 1, 0, none⟩ = some (.slice none 0 0) := cell_of_one hR.resy
    have q2 : W.frozen? ⟨w.heap.size + 1 + 1, 0, none⟩ = false := free_of_one hR.resy
    have HR := hid hR; have Hk0 := hid hk0
    clear hR hk0
    gi_wp2
    refine wpIn_region_V (fun v => v.cell? ⟨w.heap.size + 1 + 1 + 1 + 1 + 1, 0, none⟩ = some (.slice ax ps.length ca) ∧ v.cell? ⟨w.heap.size + 1 + 1 + 1 + 1 + 1 + 1, 0, none⟩ = some (.slice ay ps.length cb)) []
      (fun a' w' => a'.defers = [{ target := Target.collected w1.heap.size, args := #[] }] ∧ a'.tmps[4]?.getD undef = .pointer (some ⟨w.heap.size + 1, 0, none⟩) ∧ a'.tmps[5]?.getD undef = .pointer (some ⟨w.heap.size + 1 + 1, 0, none⟩) ∧ w' = (W.drew.setCell ⟨w.heap.size + 1, 0, none⟩ (.slice ax ps.length ca)).setCell ⟨w.heap.size + 1 + 1, 0, none⟩ (.slice ay ps.length cb)) (by kernel_rfl) ?plain2 ?rest2 ?region2
    case plain2 =>
      intro o ho
      simp only [List.mem_cons, List.not_mem_nil, or_false] at ho
      rcases ho with rfl | rfl | rfl | rfl <;> exact ⟨fun ρ => Oper.semAt_plain _ _ _ (by intro c hc; cases hc), fun w ρ => by simp [Oper.about, resolve, Target.leads, Sem.run_pure]⟩
    case region2 =>
      refine takeV 0 (.slice ax ps.length ca) rfl (by kernel_rfl) (by kernel_rfl) (by kernel_rfl) (by kernel_rfl) (by kernel_rfl) (by decide) (by rfl) (fun v hv => by have h := hv.1; go_simp) ⟨cx, cy⟩ ?_
      simp only [Act.put, List.setIfInBounds_toArray, List.set_cons_succ, List.set_cons_zero]
      refine takeV 1 (.slice ay ps.length cb) rfl (by kernel_rfl) (by kernel_rfl) (by kernel_rfl) (by kernel_rfl) (by kernel_rfl) (by decide) (by rfl) (fun v hv => by have h := hv.2; go_simp) ⟨cx, cy⟩ ?_
      simp only [Act.put, List.setIfInBounds_toArray, List.set_cons_succ, List.set_cons_zero]
      have r1' : W.drew.cell? ⟨w.heap.size + 1, 0, none⟩ = some (.slice none 0 0) := r1
      have q1' : W.drew.frozen? ⟨w.heap.size + 1, 0, none⟩ = false := q1
      have k1 := (Kept.refl [w.heap.size + 1] W.drew).setCell (p := ⟨w.heap.size + 1, 0, none⟩) (fun _ => by simp) (.slice ax ps.length ca)
      refine writeV 2 rfl (by kernel_rfl) (by rfl) (W.drew.setCell ⟨w.heap.size + 1, 0, none⟩ (.slice ax ps.length ca)) (by go_simp) (fun _ => ⟨cell_of_one (k1.at (show W.drew.heap[w.heap.size + 1 + 1 + 1 + 1 + 1]? = _ from HR.out.cx) (by simp; omega)), cell_of_one (k1.at (show W.drew.heap[w.heap.size + 1 + 1 + 1 + 1 + 1 + 1]? = _ from HR.out.cy) (by simp; omega))⟩) ?_
      simp only [Act.put, List.setIfInBounds_toArray, List.set_cons_succ, List.set_cons_zero]
      have hb2 := k1.at (show W.drew.heap[w.heap.size + 1 + 1]? = _ from HR.out.resy) (by simp)
      have r2' := cell_of_one hb2
      have q2' := free_of_one hb2
      have k2 := ((Kept.refl [w.heap.size + 1, w.heap.size + 1 + 1] W.drew).setCell (p := ⟨w.heap.size + 1, 0, none⟩) (fun _ => by simp) (.slice ax ps.length ca)).setCell (p := ⟨w.heap.size + 1 + 1, 0, none⟩) (fun _ => by simp) (.slice ay ps.length cb)
      refine writeV 3 rfl (by kernel_rfl) (by rfl) ((W.drew.setCell ⟨w.heap.size + 1, 0, none⟩ (.slice ax ps.length ca)).setCell ⟨w.heap.size + 1 + 1, 0, none⟩ (.slice ay ps.length cb)) (by go_simp) (fun _ => ⟨cell_of_one (k2.at (show W.drew.heap[w.heap.size + 1 + 1 + 1 + 1 + 1]? = _ from HR.out.cx) (by simp; omega)), cell_of_one (k2.at (show W.drew.heap[w.heap.size + 1 + 1 + 1 + 1 + 1 + 1]? = _ from HR.out.cy) (by simp; omega))⟩) ?_
      simp only [Act.put, List.setIfInBounds_toArray, List.set_cons_succ, List.set_cons_zero]
      exact doneV (by kernel_rfl) ⟨rfl, rfl, rfl, rfl⟩ _
    case rest2 =>
      rintro a' w' ⟨hd', ht4, ht5, hw'⟩
      have hk4 : Kept [w.heap.size + 1, w.heap.size + 2] W w' := hw' ▸ (((Kept.refl _ W).drew).setCell (p := ⟨w.heap.size + 1, 0, none⟩) (fun _ => by simp) _).setCell (p := ⟨w.heap.size + 2, 0, none⟩) (fun _ => by simp) _
      have e1 : w'.heap[w.heap.size + 1]? = some (.cells #[.slice ax ps.length ca] 44 (0, 0)) := hw' ▸ heap_setCell_other (one_setCell (show W.drew.heap[w.heap.size + 1]? = _ from HR.out.resx)) (by simp)
      have e2 : w'.heap[w.heap.size + 2]? = some (.cells #[.slice ay ps.length cb] 45 (0, 0)) := hw' ▸ one_setCell (heap_setCell_other (show W.drew.heap[w.heap.size + 1 + 1]? = _ from HR.out.resy) (by simp))
      have hK2 := hk4.at hK (by simp; omega)
      obtain ⟨tm, df⟩ := a'
      dsimp only at hd' ht4 ht5
      subst hd'
      clear hw'
      gi_wp2
      refine ⟨by simp, .inl ⟨_, _, rfl, run_takeDeferred hK2, ?_⟩⟩
      have hkd := kept_putObj w' w1.heap.size (.deferred none)
      have e3 := cell_of_one (hkd.at e1 (by simp; omega))
      have e4 : (w'.putObj w1.heap.size (.deferred none)).cell? ⟨w.heap.size + 1 + 1, 0, none⟩ = some (.slice ay ps.length cb) := cell_of_one (hkd.at e2 (by simp; omega))
      have hno : ∀ k, (k = w.heap.size + 1 ∨ k = w.heap.size + 2 ∨ k = w1.heap.size) → k ∉ (Value.slice ax ps.length ca).ownBlock.toList ∧ k ∉ (Value.slice ay ps.length cb).ownBlock.toList := fun k hk => ⟨fun hm => by
        simp at hm
        rcases HR.out.ownx _ hm with e | e <;> omega, fun hm => by
        simp at hm
        rcases HR.out.owny _ hm with e | e <;> omega⟩
      refine ⟨.tuple #[.slice ax ps.length ca, .slice ay ps.length cb], ?_, ax, ca, _, by rw [show min most ps.length = ps.length by omega], (Hk0.out.trans' hk4 (fun x hx hm => by simp at hm; omega)).trans' hkd (fun x hx hm => by simp at hm; omega)⟩
      · simp [results, Try.f14, go_sem, ht4, ht5, e3, e4]
set_option maxRecDepth 100000 in
set_option maxHeartbeats 4000000 in
theorem names_none (w : World) (p : Nat) :
    Calls Try.prog 14 #[.pointer (some ⟨p, 0, none⟩), .int .i64 0] w fun e w' => ∃ a c vy, e = .returned (.tuple #[.slice a 0 c, vy]) ∧ Kept [] w w' := by
  refine (callsIn_wide (n := 4)).1 ?_
  refine callsIn_of_wp_marks Try.func14 rfl trivial ?_ rfl
  simp only [Try.ntmps14, List.size_toArray, List.length_cons, List.length_nil, Nat.reduceAdd, Nat.reduceSub, Array.replicate_succ, Array.replicate_zero, List.push_toArray, List.append_toArray, List.nil_append, List.cons_append]
  gi_wp2
  obtain ⟨W0, hW0⟩ : ∃ W0, W0 = (((((((w.alloc (.cells #[.int .i64 0] 3)).alloc (.cells #[.slice none 0 0] 44)).alloc (.cells #[.slice none 0 0] 45)).alloc (.cells #[] 9)).alloc (.cells #[] 3)).alloc (.cells #[.slice (some ⟨w.heap.size + 1 + 1 + 1, 0, none⟩) 0 0] 44)).alloc (.cells #[.slice (some ⟨w.heap.size + 1 + 1 + 1 + 1, 0, none⟩) 0 0] 45)) := ⟨_, rfl⟩
  have k00 : Kept [] w W0 := hW0 ▸ ((((((((Kept.refl [] w).alloc _).alloc _).alloc _).alloc _).alloc _).alloc _).alloc _)
  have q1 : W0.heap[w.heap.size + 1]? = some (.cells #[.slice none 0 0] 44 (0, 0)) := by
    rw [hW0]; exact heap_alloc_old (heap_alloc_old (heap_alloc_old (heap_alloc_old (heap_alloc_old (heap_alloc_at (by simp))))))
  have q2 : W0.heap[w.heap.size + 1 + 1]? = some (.cells #[.slice none 0 0] 45 (0, 0)) := by
    rw [hW0]; exact heap_alloc_old (heap_alloc_old (heap_alloc_old (heap_alloc_old (heap_alloc_at (by simp)))))
  have q5 : W0.heap[w.heap.size + 1 + 1 + 1 + 1 + 1]? = some (.cells #[.slice (some ⟨w.heap.size + 1 + 1 + 1, 0, none⟩) 0 0] 44 (0, 0)) := by
    rw [hW0]; exact heap_alloc_old (heap_alloc_at (by simp))
  have q6 : W0.heap[w.heap.size + 1 + 1 + 1 + 1 + 1 + 1]? = some (.cells #[.slice (some ⟨w.heap.size + 1 + 1 + 1 + 1, 0, none⟩) 0 0] 45 (0, 0)) := by
    rw [hW0]; exact heap_alloc_at (by simp)
  rw [← hW0]
  have K00 := hid k00
  clear hW0 k00
  have cx := cell_of_one q5
  have cy := cell_of_one q6
  have r1 : W0.cell? ⟨w.heap.size + 1, 0, none⟩ = some (.slice none 0 0) := cell_of_one q1
  have f1 : W0.frozen? ⟨w.heap.size + 1, 0, none⟩ = false := free_of_one q1
  have r2 : W0.cell? ⟨w.heap.size + 1 + 1, 0, none⟩ = some (.slice none 0 0) := cell_of_one q2
  have f2 : W0.frozen? ⟨w.heap.size + 1 + 1, 0, none⟩ = false := free_of_one q2
  refine wpIn_region_V (fun v => v.cell? ⟨w.heap.size + 1 + 1 + 1 + 1 + 1, 0, none⟩ = some (.slice (some ⟨w.heap.size + 1 + 1 + 1, 0, none⟩) 0 0) ∧ v.cell? ⟨w.heap.size + 1 + 1 + 1 + 1 + 1 + 1, 0, none⟩ = some (.slice (some ⟨w.heap.size + 1 + 1 + 1 + 1, 0, none⟩) 0 0)) []
    (fun a' w' => a'.defers = [] ∧ a'.tmps[4]?.getD undef = .pointer (some ⟨w.heap.size + 1, 0, none⟩) ∧ a'.tmps[5]?.getD undef = .pointer (some ⟨w.heap.size + 1 + 1, 0, none⟩) ∧ w' = (W0.drew.setCell ⟨w.heap.size + 1, 0, none⟩ (.slice (some ⟨w.heap.size + 1 + 1 + 1, 0, none⟩) 0 0)).setCell ⟨w.heap.size + 1 + 1, 0, none⟩ (.slice (some ⟨w.heap.size + 1 + 1 + 1 + 1, 0, none⟩) 0 0)) (by kernel_rfl) ?plain2 ?rest2 ?region2
  case plain2 =>
    intro o ho
    simp only [List.mem_cons, List.not_mem_nil, or_false] at ho
    rcases ho with rfl | rfl | rfl | rfl <;> exact ⟨fun ρ => Oper.semAt_plain _ _ _ (by intro c hc; cases hc), fun w ρ => by simp [Oper.about, resolve, Target.leads, Sem.run_pure]⟩
  case region2 =>
    refine takeV 0 (.slice (some ⟨w.heap.size + 1 + 1 + 1, 0, none⟩) 0 0) rfl (by kernel_rfl) (by kernel_rfl) (by kernel_rfl) (by kernel_rfl) (by kernel_rfl) (by decide) (by rfl) (fun v hv => by have h := hv.1; go_simp) ⟨cx, cy⟩ ?_
    simp only [Act.put, List.setIfInBounds_toArray, List.set_cons_succ, List.set_cons_zero]
    refine takeV 1 (.slice (some ⟨w.heap.size + 1 + 1 + 1 + 1, 0, none⟩) 0 0) rfl (by kernel_rfl) (by kernel_rfl) (by kernel_rfl) (by kernel_rfl) (by kernel_rfl) (by decide) (by rfl) (fun v hv => by have h := hv.2; go_simp) ⟨cx, cy⟩ ?_
    simp only [Act.put, List.setIfInBounds_toArray, List.set_cons_succ, List.set_cons_zero]
    have r1' : W0.drew.cell? ⟨w.heap.size + 1, 0, none⟩ = some (.slice none 0 0) := r1
    have q1' : W0.drew.frozen? ⟨w.heap.size + 1, 0, none⟩ = false := f1
    have k1 := (Kept.refl [w.heap.size + 1] W0.drew).setCell (p := ⟨w.heap.size + 1, 0, none⟩) (fun _ => by simp) (.slice (some ⟨w.heap.size + 1 + 1 + 1, 0, none⟩) 0 0)
    refine writeV 2 rfl (by kernel_rfl) (by rfl) (W0.drew.setCell ⟨w.heap.size + 1, 0, none⟩ (.slice (some ⟨w.heap.size + 1 + 1 + 1, 0, none⟩) 0 0)) (by go_simp) (fun _ => ⟨cell_of_one (k1.at (show W0.drew.heap[w.heap.size + 1 + 1 + 1 + 1 + 1]? = _ from q5) (by simp; omega)), cell_of_one (k1.at (show W0.drew.heap[w.heap.size + 1 + 1 + 1 + 1 + 1 + 1]? = _ from q6) (by simp; omega))⟩) ?_
    simp only [Act.put, List.setIfInBounds_toArray, List.set_cons_succ, List.set_cons_zero]
    have hb2 := k1.at (show W0.drew.heap[w.heap.size + 1 + 1]? = _ from q2) (by simp)
    have r2' := cell_of_one hb2
    have q2' := free_of_one hb2
    have k2 := ((Kept.refl [w.heap.size + 1, w.heap.size + 1 + 1] W0.drew).setCell (p := ⟨w.heap.size + 1, 0, none⟩) (fun _ => by simp) (.slice (some ⟨w.heap.size + 1 + 1 + 1, 0, none⟩) 0 0)).setCell (p := ⟨w.heap.size + 1 + 1, 0, none⟩) (fun _ => by simp) (.slice (some ⟨w.heap.size + 1 + 1 + 1 + 1, 0, none⟩) 0 0)
    refine writeV 3 rfl (by kernel_rfl) (by rfl) ((W0.drew.setCell ⟨w.heap.size + 1, 0, none⟩ (.slice (some ⟨w.heap.size + 1 + 1 + 1, 0, none⟩) 0 0)).setCell ⟨w.heap.size + 1 + 1, 0, none⟩ (.slice (some ⟨w.heap.size + 1 + 1 + 1 + 1, 0, none⟩) 0 0)) (by go_simp) (fun _ => ⟨cell_of_one (k2.at (show W0.drew.heap[w.heap.size + 1 + 1 + 1 + 1 + 1]? = _ from q5) (by simp; omega)), cell_of_one (k2.at (show W0.drew.heap[w.heap.size + 1 + 1 + 1 + 1 + 1 + 1]? = _ from q6) (by simp; omega))⟩) ?_
    simp only [Act.put, List.setIfInBounds_toArray, List.set_cons_succ, List.set_cons_zero]
    exact doneV (by kernel_rfl) ⟨rfl, rfl, rfl, rfl⟩ _
  case rest2 =>
    rintro a' w' ⟨hd', ht4, ht5, hw'⟩
    have hk4 : Kept [w.heap.size + 1, w.heap.size + 1 + 1] W0 w' := hw' ▸ (((Kept.refl _ W0).drew).setCell (p := ⟨w.heap.size + 1, 0, none⟩) (fun _ => by simp) _).setCell (p := ⟨w.heap.size + 1 + 1, 0, none⟩) (fun _ => by simp) _
    have e1 : w'.heap[w.heap.size + 1]? = some (.cells #[.slice (some ⟨w.heap.size + 1 + 1 + 1, 0, none⟩) 0 0] 44 (0, 0)) := hw' ▸ heap_setCell_other (one_setCell (show W0.drew.heap[w.heap.size + 1]? = _ from q1)) (by simp)
    have e2 : w'.heap[w.heap.size + 1 + 1]? = some (.cells #[.slice (some ⟨w.heap.size + 1 + 1 + 1 + 1, 0, none⟩) 0 0] 45 (0, 0)) := hw' ▸ one_setCell (heap_setCell_other (show W0.drew.heap[w.heap.size + 1 + 1]? = _ from q2) (by simp))
    have e3 := cell_of_one e1
    have e4 := cell_of_one e2
    obtain ⟨tm, df⟩ := a'
    dsimp only at hd' ht4 ht5
    subst hd'
    clear hw'
    gi_wp2
    refine ⟨.tuple #[.slice (some ⟨w.heap.size + 1 + 1 + 1, 0, none⟩) 0 0, .slice (some ⟨w.heap.size + 1 + 1 + 1 + 1, 0, none⟩) 0 0], ?_, _, _, _, rfl, K00.out.trans' hk4 (fun x hx hm => by simp at hm; omega)⟩
    simp [results, Try.f14, go_sem, ht4, ht5, e3, e4]
theorem names_upto (w : World) (U : List Nat) (p T : Nat) (more : List Value) (q : Int) (es : List Ent) (fv : Value) (fl : List Bool) (k : Nat) (h : Ob w U p T more q es fv fl k) (most : Nat) (hm2 : most ≤ 7) :
    Calls Try.prog 14 #[.pointer (some ⟨p, 0, none⟩), .int .i64 (most : Int)] w fun e w' => ∃ a c vy, e = .returned (.tuple #[.slice a (min most es.length) c, vy]) ∧ Kept [] w w' := by
  by_cases h0 : most = 0
  · subst h0
    rw [Nat.zero_min]
    exact names_none w p
  · exact names_upto0 w U p T more q es fv fl k h most (by omega) hm2 h.small.2.1
end Go.Proofs.Ytmholofhmpplcaa
