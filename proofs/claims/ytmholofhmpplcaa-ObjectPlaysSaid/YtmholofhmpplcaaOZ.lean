import Derived.Test.YtmholofhmpplcaaMX
import Derived.Test.YtmholofhmpplcaaJ3
import Derived.Test.YtmholofhmpplcaaH4

/- ref06.Op. -/
namespace Go.Proofs.Ytmholofhmpplcaa
open Go.RowKit Go.Lib Go.Maps

theorem ref_st (W : World) (p : Nat) (row : Value) (q k left : Int) (flv : Value) (h : W.heap[p]? = some (.cells #[row, .int .i64 q, .int .i64 k, .int .i64 left, flv] 35 (0, 0))) :
    (loadVar 35 ⟨p, 0, none⟩).run Try.prog W = .ok (stR row q k left flv) W :=
  run_loadVar_cells W _ _ [row, .int .i64 q, .int .i64 k, .int .i64 left, flv] _ Try.underlying35 rfl (by kernel_rfl) (fun j v hj => by rw [add_plain, cell_of_row _ _ j _ _ _ h]; simpa using hj)
set_option maxRecDepth 100000 in
set_option maxHeartbeats 4000000 in
theorem ref_op (ra : Option Addr) (rn rc : Nat) (q k left : Int) (flv : Value) (fl : List Bool) (T : List Nat) (w : World) (hf : SrcS w T flv fl.length (fl.map .bool)) (h0 : left ≠ 0) (hl : -1 ≤ left ∧ left ≤ 9223372036854775807) (hk : 0 ≤ k ∧ k ≤ 1099511627776) (hT : ∀ x ∈ T, x < w.heap.size) (hfl : fl.length ≤ 1000000) :
    Calls Try.prog 43 #[stR (.slice ra rn rc) q k left flv] w fun e w' => ∃ flv', e = .returned (.tuple #[stR (.slice ra rn rc) q (k + 1) (decL left) flv', .int .i64 (opE fl)]) ∧ Kept [] w w' ∧ SrcS w' T flv' (fl.drop 1).length ((fl.drop 1).map .bool) := by
  have hne : (left == 0) = false := by simpa using h0
  have hkk : IntKind.i64.wrap (k + 1) = k + 1 := by rw [IntKind.wrap_i64]; omega
  obtain ⟨hfl0, fa, fc, rfl, hc1, hc2, hc3, hcc⟩ := id hf
  have HF := hid hf
  unfold stR
  by_cases hp : 0 < left
  · have hll : IntKind.i64.wrap (left - 1) = left - 1 := by rw [IntKind.wrap_i64]; omega
    have hdl := hid (show decL left = left - 1 by unfold decL; rw [if_pos hp])
    cases fl with
    | nil =>
      clear hcc
      have hka := hid (show Kept [] w ((w.alloc (.cells #[.slice ra rn rc, .int .i64 q, .int .i64 (k + 1), .int .i64 (left - 1), .slice fa 0 fc] 35)).alloc (.cells #[.slice ra rn rc, .int .i64 q, .int .i64 (k + 1), .int .i64 (left - 1), .slice fa 0 fc] 35)) from ((Kept.refl [] w).alloc _).alloc _)
      have hld := hid (ref_st ((w.alloc (.cells #[.slice ra rn rc, .int .i64 q, .int .i64 (k + 1), .int .i64 (left - 1), .slice fa 0 fc] 35)).alloc (.cells #[.slice ra rn rc, .int .i64 q, .int .i64 (k + 1), .int .i64 (left - 1), .slice fa 0 fc] 35)) (w.heap.size + 1) (.slice ra rn rc) q (k + 1) (left - 1) (.slice fa 0 fc) (heap_alloc_at (by simp)))
      go_enter Try.func43, Try.ntmps43
      go_wp2_with fail
      refine bodyPost_ret (v := .tuple #[stR (.slice ra rn rc) q (k + 1) (left - 1) (.slice fa 0 fc), .int .i64 0]) (results_cell2 Try.results43 rfl rfl hld.out) rfl ?_
      exact ⟨_, by rw [hdl.out]; rfl, hka.out, HF.out.kept hka.out (by simp)⟩
    | cons b r =>
      cases b
      · obtain ⟨x, rfl, hxT, hx⟩ := hcc 0 (.bool false) rfl
        have hx0 : x.add 0 = x := by simp [Addr.add]
        rw [hx0] at hx
        have hxl : x.block < w.heap.size := World.block_lt_of_cell? _ _ hx
        obtain ⟨a2, c2, hsl, hv2⟩ := bool_rest (.slice (some x) (r.length + 1) fc) r.length (.bool false) (r.map .bool) T w (by simpa using hf)
        have hka := hid (show Kept [] w ((w.alloc (.cells #[.slice ra rn rc, .int .i64 q, .int .i64 (k + 1), .int .i64 (left - 1), .slice a2 r.length c2] 35)).alloc (.cells #[.slice ra rn rc, .int .i64 q, .int .i64 (k + 1), .int .i64 (left - 1), .slice a2 r.length c2] 35)) from ((Kept.refl [] w).alloc _).alloc _)
        have hld := hid (ref_st ((w.alloc (.cells #[.slice ra rn rc, .int .i64 q, .int .i64 (k + 1), .int .i64 (left - 1), .slice a2 r.length c2] 35)).alloc (.cells #[.slice ra rn rc, .int .i64 q, .int .i64 (k + 1), .int .i64 (left - 1), .slice a2 r.length c2] 35)) (w.heap.size + 1) (.slice ra rn rc) q (k + 1) (left - 1) (.slice a2 r.length c2) (heap_alloc_at (by simp)))
        have hfin := hid (hv2 _ (by simpa using hf.kept hka.out (by simp)))
        have hlen : (false :: r).length = r.length + 1 := rfl
        have gx : ∀ o o', ((w.alloc o).alloc o').cell? x = some (.bool false) := fun o o' => ((((Kept.refl [] w).alloc o).alloc o').cell hxl (by simp)).trans hx
        rw [hlen]
        clear hcc hv2 hf hfl0 hlen HF hfl hc3
        obtain ⟨n, hn⟩ : ∃ n, n = r.length := ⟨_, rfl⟩
        have HN := hid hn
        rw [← hn] at hsl hka hld hfin ⊢
        clear hn hc1
        go_enter Try.func43, Try.ntmps43
        go_wp2_with fail
        refine bodyPost_ret (v := .tuple #[stR (.slice ra rn rc) q (k + 1) (left - 1) (.slice a2 n c2), .int .i64 0]) (results_cell2 Try.results43 rfl rfl hld.out) rfl ?_
        exact ⟨_, by rw [hdl.out]; rfl, hka.out, by first | (rw [show (List.drop 1 (false :: r)).length = n from HN.out.symm]; exact hfin.out) | (rw [← HN.out]; exact hfin.out)⟩
      · obtain ⟨x, rfl, hxT, hx⟩ := hcc 0 (.bool true) rfl
        have hx0 : x.add 0 = x := by simp [Addr.add]
        rw [hx0] at hx
        have hxl : x.block < w.heap.size := World.block_lt_of_cell? _ _ hx
        obtain ⟨a2, c2, hsl, hv2⟩ := bool_rest (.slice (some x) (r.length + 1) fc) r.length (.bool true) (r.map .bool) T w (by simpa using hf)
        have hka := hid (show Kept [] w ((w.alloc (.cells #[.slice ra rn rc, .int .i64 q, .int .i64 (k + 1), .int .i64 (left - 1), .slice a2 r.length c2] 35)).alloc (.cells #[.slice ra rn rc, .int .i64 q, .int .i64 (k + 1), .int .i64 (left - 1), .slice a2 r.length c2] 35)) from ((Kept.refl [] w).alloc _).alloc _)
        have hld := hid (ref_st ((w.alloc (.cells #[.slice ra rn rc, .int .i64 q, .int .i64 (k + 1), .int .i64 (left - 1), .slice a2 r.length c2] 35)).alloc (.cells #[.slice ra rn rc, .int .i64 q, .int .i64 (k + 1), .int .i64 (left - 1), .slice a2 r.length c2] 35)) (w.heap.size + 1) (.slice ra rn rc) q (k + 1) (left - 1) (.slice a2 r.length c2) (heap_alloc_at (by simp)))
        have hfin := hid (hv2 _ (by simpa using hf.kept hka.out (by simp)))
        have hlen : (true :: r).length = r.length + 1 := rfl
        have gx : ∀ o o', ((w.alloc o).alloc o').cell? x = some (.bool true) := fun o o' => ((((Kept.refl [] w).alloc o).alloc o').cell hxl (by simp)).trans hx
        rw [hlen]
        clear hcc hv2 hf hfl0 hlen HF hfl hc3
        obtain ⟨n, hn⟩ : ∃ n, n = r.length := ⟨_, rfl⟩
        have HN := hid hn
        rw [← hn] at hsl hka hld hfin ⊢
        clear hn hc1
        go_enter Try.func43, Try.ntmps43
        go_wp2_with fail
        refine bodyPost_ret (v := .tuple #[stR (.slice ra rn rc) q (k + 1) (left - 1) (.slice a2 n c2), .int .i64 30]) (results_cell2 Try.results43 rfl rfl hld.out) rfl ?_
        exact ⟨_, by rw [hdl.out]; rfl, hka.out, by first | (rw [show (List.drop 1 (true :: r)).length = n from HN.out.symm]; exact hfin.out) | (rw [← HN.out]; exact hfin.out)⟩
  · have hdl := hid (show decL left = left by unfold decL; rw [if_neg hp])
    cases fl with
    | nil =>
      clear hcc
      have hka := hid (show Kept [] w ((w.alloc (.cells #[.slice ra rn rc, .int .i64 q, .int .i64 (k + 1), .int .i64 (left), .slice fa 0 fc] 35)).alloc (.cells #[.slice ra rn rc, .int .i64 q, .int .i64 (k + 1), .int .i64 (left), .slice fa 0 fc] 35)) from ((Kept.refl [] w).alloc _).alloc _)
      have hld := hid (ref_st ((w.alloc (.cells #[.slice ra rn rc, .int .i64 q, .int .i64 (k + 1), .int .i64 (left), .slice fa 0 fc] 35)).alloc (.cells #[.slice ra rn rc, .int .i64 q, .int .i64 (k + 1), .int .i64 (left), .slice fa 0 fc] 35)) (w.heap.size + 1) (.slice ra rn rc) q (k + 1) (left) (.slice fa 0 fc) (heap_alloc_at (by simp)))
      go_enter Try.func43, Try.ntmps43
      go_wp2_with fail
      refine bodyPost_ret (v := .tuple #[stR (.slice ra rn rc) q (k + 1) (left) (.slice fa 0 fc), .int .i64 0]) (results_cell2 Try.results43 rfl rfl hld.out) rfl ?_
      exact ⟨_, by rw [hdl.out]; rfl, hka.out, HF.out.kept hka.out (by simp)⟩
    | cons b r =>
      cases b
      · obtain ⟨x, rfl, hxT, hx⟩ := hcc 0 (.bool false) rfl
        have hx0 : x.add 0 = x := by simp [Addr.add]
        rw [hx0] at hx
        have hxl : x.block < w.heap.size := World.block_lt_of_cell? _ _ hx
        obtain ⟨a2, c2, hsl, hv2⟩ := bool_rest (.slice (some x) (r.length + 1) fc) r.length (.bool false) (r.map .bool) T w (by simpa using hf)
        have hka := hid (show Kept [] w ((w.alloc (.cells #[.slice ra rn rc, .int .i64 q, .int .i64 (k + 1), .int .i64 (left), .slice a2 r.length c2] 35)).alloc (.cells #[.slice ra rn rc, .int .i64 q, .int .i64 (k + 1), .int .i64 (left), .slice a2 r.length c2] 35)) from ((Kept.refl [] w).alloc _).alloc _)
        have hld := hid (ref_st ((w.alloc (.cells #[.slice ra rn rc, .int .i64 q, .int .i64 (k + 1), .int .i64 (left), .slice a2 r.length c2] 35)).alloc (.cells #[.slice ra rn rc, .int .i64 q, .int .i64 (k + 1), .int .i64 (left), .slice a2 r.length c2] 35)) (w.heap.size + 1) (.slice ra rn rc) q (k + 1) (left) (.slice a2 r.length c2) (heap_alloc_at (by simp)))
        have hfin := hid (hv2 _ (by simpa using hf.kept hka.out (by simp)))
        have hlen : (false :: r).length = r.length + 1 := rfl
        have gx : ∀ o o', ((w.alloc o).alloc o').cell? x = some (.bool false) := fun o o' => ((((Kept.refl [] w).alloc o).alloc o').cell hxl (by simp)).trans hx
        rw [hlen]
        clear hcc hv2 hf hfl0 hlen HF hfl hc3
        obtain ⟨n, hn⟩ : ∃ n, n = r.length := ⟨_, rfl⟩
        have HN := hid hn
        rw [← hn] at hsl hka hld hfin ⊢
        clear hn hc1
        go_enter Try.func43, Try.ntmps43
        go_wp2_with fail
        refine bodyPost_ret (v := .tuple #[stR (.slice ra rn rc) q (k + 1) (left) (.slice a2 n c2), .int .i64 0]) (results_cell2 Try.results43 rfl rfl hld.out) rfl ?_
        exact ⟨_, by rw [hdl.out]; rfl, hka.out, by first | (rw [show (List.drop 1 (false :: r)).length = n from HN.out.symm]; exact hfin.out) | (rw [← HN.out]; exact hfin.out)⟩
      · obtain ⟨x, rfl, hxT, hx⟩ := hcc 0 (.bool true) rfl
        have hx0 : x.add 0 = x := by simp [Addr.add]
        rw [hx0] at hx
        have hxl : x.block < w.heap.size := World.block_lt_of_cell? _ _ hx
        obtain ⟨a2, c2, hsl, hv2⟩ := bool_rest (.slice (some x) (r.length + 1) fc) r.length (.bool true) (r.map .bool) T w (by simpa using hf)
        have hka := hid (show Kept [] w ((w.alloc (.cells #[.slice ra rn rc, .int .i64 q, .int .i64 (k + 1), .int .i64 (left), .slice a2 r.length c2] 35)).alloc (.cells #[.slice ra rn rc, .int .i64 q, .int .i64 (k + 1), .int .i64 (left), .slice a2 r.length c2] 35)) from ((Kept.refl [] w).alloc _).alloc _)
        have hld := hid (ref_st ((w.alloc (.cells #[.slice ra rn rc, .int .i64 q, .int .i64 (k + 1), .int .i64 (left), .slice a2 r.length c2] 35)).alloc (.cells #[.slice ra rn rc, .int .i64 q, .int .i64 (k + 1), .int .i64 (left), .slice a2 r.length c2] 35)) (w.heap.size + 1) (.slice ra rn rc) q (k + 1) (left) (.slice a2 r.length c2) (heap_alloc_at (by simp)))
        have hfin := hid (hv2 _ (by simpa using hf.kept hka.out (by simp)))
        have hlen : (true :: r).length = r.length + 1 := rfl
        have gx : ∀ o o', ((w.alloc o).alloc o').cell? x = some (.bool true) := fun o o' => ((((Kept.refl [] w).alloc o).alloc o').cell hxl (by simp)).trans hx
        rw [hlen]
        clear hcc hv2 hf hfl0 hlen HF hfl hc3
        obtain ⟨n, hn⟩ : ∃ n, n = r.length := ⟨_, rfl⟩
        have HN := hid hn
        rw [← hn] at hsl hka hld hfin ⊢
        clear hn hc1
        go_enter Try.func43, Try.ntmps43
        go_wp2_with fail
        refine bodyPost_ret (v := .tuple #[stR (.slice ra rn rc) q (k + 1) (left) (.slice a2 n c2), .int .i64 30]) (results_cell2 Try.results43 rfl rfl hld.out) rfl ?_
        exact ⟨_, by rw [hdl.out]; rfl, hka.out, by first | (rw [show (List.drop 1 (true :: r)).length = n from HN.out.symm]; exact hfin.out) | (rw [← HN.out]; exact hfin.out)⟩
end Go.Proofs.Ytmholofhmpplcaa
