import Derived.Test.YtmfjfahlgcdehaaDoorJ7
import Derived.Test.YtmfjfahlgcdehaaDoorJ2
import Derived.Test.YtmfjfahlgcdehaaDoorHW
import Derived.Sort.Grow

/- snap.compare, snap.Less. -/
namespace Go.Proofs.YtmfjfahlgcdehaaDoor
open Go.RowKit Go.Lib Go.Sort

theorem kept_grow (w : World) (q : Nat) (os : Array Obj) : Kept [] w (grow (w.drewN q) os) :=
  ⟨rfl, rfl, rfl, by simp [grow, World.drewN], fun k hk _ => by
    show (w.heap ++ os)[k]? = _
    rw [Array.getElem?_append_left hk]⟩
/-- A world that came of w by draws and new blocks alone. -/
def Grown (w v : World) : Prop := ∃ q os, v = grow (w.drewN q) os
theorem Grown.kept {w v : World} (h : Grown w v) : Kept [] w v := by obtain ⟨q, os, rfl⟩ := h; exact kept_grow w q os
theorem Grown.refl (w : World) : Grown w w := ⟨0, #[], by rw [grow_empty]; rfl⟩
theorem Grown.alloc {w v : World} (h : Grown w v) (o : Obj) : Grown w (v.alloc o) := by
  obtain ⟨q, os, rfl⟩ := h
  exact ⟨q, os ++ #[o], by rw [alloc_eq_grow, grow_grow]⟩
theorem Grown.drew {w v : World} (h : Grown w v) : Grown w v.drew := by
  obtain ⟨q, os, rfl⟩ := h
  exact ⟨q + 1, os, rfl⟩

/-- Which snapshot is ahead: below 0, if x is. -/
def Sp.cmp (x y : Sp) : Int := orL [cmpI x.time y.time, cmpS x.host y.host, cmpS x.tag y.tag, Lib.compareBytes x.root y.root, cmpI x.files y.files, cmpI x.bytes y.bytes]

set_option maxRecDepth 100000 in
set_option maxHeartbeats 4000000 in
theorem j_compare (x y : Sp) (hx : x.ok) (hy : y.ok) (w : World) :
    Calls Tryd.prog 38 #[.agg x.cells.toArray, .agg y.cells.toArray] w fun e w' => e = .returned (.int .i64 (x.cmp y)) ∧ Grown w w' := by
  obtain ⟨W, hW⟩ : ∃ W, W = (w.alloc (.cells x.cells.toArray 28)).alloc (.cells y.cells.toArray 28) := ⟨_, rfl⟩
  have GW : Grown w W := by rw [hW]; exact ((Grown.refl w).alloc _).alloc _
  have hsz := hid (show W.heap.size = w.heap.size + 2 by rw [hW]; simp)
  have AX0 : At W w.heap.size x := by rw [hW]; exact heap_alloc_old (heap_alloc_at rfl)
  have AY0 : At W (w.heap.size + 1) y := by rw [hW]; exact heap_alloc_at (by simp)
  have hup := hid (show ∀ v, Grown w v → w.heap.size + 2 ≤ v.heap.size → True from fun _ _ _ => trivial)
  have AX := hid (fun (v : World) (h : Grown W v) => AX0.kept h.kept (by simp))
  have AY := hid (fun (v : World) (h : Grown W v) => AY0.kept h.kept (by simp))
  have hcb := hid (fun (v : World) (h : Grown W v) => (show Calls Tryd.prog 70 #[.slice (some ⟨w.heap.size, 3, none⟩) 32 32, .slice (some ⟨w.heap.size + 1, 3, none⟩) 32 32] v (fun e w' => e = .returned (.int .i64 (Lib.compareBytes x.root y.root)) ∧ Grown W w') from by
    have hc := compare_any ⟨w.heap.size, 3, none⟩ ⟨w.heap.size + 1, 3, none⟩ 32 32 x.root y.root v
      (fun j u hj => by
        rw [List.getElem?_map] at hj
        obtain ⟨b, hb, rfl⟩ := Option.map_eq_some_iff.1 hj
        rw [plain_add]; exact (AX.out v h).cell _ _ (Sp.cr hx j b hb))
      (fun j u hj => by
        rw [List.getElem?_map] at hj
        obtain ⟨b, hb, rfl⟩ := Option.map_eq_some_iff.1 hj
        rw [plain_add]; exact (AY.out v h).cell _ _ (Sp.cr hy j b hb))
    rw [hx.root, hy.root] at hc
    exact hc.mono fun e w' h' => ⟨h'.1, h'.2.symm ▸ h⟩))
  have HW := hid hW; have HGW := hid GW
  clear hW GW AX0 AY0 hup
  go_enter Tryd.func38, Tryd.ntmps38
  go_wp2_with fail
  rw [← HW.out]
  refine wp_region_held_drew (S := Grown W) (by kernel_rfl) (Grown.refl W).drew (fun hH => ?_)
  refine takeH 0 (.pointer (some ⟨w.heap.size, 0, none⟩)) rfl (by kernel_rfl) (by kernel_rfl) (by kernel_rfl) (fun _ _ _ h => h) (by rfl) (fun v hv => by go_simp) hH ?_
  simp only [Act.put, List.setIfInBounds_toArray, List.set_cons_succ, List.set_cons_zero]
  refine takeH 2 (.pointer (some ⟨w.heap.size + 1, 0, none⟩)) rfl (by kernel_rfl) (by kernel_rfl) (by kernel_rfl) (fun _ _ _ h => h) (by rfl) (fun v hv => by go_simp) hH ?_
  simp only [Act.put, List.setIfInBounds_toArray, List.set_cons_succ, List.set_cons_zero]
  refine takeH 5 (.pointer (some ⟨w.heap.size, 1, none⟩)) rfl (by kernel_rfl) (by kernel_rfl) (by kernel_rfl) (fun _ _ _ h => h) (by rfl) (fun v hv => by go_simp) hH ?_
  simp only [Act.put, List.setIfInBounds_toArray, List.set_cons_succ, List.set_cons_zero]
  refine takeH 7 (.pointer (some ⟨w.heap.size + 1, 1, none⟩)) rfl (by kernel_rfl) (by kernel_rfl) (by kernel_rfl) (fun _ _ _ h => h) (by rfl) (fun v hv => by go_simp) hH ?_
  simp only [Act.put, List.setIfInBounds_toArray, List.set_cons_succ, List.set_cons_zero]
  refine takeH 10 (.pointer (some ⟨w.heap.size, 2, none⟩)) rfl (by kernel_rfl) (by kernel_rfl) (by kernel_rfl) (fun _ _ _ h => h) (by rfl) (fun v hv => by go_simp) hH ?_
  simp only [Act.put, List.setIfInBounds_toArray, List.set_cons_succ, List.set_cons_zero]
  refine takeH 12 (.pointer (some ⟨w.heap.size + 1, 2, none⟩)) rfl (by kernel_rfl) (by kernel_rfl) (by kernel_rfl) (fun _ _ _ h => h) (by rfl) (fun v hv => by go_simp) hH ?_
  simp only [Act.put, List.setIfInBounds_toArray, List.set_cons_succ, List.set_cons_zero]
  refine takeH 15 (.pointer (some ⟨w.heap.size, 3, none⟩)) rfl (by kernel_rfl) (by kernel_rfl) (by kernel_rfl) (fun _ _ _ h => h) (by rfl) (fun v hv => by go_simp) hH ?_
  simp only [Act.put, List.setIfInBounds_toArray, List.set_cons_succ, List.set_cons_zero]
  refine takeH 17 (.pointer (some ⟨w.heap.size + 1, 3, none⟩)) rfl (by kernel_rfl) (by kernel_rfl) (by kernel_rfl) (fun _ _ _ h => h) (by rfl) (fun v hv => by go_simp) hH ?_
  simp only [Act.put, List.setIfInBounds_toArray, List.set_cons_succ, List.set_cons_zero]
  refine takeH 20 (.pointer (some ⟨w.heap.size, 35, none⟩)) rfl (by kernel_rfl) (by kernel_rfl) (by kernel_rfl) (fun _ _ _ h => h) (by rfl) (fun v hv => by go_simp) hH ?_
  simp only [Act.put, List.setIfInBounds_toArray, List.set_cons_succ, List.set_cons_zero]
  refine takeH 22 (.pointer (some ⟨w.heap.size + 1, 35, none⟩)) rfl (by kernel_rfl) (by kernel_rfl) (by kernel_rfl) (fun _ _ _ h => h) (by rfl) (fun v hv => by go_simp) hH ?_
  simp only [Act.put, List.setIfInBounds_toArray, List.set_cons_succ, List.set_cons_zero]
  refine takeH 25 (.pointer (some ⟨w.heap.size, 36, none⟩)) rfl (by kernel_rfl) (by kernel_rfl) (by kernel_rfl) (fun _ _ _ h => h) (by rfl) (fun v hv => by go_simp) hH ?_
  simp only [Act.put, List.setIfInBounds_toArray, List.set_cons_succ, List.set_cons_zero]
  refine takeH 27 (.pointer (some ⟨w.heap.size + 1, 36, none⟩)) rfl (by kernel_rfl) (by kernel_rfl) (by kernel_rfl) (fun _ _ _ h => h) (by rfl) (fun v hv => by go_simp) hH ?_
  simp only [Act.put, List.setIfInBounds_toArray, List.set_cons_succ, List.set_cons_zero]
  refine takeH 1 (.int .i64 x.time) rfl (by kernel_rfl) (by kernel_rfl) (by kernel_rfl) (fun _ _ _ h => h) (by rfl) (fun v hv => by have g := (AX.out v hv).cell 0 _ x.c0; go_simp) hH ?_
  simp only [Act.put, List.setIfInBounds_toArray, List.set_cons_succ, List.set_cons_zero]
  refine takeH 3 (.int .i64 y.time) rfl (by kernel_rfl) (by kernel_rfl) (by kernel_rfl) (fun _ _ _ h => h) (by rfl) (fun v hv => by have g := (AY.out v hv).cell 0 _ y.c0; go_simp) hH ?_
  simp only [Act.put, List.setIfInBounds_toArray, List.set_cons_succ, List.set_cons_zero]
  refine takeH 6 (.string (S x.host)) rfl (by kernel_rfl) (by kernel_rfl) (by kernel_rfl) (fun _ _ _ h => h) (by rfl) (fun v hv => by have g := (AX.out v hv).cell 1 _ x.c1; go_simp) hH ?_
  simp only [Act.put, List.setIfInBounds_toArray, List.set_cons_succ, List.set_cons_zero]
  refine takeH 8 (.string (S y.host)) rfl (by kernel_rfl) (by kernel_rfl) (by kernel_rfl) (fun _ _ _ h => h) (by rfl) (fun v hv => by have g := (AY.out v hv).cell 1 _ y.c1; go_simp) hH ?_
  simp only [Act.put, List.setIfInBounds_toArray, List.set_cons_succ, List.set_cons_zero]
  refine takeH 11 (.string (S x.tag)) rfl (by kernel_rfl) (by kernel_rfl) (by kernel_rfl) (fun _ _ _ h => h) (by rfl) (fun v hv => by have g := (AX.out v hv).cell 2 _ x.c2; go_simp) hH ?_
  simp only [Act.put, List.setIfInBounds_toArray, List.set_cons_succ, List.set_cons_zero]
  refine takeH 13 (.string (S y.tag)) rfl (by kernel_rfl) (by kernel_rfl) (by kernel_rfl) (fun _ _ _ h => h) (by rfl) (fun v hv => by have g := (AY.out v hv).cell 2 _ y.c2; go_simp) hH ?_
  simp only [Act.put, List.setIfInBounds_toArray, List.set_cons_succ, List.set_cons_zero]
  refine takeH 21 (.int .i64 x.files) rfl (by kernel_rfl) (by kernel_rfl) (by kernel_rfl) (fun _ _ _ h => h) (by rfl) (fun v hv => by have g := (AX.out v hv).cell 35 _ (Sp.c35 hx); go_simp) hH ?_
  simp only [Act.put, List.setIfInBounds_toArray, List.set_cons_succ, List.set_cons_zero]
  refine takeH 23 (.int .i64 y.files) rfl (by kernel_rfl) (by kernel_rfl) (by kernel_rfl) (fun _ _ _ h => h) (by rfl) (fun v hv => by have g := (AY.out v hv).cell 35 _ (Sp.c35 hy); go_simp) hH ?_
  simp only [Act.put, List.setIfInBounds_toArray, List.set_cons_succ, List.set_cons_zero]
  refine takeH 26 (.int .i64 x.bytes) rfl (by kernel_rfl) (by kernel_rfl) (by kernel_rfl) (fun _ _ _ h => h) (by rfl) (fun v hv => by have g := (AX.out v hv).cell 36 _ (Sp.c36 hx); go_simp) hH ?_
  simp only [Act.put, List.setIfInBounds_toArray, List.set_cons_succ, List.set_cons_zero]
  refine takeH 28 (.int .i64 y.bytes) rfl (by kernel_rfl) (by kernel_rfl) (by kernel_rfl) (fun _ _ _ h => h) (by rfl) (fun v hv => by have g := (AY.out v hv).cell 36 _ (Sp.c36 hy); go_simp) hH ?_
  simp only [Act.put, List.setIfInBounds_toArray, List.set_cons_succ, List.set_cons_zero]
  refine takeH 16 (.slice (some ⟨w.heap.size, 3, none⟩) 32 32) rfl (by kernel_rfl) (by kernel_rfl) (by kernel_rfl) (fun _ _ _ h => h) (by rfl) (fun v hv => by have g := slice_root w.heap.size v; go_simp) hH ?_
  simp only [Act.put, List.setIfInBounds_toArray, List.set_cons_succ, List.set_cons_zero]
  refine takeH 18 (.slice (some ⟨w.heap.size + 1, 3, none⟩) 32 32) rfl (by kernel_rfl) (by kernel_rfl) (by kernel_rfl) (fun _ _ _ h => h) (by rfl) (fun v hv => by have g := slice_root (w.heap.size + 1) v; go_simp) hH ?_
  simp only [Act.put, List.setIfInBounds_toArray, List.set_cons_succ, List.set_cons_zero]
  refine callH 4 rfl (by kernel_rfl) (by rfl) 68 #[.int .i64 x.time, .int .i64 y.time] (by go_simp) (.int .i64 (cmpI x.time y.time)) hH (fun hS => (cmp64_any x.time y.time _).mono fun e w' h => ⟨h.1, h.2 ▸ hS⟩) ?_
  clear hH
  intro vv hH
  simp only [Act.put, List.setIfInBounds_toArray, List.set_cons_succ, List.set_cons_zero]
  refine callH 9 rfl (by kernel_rfl) (by rfl) 69 #[.string (S x.host), .string (S y.host)] (by go_simp) (.int .i64 (cmpS x.host y.host)) hH (fun hS => (cmps_any x.host y.host _).mono fun e w' h => ⟨h.1, h.2 ▸ hS⟩) ?_
  clear hH
  intro vv hH
  simp only [Act.put, List.setIfInBounds_toArray, List.set_cons_succ, List.set_cons_zero]
  refine callH 14 rfl (by kernel_rfl) (by rfl) 69 #[.string (S x.tag), .string (S y.tag)] (by go_simp) (.int .i64 (cmpS x.tag y.tag)) hH (fun hS => (cmps_any x.tag y.tag _).mono fun e w' h => ⟨h.1, h.2 ▸ hS⟩) ?_
  clear hH
  intro vv hH
  simp only [Act.put, List.setIfInBounds_toArray, List.set_cons_succ, List.set_cons_zero]
  refine callH 19 rfl (by kernel_rfl) (by rfl) 70 #[.slice (some ⟨w.heap.size, 3, none⟩) 32 32, .slice (some ⟨w.heap.size + 1, 3, none⟩) 32 32] (by go_simp) (.int .i64 (Lib.compareBytes x.root y.root)) hH (fun hS => hcb.out _ hS) ?_
  clear hH
  intro vv hH
  simp only [Act.put, List.setIfInBounds_toArray, List.set_cons_succ, List.set_cons_zero]
  refine callH 24 rfl (by kernel_rfl) (by rfl) 71 #[.int .i64 x.files, .int .i64 y.files] (by go_simp) (.int .i64 (cmpI x.files y.files)) hH (fun hS => (cmpi_any x.files y.files _).mono fun e w' h => ⟨h.1, h.2 ▸ hS⟩) ?_
  clear hH
  intro vv hH
  simp only [Act.put, List.setIfInBounds_toArray, List.set_cons_succ, List.set_cons_zero]
  refine callH 29 rfl (by kernel_rfl) (by rfl) 68 #[.int .i64 x.bytes, .int .i64 y.bytes] (by go_simp) (.int .i64 (cmpI x.bytes y.bytes)) hH (fun hS => (cmp64_any x.bytes y.bytes _).mono fun e w' h => ⟨h.1, h.2 ▸ hS⟩) ?_
  clear hH
  intro vv hH
  simp only [Act.put, List.setIfInBounds_toArray, List.set_cons_succ, List.set_cons_zero]
  have hL := hid (show ∀ n ∈ [cmpI x.time y.time, cmpS x.host y.host, cmpS x.tag y.tag, Lib.compareBytes x.root y.root, cmpI x.files y.files, cmpI x.bytes y.bytes], True from fun _ _ => trivial)
  have hor := hid (show ∀ (v : World), Calls Tryd.prog 67 #[.slice (some ⟨v.heap.size, 0, none⟩) 6 6] (v.alloc (.cells #[.int .i64 (cmpI x.time y.time), .int .i64 (cmpS x.host y.host), .int .i64 (cmpS x.tag y.tag), .int .i64 (Lib.compareBytes x.root y.root), .int .i64 (cmpI x.files y.files), .int .i64 (cmpI x.bytes y.bytes)] 3)) (fun e w' => e = .returned (.int .i64 (x.cmp y)) ∧ (v.alloc (.cells #[.int .i64 (cmpI x.time y.time), .int .i64 (cmpS x.host y.host), .int .i64 (cmpS x.tag y.tag), .int .i64 (Lib.compareBytes x.root y.root), .int .i64 (cmpI x.files y.files), .int .i64 (cmpI x.bytes y.bytes)] 3)) = w') from fun v => by
    refine or_any ⟨v.heap.size, 0, none⟩ 6 [cmpI x.time y.time, cmpS x.host y.host, cmpS x.tag y.tag, Lib.compareBytes x.root y.root, cmpI x.files y.files, cmpI x.bytes y.bytes] _ (fun i n hn => ?_) (by simp)
    rw [plain_add, Nat.zero_add, cell_of_row _ _ i _ _ _ (heap_alloc_at rfl)]
    have e : (#[Value.int .i64 (cmpI x.time y.time), .int .i64 (cmpS x.host y.host), .int .i64 (cmpS x.tag y.tag), .int .i64 (Lib.compareBytes x.root y.root), .int .i64 (cmpI x.files y.files), .int .i64 (cmpI x.bytes y.bytes)] : Array Value) = ([cmpI x.time y.time, cmpS x.host y.host, cmpS x.tag y.tag, Lib.compareBytes x.root y.root, cmpI x.files y.files, cmpI x.bytes y.bytes].map (Value.int .i64)).toArray := rfl
    rw [e, List.getElem?_toArray, List.getElem?_map, hn]; rfl)
  generalize cmpI x.time y.time = q1 at *
  generalize cmpS x.host y.host = q2 at *
  generalize cmpS x.tag y.tag = q3 at *
  generalize Lib.compareBytes x.root y.root = q4 at *
  generalize cmpI x.files y.files = q5 at *
  generalize cmpI x.bytes y.bytes = q6 at *
  refine runH 30 rfl (by kernel_rfl) (by rfl) (.slice (some ⟨vv.heap.size, 0, none⟩) 6 6) (vv.alloc (.cells #[.int .i64 q1, .int .i64 q2, .int .i64 q3, .int .i64 q4, .int .i64 q5, .int .i64 q6] 3)) (by go_simp) (hH.alloc _) ?_
  simp only [Act.put, List.setIfInBounds_toArray, List.set_cons_succ, List.set_cons_zero]
  refine callH 31 rfl (by kernel_rfl) (by rfl) 67 #[.slice (some ⟨vv.heap.size, 0, none⟩) 6 6] (by go_simp) (.int .i64 (x.cmp y)) (hH.alloc _) (fun hS => (hor.out vv).mono fun e w' h => ⟨h.1, h.2 ▸ hS⟩) ?_
  clear hH
  intro vz hH
  simp only [Act.put, List.setIfInBounds_toArray, List.set_cons_succ, List.set_cons_zero]
  refine takeH 32 (.int .i64 (x.cmp y)) rfl (by kernel_rfl) (by kernel_rfl) (by kernel_rfl) (fun _ _ _ h => h) (by rfl) (fun v hv => by go_simp) hH ?_
  simp only [Act.put, List.setIfInBounds_toArray, List.set_cons_succ, List.set_cons_zero]
  refine wpAnyH_done (by kernel_rfl) ?_ _
  have HG := hid (show Grown w vz from by
    obtain ⟨q1, os1, e1⟩ := HGW.out
    obtain ⟨q2, os2, e2⟩ := hH
    subst e1
    exact ⟨q1 + q2, os1 ++ os2, by rw [e2]; show grow (grow ((w.drewN q1).drewN q2) os1) os2 = _; rw [grow_grow, World.drewN_drewN]⟩)
  go_wp2
  go_ret
  exact ⟨rfl, HG.out⟩

set_option maxRecDepth 100000 in
set_option maxHeartbeats 2000000 in
theorem j_snapless (x y : Sp) (hx : x.ok) (hy : y.ok) (w : World) :
    Calls Tryd.prog 13 #[.agg x.cells.toArray, .agg y.cells.toArray] w fun e w' => e = .returned (.bool (decide (x.cmp y < 0))) ∧ Kept [] w w' := by
  obtain ⟨cx, hcx⟩ : ∃ cx, cx = x.cells := ⟨_, rfl⟩
  obtain ⟨cy, hcy⟩ : ∃ cy, cy = y.cells := ⟨_, rfl⟩
  obtain ⟨W, hW⟩ : ∃ W, W = (w.alloc (.cells cx.toArray 28)).alloc (.cells cy.toArray 28) := ⟨_, rfl⟩
  have K0 := hid (show Kept [] w W by rw [hW]; exact ((Kept.refl [] w).alloc _).alloc _)
  have AX : At W w.heap.size x := by rw [hW, hcx]; exact heap_alloc_old (heap_alloc_at rfl)
  have AY : At W (w.heap.size + 1) y := by rw [hW, hcy]; exact heap_alloc_at (by simp)
  have rx := hid AX.reads; have ry := hid AY.reads
  have ix := hid (Sp.info hx); have iy := hid (Sp.info hy)
  have hc := hid (j_compare x y hx hy W)
  rw [← hcx] at rx ix hc
  rw [← hcy] at ry iy hc
  rw [hW] at rx ry hc
  rw [← hcx, ← hcy]
  have HW := hid hW
  clear hW hcx hcy AX AY
  obtain ⟨n, hn⟩ : ∃ n, n = x.cmp y := ⟨_, rfl⟩
  rw [← hn] at hc ⊢
  clear hn
  go_enter Tryd.func13, Tryd.ntmps13
  go_wp2_with (first | (refine wpList_load_cells rfl 28 (.tmp 2) rfl ⟨w.heap.size, 0, none⟩ rfl cx _ Tryd.underlying28 rfl ix.out rx.out ?_) | (refine wpList_load_cells rfl 28 (.tmp 3) rfl ⟨w.heap.size + 1, 0, none⟩ rfl cy _ Tryd.underlying28 rfl iy.out ry.out ?_))
  refine hc.out.mono ?_
  rintro e w1 ⟨rfl, g1⟩
  have K1 := hid (K0.out.trans (HW.out ▸ g1.kept))
  clear g1 hc
  go_wp2
  go_ret
  exact ⟨rfl, K1.out⟩
end Go.Proofs.YtmfjfahlgcdehaaDoor
