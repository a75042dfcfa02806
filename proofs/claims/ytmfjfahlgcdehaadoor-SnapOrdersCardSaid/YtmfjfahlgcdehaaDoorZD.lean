import Derived.Test.YtmfjfahlgcdehaaDoorJC
import Derived.Test.YtmfjfahlgcdehaaDoorJA
import Derived.Test.YtmfjfahlgcdehaaDoorMK
import Derived.Test.YtmfjfahlgcdehaaDoorHB

/- coldstoreref11.Less: which snapshot is ahead, as layer 11's own comparison has it. -/
namespace Go.Proofs.YtmfjfahlgcdehaaDoor
open Go.RowKit Go.Lib

theorem orL_ne {a : Int} {l : List Int} (h : a ≠ 0) : orL (a :: l) = a := by simp [orL, h]
theorem orL_zero {a : Int} {l : List Int} (h : a = 0) : orL (a :: l) = orL l := by simp [orL, h]
theorem cmpI_lt {a b : Int} (h : a ≠ b) : cmpI a b ≠ 0 ∧ (cmpI a b < 0 ↔ a < b) := by
  unfold cmpI
  by_cases h1 : a < b
  · simp [h1]
  · have h2 : b < a := by omega
    simp [h1, h2]
theorem cmpI_self (a : Int) : cmpI a a = 0 := by simp [cmpI]
theorem cmpS_lt {a b : List UInt8} (h : a ≠ b) : cmpS a b ≠ 0 ∧ (cmpS a b < 0 ↔ a < b) := by
  have hz := (cmpS_cmp.zero a b)
  refine ⟨fun e => h (hz.1 e), ?_⟩
  unfold cmpS
  by_cases h1 : a < b
  · simp [h1]
  · simp only [h1, if_false]
    split <;> simp
theorem cmpS_self (a : List UInt8) : cmpS a a = 0 := (cmpS_cmp.zero a a).2 rfl
theorem less_time (x y : Sp) (h : x.time ≠ y.time) : decide (x.cmp y < 0) = decide (x.time < y.time) := by
  unfold Sp.cmp; rw [orL_ne (cmpI_lt h).1]; simp [(cmpI_lt h).2]
theorem less_host (x y : Sp) (h0 : x.time = y.time) (h : x.host ≠ y.host) : decide (x.cmp y < 0) = decide (x.host < y.host) := by
  unfold Sp.cmp; rw [h0, orL_zero (cmpI_self _), orL_ne (cmpS_lt h).1]; simp [(cmpS_lt h).2]
theorem less_tag (x y : Sp) (h0 : x.time = y.time) (h1 : x.host = y.host) (h : x.tag ≠ y.tag) : decide (x.cmp y < 0) = decide (x.tag < y.tag) := by
  unfold Sp.cmp; rw [h0, orL_zero (cmpI_self _), h1, orL_zero (cmpS_self _), orL_ne (cmpS_lt h).1]; simp [(cmpS_lt h).2]
theorem less_root (x y : Sp) (h0 : x.time = y.time) (h1 : x.host = y.host) (h2 : x.tag = y.tag) (h : x.root ≠ y.root) : decide (x.cmp y < 0) = lessL x.root y.root := by
  unfold Sp.cmp
  rw [h0, orL_zero (cmpI_self _), h1, orL_zero (cmpS_self _), h2, orL_zero (cmpS_self _), orL_ne (by rw [bytes_cmpS]; exact (cmpS_lt h).1)]
  have e := lessL_cmp x.root y.root
  cases hl : lessL x.root y.root
  · rw [hl] at e; simp only [Bool.false_eq_true, eq_iff_iff, iff_false] at e; exact decide_eq_false e
  · rw [hl] at e; simp only [eq_iff_iff, iff_true] at e; exact decide_eq_true e
theorem less_files (x y : Sp) (h0 : x.time = y.time) (h1 : x.host = y.host) (h2 : x.tag = y.tag) (h3 : x.root = y.root) (h : x.files ≠ y.files) : decide (x.cmp y < 0) = decide (x.files < y.files) := by
  unfold Sp.cmp
  rw [h0, orL_zero (cmpI_self _), h1, orL_zero (cmpS_self _), h2, orL_zero (cmpS_self _), h3, orL_zero (by rw [bytes_cmpS]; exact cmpS_self _), orL_ne (cmpI_lt h).1]
  simp [(cmpI_lt h).2]
theorem less_bytes (x y : Sp) (h0 : x.time = y.time) (h1 : x.host = y.host) (h2 : x.tag = y.tag) (h3 : x.root = y.root) (h4 : x.files = y.files) : decide (x.cmp y < 0) = decide (x.bytes < y.bytes) := by
  unfold Sp.cmp
  rw [h0, orL_zero (cmpI_self _), h1, orL_zero (cmpS_self _), h2, orL_zero (cmpS_self _), h3, orL_zero (by rw [bytes_cmpS]; exact cmpS_self _), h4, orL_zero (cmpI_self _)]
  by_cases h : x.bytes = y.bytes
  · rw [h]; simp [orL, cmpI]
  · rw [orL_ne (cmpI_lt h).1]; simp [(cmpI_lt h).2]
theorem rinfo32 : (Tryd.prog.info? 26).map (·.size) = some 32 := by kernel_rfl

set_option maxRecDepth 100000 in
set_option maxHeartbeats 8000000 in
theorem ref_less (x y : Sp) (hx : x.ok) (hy : y.ok) (w : World) :
    Calls Tryd.prog 39 #[.agg x.cells.toArray, .agg y.cells.toArray] w fun e w' => e = .returned (.bool (decide (x.cmp y < 0))) ∧ Kept [] w w' := by
  obtain ⟨cx, hcx⟩ : ∃ cx, cx = x.cells := ⟨_, rfl⟩
  obtain ⟨cy, hcy⟩ : ∃ cy, cy = y.cells := ⟨_, rfl⟩
  obtain ⟨W, hW⟩ : ∃ W, W = (w.alloc (.cells cx.toArray 29)).alloc (.cells cy.toArray 29) := ⟨_, rfl⟩
  have K0 := hid (show Kept [] w W by rw [hW]; exact ((Kept.refl [] w).alloc _).alloc _)
  have AX : ∀ (j : Nat) v, x.cells[j]? = some v → W.cell? ⟨w.heap.size, j, none⟩ = some v := fun j v hj => by
    rw [cell_of_row W _ j _ _ _ (show W.heap[w.heap.size]? = some (.cells cx.toArray 29 (0, 0)) by rw [hW]; exact heap_alloc_old (heap_alloc_at rfl)), hcx]; simpa using hj
  have AY : ∀ (j : Nat) v, y.cells[j]? = some v → W.cell? ⟨w.heap.size + 1, j, none⟩ = some v := fun j v hj => by
    rw [cell_of_row W _ j _ _ _ (show W.heap[w.heap.size + 1]? = some (.cells cy.toArray 29 (0, 0)) by rw [hW]; exact heap_alloc_at (by simp)), hcy]; simpa using hj
  have x0 := AX 0 _ x.c0; have x1 := AX 1 _ x.c1; have x2 := AX 2 _ x.c2; have x5 := AX 35 _ (Sp.c35 hx); have x6 := AX 36 _ (Sp.c36 hx)
  have y0 := AY 0 _ y.c0; have y1 := AY 1 _ y.c1; have y2 := AY 2 _ y.c2; have y5 := AY 35 _ (Sp.c35 hy); have y6 := AY 36 _ (Sp.c36 hy)
  have rx := hid (show ∀ (j : Nat) v, (x.root.map B)[j]? = some v → W.cell? ((⟨w.heap.size, 3, none⟩ : Addr).add j) = some v from fun j v hj => by
    rw [List.getElem?_map] at hj
    obtain ⟨b, hb, rfl⟩ := Option.map_eq_some_iff.1 hj
    rw [plain_add]; exact AX _ _ (Sp.cr hx j b hb))
  have ry := hid (show ∀ (j : Nat) v, (y.root.map B)[j]? = some v → W.cell? ((⟨w.heap.size + 1, 3, none⟩ : Addr).add j) = some v from fun j v hj => by
    rw [List.getElem?_map] at hj
    obtain ⟨b, hb, rfl⟩ := Option.map_eq_some_iff.1 hj
    rw [plain_add]; exact AY _ _ (Sp.cr hy j b hb))
  have ix := hid (show (Tryd.prog.info? 26).map (·.size) = some (x.root.map B).length by rw [List.length_map, hx.root]; exact rinfo32)
  have iy := hid (show (Tryd.prog.info? 26).map (·.size) = some (y.root.map B).length by rw [List.length_map, hy.root]; exact rinfo32)
  have hrl := hid (fun W => refless_any x.root y.root hx.root hy.root W)
  have heq := fun W => id_equal x.root y.root hx.root hy.root W
  have HW := hid hW
  rw [← hcx, ← hcy]
  rw [hW] at x0 x1 x2 x5 x6 y0 y1 y2 y5 y6
  have RX := hid rx.out; have RY := hid ry.out
  rw [hW] at RX RY
  clear hW hcx hcy AX AY rx ry
  have nh : ((S x.host).toList == (S y.host).toList) = decide (x.host = y.host) := S_beq _ _
  have lh : Op.bytesLess (S x.host).toList (S y.host).toList = decide (x.host < y.host) := jS_less _ _
  have ng : ((S x.tag).toList == (S y.tag).toList) = decide (x.tag = y.tag) := S_beq _ _
  have lg : Op.bytesLess (S x.tag).toList (S y.tag).toList = decide (x.tag < y.tag) := jS_less _ _
  by_cases h0 : x.time = y.time
  rotate_left
  · rw [less_time x y h0]
    have t0 : (x.time != y.time) = true := by simpa using h0
    clear h0
    go_enter Tryd.func39, Tryd.ntmps39
    go_wp2
    go_ret
    exact ⟨rfl, HW.out ▸ K0.out⟩
  have t0 : (x.time != y.time) = false := by simpa using h0
  by_cases h1 : x.host = y.host
  rotate_left
  · rw [less_host x y h0 h1]
    rw [decide_eq_false h1] at nh
    clear h0 h1
    go_enter Tryd.func39, Tryd.ntmps39
    go_wp2
    go_ret
    exact ⟨rfl, HW.out ▸ K0.out⟩
  rw [decide_eq_true h1] at nh
  by_cases h2 : x.tag = y.tag
  rotate_left
  · rw [less_tag x y h0 h1 h2]
    rw [decide_eq_false h2] at ng
    clear h0 h1 h2
    go_enter Tryd.func39, Tryd.ntmps39
    go_wp2
    go_ret
    exact ⟨rfl, HW.out ▸ K0.out⟩
  rw [decide_eq_true h2] at ng
  by_cases h3 : x.root = y.root
  rotate_left
  · rw [less_root x y h0 h1 h2 h3]
    have heq2 : ∀ W, (Op.equalIn 10000 26 (.agg (x.root.map B).toArray) (.agg (y.root.map B).toArray)).run Tryd.prog W = .ok false W := fun W => by rw [heq W, decide_eq_false h3]
    clear heq h0 h1 h2 h3
    go_enter Tryd.func39, Tryd.ntmps39
    go_wp2_with (first | (refine wpList_load_cells rfl 26 (.tmp 35) rfl ⟨w.heap.size, 3, none⟩ rfl (x.root.map B) _ Tryd.underlying26 rfl ix.out RX.out ?_) | (refine wpList_load_cells rfl 26 (.tmp 37) rfl ⟨w.heap.size + 1, 3, none⟩ rfl (y.root.map B) _ Tryd.underlying26 rfl iy.out RY.out ?_) | (refine wpList_load_cells rfl 26 (.tmp 41) rfl ⟨w.heap.size, 3, none⟩ rfl (x.root.map B) _ Tryd.underlying26 rfl ix.out RX.out ?_) | (refine wpList_load_cells rfl 26 (.tmp 40) rfl ⟨w.heap.size, 3, none⟩ rfl (x.root.map B) _ Tryd.underlying26 rfl ix.out RX.out ?_) | (refine wpList_load_cells rfl 26 (.tmp 42) rfl ⟨w.heap.size + 1, 3, none⟩ rfl (y.root.map B) _ Tryd.underlying26 rfl iy.out RY.out ?_))
    refine (hrl.out _).mono ?_
    rintro e w1 ⟨rfl, k1⟩
    have K1 := hid ((HW.out ▸ K0.out).trans k1)
    clear k1
    go_wp2
    go_ret
    exact ⟨rfl, K1.out⟩
  have heq2 : ∀ W, (Op.equalIn 10000 26 (.agg (x.root.map B).toArray) (.agg (y.root.map B).toArray)).run Tryd.prog W = .ok true W := fun W => by rw [heq W, decide_eq_true h3]
  by_cases h4 : x.files = y.files
  rotate_left
  · rw [less_files x y h0 h1 h2 h3 h4]
    have t4 : (x.files != y.files) = true := by simpa using h4
    clear heq h0 h1 h2 h3 h4
    go_enter Tryd.func39, Tryd.ntmps39
    go_wp2_with (first | (refine wpList_load_cells rfl 26 (.tmp 35) rfl ⟨w.heap.size, 3, none⟩ rfl (x.root.map B) _ Tryd.underlying26 rfl ix.out RX.out ?_) | (refine wpList_load_cells rfl 26 (.tmp 37) rfl ⟨w.heap.size + 1, 3, none⟩ rfl (y.root.map B) _ Tryd.underlying26 rfl iy.out RY.out ?_) | (refine wpList_load_cells rfl 26 (.tmp 41) rfl ⟨w.heap.size, 3, none⟩ rfl (x.root.map B) _ Tryd.underlying26 rfl ix.out RX.out ?_) | (refine wpList_load_cells rfl 26 (.tmp 40) rfl ⟨w.heap.size, 3, none⟩ rfl (x.root.map B) _ Tryd.underlying26 rfl ix.out RX.out ?_) | (refine wpList_load_cells rfl 26 (.tmp 42) rfl ⟨w.heap.size + 1, 3, none⟩ rfl (y.root.map B) _ Tryd.underlying26 rfl iy.out RY.out ?_))
    go_ret
    exact ⟨rfl, HW.out ▸ K0.out⟩
  · rw [less_bytes x y h0 h1 h2 h3 h4]
    have t4 : (x.files != y.files) = false := by simpa using h4
    clear heq h0 h1 h2 h3 h4
    go_enter Tryd.func39, Tryd.ntmps39
    go_wp2_with (first | (refine wpList_load_cells rfl 26 (.tmp 35) rfl ⟨w.heap.size, 3, none⟩ rfl (x.root.map B) _ Tryd.underlying26 rfl ix.out RX.out ?_) | (refine wpList_load_cells rfl 26 (.tmp 37) rfl ⟨w.heap.size + 1, 3, none⟩ rfl (y.root.map B) _ Tryd.underlying26 rfl iy.out RY.out ?_) | (refine wpList_load_cells rfl 26 (.tmp 41) rfl ⟨w.heap.size, 3, none⟩ rfl (x.root.map B) _ Tryd.underlying26 rfl ix.out RX.out ?_) | (refine wpList_load_cells rfl 26 (.tmp 40) rfl ⟨w.heap.size, 3, none⟩ rfl (x.root.map B) _ Tryd.underlying26 rfl ix.out RX.out ?_) | (refine wpList_load_cells rfl 26 (.tmp 42) rfl ⟨w.heap.size + 1, 3, none⟩ rfl (y.root.map B) _ Tryd.underlying26 rfl iy.out RY.out ?_))
    go_ret
    exact ⟨rfl, HW.out ▸ K0.out⟩
end Go.Proofs.YtmfjfahlgcdehaaDoor
