import Derived.Test.YtembincggkpflaaDoorMX
import Derived.Test.YtembincggkpflaaDoorMR

/- The reference of layer 12: one more blob. -/
namespace Go.Proofs.YtembincggkpflaaDoor
open Go.RowKit Go.Lib Go.Maps

theorem results_cell3 {P : Program} {fn : Func} {tmps : Array Value} {w : World} {k l j T U : Nat} {x y : Addr} {v u z : Value} (hr : fn.results = #[.cell k T, .cell l U, .tmp j]) (ht : tmps[k]?.getD undef = .pointer (some x)) (hs : tmps[l]?.getD undef = .pointer (some y)) (hu : tmps[j]?.getD undef = u) (hl : (loadVar T x).run P w = .ok v w) (hm : (loadVar U y).run P w = .ok z w) : (results fn tmps).run P w = .ok (.tuple #[v, z, u]) w := by
  unfold results
  rw [hr]
  simp [Sem.run_bind, ht, hs, hu, asAddr, hl, hm]
theorem ren_info : (Tryd.prog.info? 42).map (·.size) = some 34 := by kernel_rfl
theorem zero_ren (W : World) : (zeroValue 42).run Tryd.prog W = .ok (.agg zEnC.toArray) W := by kernel_rfl
theorem build_ren0 (W : World) : (Instr.build 42 #[]).run Tryd.prog W = .ok (.agg zEnC.toArray) W := run_build W _ _ _ (by kernel_rfl)
theorem rpk_info : (Tryd.prog.info? 34).map (·.size) = some 2 := by kernel_rfl
theorem zero_rpk (W : World) : (zeroValue 34).run Tryd.prog W = .ok (.agg #[.slice none 0 0, .slice none 0 0]) W := by kernel_rfl
theorem run_ld_ren {w : World} {p : Nat} {cs : List Value} (h : w.heap[p]? = some (.cells cs.toArray 42 (0, 0))) (hl : cs.length = 34) : (loadVar 42 ⟨p, 0, none⟩).run Tryd.prog w = .ok (.agg cs.toArray) w :=
  run_loadVar_cells w _ _ cs _ Tryd.underlying42 rfl (by rw [hl]; exact ren_info) (fun j v hj => by rw [plain_add', cell_of_row w _ j _ _ _ h]; simpa using hj)
theorem run_ld_rpk {w : World} {p : Nat} {cs : List Value} (h : w.heap[p]? = some (.cells cs.toArray 34 (0, 0))) (hl : cs.length = 2) : (loadVar 34 ⟨p, 0, none⟩).run Tryd.prog w = .ok (.agg cs.toArray) w :=
  run_loadVar_cells w _ _ cs _ Tryd.underlying34 rfl (by rw [hl]; exact rpk_info) (fun j v hj => by rw [plain_add', cell_of_row w _ j _ _ _ h]; simpa using hj)

set_option maxRecDepth 100000 in
set_option maxHeartbeats 8000000 in
/-- A blob that is too long. -/
theorem r12_add_long (a : Option Addr) (m c : Nat) (d : Option Addr) (n k : Nat) (ab : Option Addr) (lb cb : Nat) (w : World) (hlong : 65536 < lb) :
    Calls Tryd.prog 7 #[.agg #[.slice a m c, .slice d n k], .slice ab lb cb] w fun e w' => e = .returned (.tuple #[.agg #[.slice a m c, .slice d n k], .agg zEnC.toArray, .int .i64 2]) ∧ Kept [] w w' := by
  have hz1 := zero_ren; have hz2 := zero_rpk; have hb0 := build_ren0
  have q1 : (65536 : Int) < (lb : Int) := by omega
  go_enter Tryd.func7, Tryd.ntmps7
  obtain ⟨W3, hW3⟩ : ∃ W3, W3 = ((w.alloc (.cells #[.slice a m c, .slice d n k] 34)).alloc (.cells #[.slice a m c, .slice d n k] 34)).alloc (.cells zEnC.toArray 42) := ⟨_, rfl⟩
  have K3 := hid (show Kept [] w W3 from hW3 ▸ (((Kept.refl [] w).alloc _).alloc _).alloc _)
  have hE := hid (show W3.heap[w.heap.size + 1 + 1]? = some (.cells zEnC.toArray 42 (0, 0)) from hW3 ▸ heap_alloc_at (by simp))
  have hP := hid (show W3.heap[w.heap.size + 1]? = some (.cells #[.slice a m c, .slice d n k] 34 (0, 0)) from by
    rw [hW3]
    exact ((Kept.refl [] _).alloc (.cells zEnC.toArray 42)).at (heap_alloc_at (by simp)) (by simp))
  have HW3 := hid hW3
  have zi := hid (show (Tryd.prog.info? 42).map (·.size) = some zEnC.length by rw [zEnC_len]; exact ren_info)
  have zf := hid (show 0 + zEnC.length ≤ zEnC.length by omega)
  have zsp := hid (splice36 zEnC zEnC rfl)
  clear hW3
  go_wp2_with (refine wpList_store_at rfl 42 (.tmp 5) (.tmp 12) rfl (w.heap.size + 1 + 1) 0 zEnC rfl rfl 42 zEnC (by rw [← HW3.out]; exact hE.out) zi.out zf.out zEnC_one ?_; refine halt ?_)
  rw [zsp.out, ← HW3.out]
  refine Halt.mk ?_
  have hb := hid (show (W3.setRow (w.heap.size + 1 + 1) zEnC.toArray).heap[w.heap.size + 1 + 1]? = some (.cells zEnC.toArray 42 (0, 0)) from setRow_heap _ _ _ _ _ _ hE.out)
  have kz := hid (show Kept [w.heap.size + 1 + 1] W3 (W3.setRow (w.heap.size + 1 + 1) zEnC.toArray) from (Kept.refl _ _).setRow (fun _ => by simp) _)
  have hp := hid (kz.out.at hP.out (by simp))
  have hk := hid (show Kept [] w (W3.setRow (w.heap.size + 1 + 1) zEnC.toArray) from K3.out.setRow (fun h => absurd h (by omega)) _)
  generalize W3.setRow (w.heap.size + 1 + 1) zEnC.toArray = wz at *
  go_wp2
  refine bodyPost_ret (v := .tuple #[.agg #[.slice a m c, .slice d n k], .agg zEnC.toArray, .int .i64 2]) (results_cell3 Tryd.results7 rfl rfl rfl (run_ld_rpk (cs := [.slice a m c, .slice d n k]) hp.out rfl) (run_ld_ren hb.out zEnC_len)) rfl ⟨rfl, hk.out⟩
end Go.Proofs.YtembincggkpflaaDoor


/- The reference of layer 12: one more blob, its place made. -/
namespace Go.Proofs.YtembincggkpflaaDoor
open Go.RowKit Go.Lib Go.Maps

theorem st_ren {W : World} {p : Nat} {cs : List Value} (h : W.heap[p]? = some (.cells zEnC.toArray 42 (0, 0))) (hl : cs.length = 34) (ho : ∀ v ∈ cs, v.oneCell' = true) : (storeVar 42 ⟨p, 0, none⟩ (.agg cs.toArray)).run Tryd.prog W = .ok () (W.setRow p cs.toArray) := by
  have h2 := run_storeVar_at (P := Tryd.prog) W p 0 42 42 zEnC cs h (by rw [hl]; exact ren_info) (by have := zEnC_len; omega) ho
  rwa [splice36 zEnC cs (hl.trans zEnC_len.symm)] at h2
theorem build_ren' (x y : Int) (b0 b1 b2 b3 b4 b5 b6 b7 b8 b9 b10 b11 b12 b13 b14 b15 b16 b17 b18 b19 b20 b21 b22 b23 b24 b25 b26 b27 b28 b29 b30 b31 : UInt8) (W : World) : (Instr.build 42 #[(0, .agg ([b0, b1, b2, b3, b4, b5, b6, b7, b8, b9, b10, b11, b12, b13, b14, b15, b16, b17, b18, b19, b20, b21, b22, b23, b24, b25, b26, b27, b28, b29, b30, b31].map B).toArray), (1, .int .i64 x), (2, .int .i64 y)]).run Tryd.prog W = .ok (.agg ([b0, b1, b2, b3, b4, b5, b6, b7, b8, b9, b10, b11, b12, b13, b14, b15, b16, b17, b18, b19, b20, b21, b22, b23, b24, b25, b26, b27, b28, b29, b30, b31].map B ++ [Value.int .i64 x, Value.int .i64 y]).toArray) W := run_build W _ _ _ (by kernel_rfl)
theorem build_ren (id : List UInt8) (h : id.length = 32) (x y : Int) (W : World) : (Instr.build 42 #[(0, .agg (id.map B).toArray), (1, .int .i64 x), (2, .int .i64 y)]).run Tryd.prog W = .ok (.agg (id.map B ++ [Value.int .i64 x, .int .i64 y]).toArray) W := by
  match id, h with
  | [b0, b1, b2, b3, b4, b5, b6, b7, b8, b9, b10, b11, b12, b13, b14, b15, b16, b17, b18, b19, b20, b21, b22, b23, b24, b25, b26, b27, b28, b29, b30, b31], _ => exact build_ren' x y b0 b1 b2 b3 b4 b5 b6 b7 b8 b9 b10 b11 b12 b13 b14 b15 b16 b17 b18 b19 b20 b21 b22 b23 b24 b25 b26 b27 b28 b29 b30 b31 W
def RAdd (w : World) (a : Option Addr) (m c : Nat) (d : Option Addr) (n k : Nat) (bs : List UInt8) (es : List En) (ys : List UInt8) (e : Ending) (w' : World) : Prop :=
  (addErr es (Sha.sum ys) ys.length ≠ 0 ∧ e = .returned (.tuple #[.agg #[.slice a m c, .slice d n k], .agg zEnC.toArray, .int .i64 (addErr es (Sha.sum ys) ys.length)]) ∧ Kept [] w w') ∨
  (addErr es (Sha.sum ys) ys.length = 0 ∧ ∃ a' c' d' k', e = .returned (.tuple #[.agg #[.slice a' (m + ys.length) c', .slice d' (n + 1) k'], .agg (addE es (Sha.sum ys) ys.length).cells.toArray, .int .i64 0]) ∧ Kept [] w w' ∧ SrcB w' (.slice a' (bs ++ ys).length c') (bs ++ ys) ∧ EnsW w' d' (es ++ [addE es (Sha.sum ys) ys.length]))

set_option maxRecDepth 100000 in
set_option maxHeartbeats 8000000 in
/-- A blob that the pack has. -/
theorem r12_add_twice (a : Option Addr) (m c : Nat) (d : Option Addr) (n k : Nat) (ab : Option Addr) (cb : Nat) (bs ys : List UInt8) (es : List En) (w : World) (hm : m = bs.length) (hend : m = ends es) (hb : SrcB w (.slice a bs.length c) bs) (h : EnsW w d es) (hn : n = es.length) (hl : n ≤ 20) (hys : SrcB w (.slice ab ys.length cb) ys) (hcb : ab = none → cb = 0) (hle : ys.length ≤ 65536) (hbl : m ≤ 900000) (htw : hasE es (Sha.sum ys) = true) :
    Calls Tryd.prog 7 #[.agg #[.slice a m c, .slice d n k], .slice ab ys.length cb] w (RAdd w a m c d n k bs es ys) := by
  obtain ⟨lb, hlb⟩ : ∃ lb, lb = ys.length := ⟨_, rfl⟩
  have hz1 := zero_ren; have hz2 := zero_rpk; have hb0 := build_ren0
  have hof := hid (fun v (hv : Kept [] w v) => refof_any ab cb ys v (reads_src (hys.kept hv (by simp))) hcb (by omega) (fun s b gh ch gk ck gb ob cb w h1 h2 h3 h4 => refmix_any s b gh ch gk ck gb ob cb w h1 h2 h3 h4))
  obtain ⟨id, hid'⟩ : ∃ id, id = Sha.sum ys := ⟨_, rfl⟩
  have h32 : id.length = 32 := by rw [hid']; exact sum32 ys
  obtain ⟨ci, hci⟩ : ∃ ci, ci = id.map B := ⟨_, rfl⟩
  obtain ⟨ce, hce⟩ : ∃ ce, ce = (addE es id lb).cells := ⟨_, rfl⟩
  have lce := hid (show ce.length = 34 by rw [hce]; exact en_size h32)
  have oce := hid (show ∀ v ∈ ce, v.oneCell' = true by rw [hce]; exact en_one _)
  have hbu := hid (show ∀ W, (Instr.build 42 #[(0, .agg ci.toArray), (1, .int .i64 (m : Int)), (2, .int .i64 (lb : Int))]).run Tryd.prog W = .ok (.agg ce.toArray) W from fun W => by
    rw [hci, hce, hend]; exact build_ren id h32 _ _ W)
  unfold RAdd
  rw [← hid', ← hlb] at hof ⊢
  rw [← hid'] at htw
  have HT := hid htw
  rw [← hci] at hof
  have HM := hid hm; have HE := hid hend; have HB := hid hb; have H := hid h; have HN := hid hn; have HY := hid hys
  have HLB := hid hlb; have H32 := hid h32; have HC := hid hci; have HCE := hid hce; have HID := hid hid'
  have q1 : ¬ (65536 : Int) < (lb : Int) := by omega
  have hlb2 := hid (show lb ≤ 65536 by omega)
  obtain ⟨W3, hW3⟩ : ∃ W3, W3 = ((w.alloc (.cells #[.slice a m c, .slice d n k] 34)).alloc (.cells #[.slice none 0 0, .slice none 0 0] 34)).alloc (.cells zEnC.toArray 42) := ⟨_, rfl⟩
  have K3 := hid (show Kept [] w W3 from hW3 ▸ (((Kept.refl [] w).alloc _).alloc _).alloc _)
  have hE := hid (show W3.heap[w.heap.size + 1 + 1]? = some (.cells zEnC.toArray 42 (0, 0)) from hW3 ▸ heap_alloc_at (by simp))
  have hP := hid (show W3.heap[w.heap.size + 1]? = some (.cells #[.slice none 0 0, .slice none 0 0] 34 (0, 0)) from by
    rw [hW3]
    exact ((Kept.refl [] _).alloc (.cells zEnC.toArray 42)).at (heap_alloc_at (by simp)) (by simp))
  have hX := hid (show W3.heap[w.heap.size]? = some (.cells #[.slice a m c, .slice d n k] 34 (0, 0)) from by
    rw [hW3]
    exact (((Kept.refl [] _).alloc (.cells #[.slice none 0 0, .slice none 0 0] 34)).alloc (.cells zEnC.toArray 42)).at (heap_alloc_at rfl) (by simp))
  have HW3 := hid hW3
  clear htw hW3 hm hend hb h hn hys hlb h32 hci hce hid' hle hcb
  go_enter Tryd.func7, Tryd.ntmps7
  go_wp2_with fail
  rw [← HW3.out]
  have z3 := hid (show w.heap.size + 1 + 1 < W3.heap.size from lt_of_block hE.out)
  go_cut [7] (fun s7 wx => ∃ q, s7 = .pointer (some ⟨q, 0, none⟩) ∧ Hid (W3.heap.size ≤ q) ∧ Hid (wx.heap[q]? = some (.cells ce.toArray 42 (0, 0))) ∧ Hid (Kept [] W3 wx))
  case first =>
    have hbd := hid (show ∀ v, Kept [] W3 v → v.cell? ⟨w.heap.size, 0, none⟩ = some (.slice a m c) from fun v hv => by rw [cell_of_row _ _ _ _ _ _ (hv.at hX.out (by simp))]; rfl)
    refine wp_region_held_drew (S := Kept [] W3) (by kernel_rfl) (Kept.refl [] W3).drew (fun hH => ?_)
    refine takeH 0 (.slice ab lb cb) rfl (by kernel_rfl) (by kernel_rfl) (by kernel_rfl) (fun _ _ _ h => h) (by rfl) (fun v hv => by go_simp) hH ?_
    simp only [Act.put, List.setIfInBounds_toArray, List.set_cons_succ, List.set_cons_zero]
    refine takeH 2 (.pointer (some ⟨w.heap.size, 0, none⟩)) rfl (by kernel_rfl) (by kernel_rfl) (by kernel_rfl) (fun _ _ _ h => h) (by rfl) (fun v hv => by go_simp) hH ?_
    simp only [Act.put, List.setIfInBounds_toArray, List.set_cons_succ, List.set_cons_zero]
    refine takeH 3 (.slice a m c) rfl (by kernel_rfl) (by kernel_rfl) (by kernel_rfl) (fun _ _ _ h => h) (by rfl) (fun v hv => by have h := hbd.out v hv; go_simp) hH ?_
    simp only [Act.put, List.setIfInBounds_toArray, List.set_cons_succ, List.set_cons_zero]
    refine takeH 4 (.int .i64 (m : Int)) rfl (by kernel_rfl) (by kernel_rfl) (by kernel_rfl) (fun _ _ _ h => h) (by rfl) (fun v hv => by go_simp) hH ?_
    simp only [Act.put, List.setIfInBounds_toArray, List.set_cons_succ, List.set_cons_zero]
    refine takeH 5 (.slice ab lb cb) rfl (by kernel_rfl) (by kernel_rfl) (by kernel_rfl) (fun _ _ _ h => h) (by rfl) (fun v hv => by go_simp) hH ?_
    simp only [Act.put, List.setIfInBounds_toArray, List.set_cons_succ, List.set_cons_zero]
    refine takeH 6 (.int .i64 (lb : Int)) rfl (by kernel_rfl) (by kernel_rfl) (by kernel_rfl) (fun _ _ _ h => h) (by rfl) (fun v hv => by go_simp) hH ?_
    simp only [Act.put, List.setIfInBounds_toArray, List.set_cons_succ, List.set_cons_zero]
    refine callOrE 1 8 rfl rfl (by kernel_rfl) (by rfl) (by rfl) 21 #[.slice ab lb cb] (by go_simp) (fun vv v => vv = .agg ci.toArray ∧ Kept [] W3 v) (fun _ _ h => h.2) ((hof.out W3.drew (K3.out.drew)).mono fun e w' h => ⟨_, h.1, rfl, (Kept.refl [] W3).drew.trans h.2⟩) (.pointer (some ⟨W3.heap.size, 0, none⟩)) (W3.drew.alloc (.cells zEnC.toArray 42)) (by have h := hz1; go_simp) (hH.alloc _) ?_ ?_
    · rintro vv w4 ⟨rfl, k4⟩
      simp only [Act.put, List.setIfInBounds_toArray, List.set_cons_succ, List.set_cons_zero]
      have z4 := k4.size
      refine takeH 7 (.agg ce.toArray) rfl (by kernel_rfl) (by kernel_rfl) (by kernel_rfl) (fun _ _ _ h => h) (by rfl) (fun v hv => by have h := hbu.out v; unfold execOp; simp [Act.eval, Sem.run_bind, Sem.run_pure, Result.andThen_ok, h]) k4 ?_
      simp only [Act.put, List.setIfInBounds_toArray, List.set_cons_succ, List.set_cons_zero]
      refine runH 8 rfl (by kernel_rfl) (by rfl) (.pointer (some ⟨w4.heap.size, 0, none⟩)) (w4.alloc (.cells zEnC.toArray 42)) (by have h := hz1; go_simp) (k4.alloc _) ?_
      simp only [Act.put, List.setIfInBounds_toArray, List.set_cons_succ, List.set_cons_zero]
      have hs8 := hid (show (storeVar 42 ⟨w4.heap.size, 0, none⟩ (.agg ce.toArray)).run Tryd.prog (w4.alloc (.cells zEnC.toArray 42)) = .ok () ((w4.alloc (.cells zEnC.toArray 42)).setRow w4.heap.size ce.toArray) from st_ren (heap_alloc_at rfl) lce.out oce.out)
      have hkS := hid (show Kept [] W3 ((w4.alloc (.cells zEnC.toArray 42)).setRow w4.heap.size ce.toArray) from (k4.alloc _).setRow (fun h => absurd h (by omega)) _)
      refine writeH 9 rfl (by kernel_rfl) (by rfl) ((w4.alloc (.cells zEnC.toArray 42)).setRow w4.heap.size ce.toArray) (by have h := hs8.out; unfold execOp; simp [Act.eval, Instr.storeAt, Instr.sureAddr, Sem.run_bind, Sem.run_pure, Result.andThen_ok, h]) hkS.out ?_
      simp only [Act.put, List.setIfInBounds_toArray, List.set_cons_succ, List.set_cons_zero]
      refine wpAnyH_done (by kernel_rfl) ?_ _
      go_wp2_with fail
      go_meet
      exact ⟨w4.heap.size, rfl, hid (by omega), hid (setRow_heap _ _ _ _ _ _ (heap_alloc_at rfl)), hkS⟩
    · simp only [Act.put, List.setIfInBounds_toArray, List.set_cons_succ, List.set_cons_zero]
      refine callE 1 rfl (by kernel_rfl) (by rfl) 21 #[.slice ab lb cb] (by go_simp) (fun vv v => vv = .agg ci.toArray ∧ Kept [] (W3.drew.alloc (.cells zEnC.toArray 42)) v) (fun _ _ h => (hH.alloc _).trans h.2) ((hof.out (W3.drew.alloc (.cells zEnC.toArray 42)) (K3.out.drew.alloc _)).mono fun e w' h => ⟨_, h.1, rfl, h.2⟩) ?_
      rintro vv w4 ⟨rfl, k4⟩
      simp only [Act.put, List.setIfInBounds_toArray, List.set_cons_succ, List.set_cons_zero]
      have hq := hid (k4.at (heap_alloc_at (w := W3.drew) (o := .cells zEnC.toArray 42) rfl) (by simp))
      have k3 := (hH.alloc (.cells zEnC.toArray 42)).trans k4
      refine takeH 7 (.agg ce.toArray) rfl (by kernel_rfl) (by kernel_rfl) (by kernel_rfl) (fun _ _ _ h => h) (by rfl) (fun v hv => by have h := hbu.out v; unfold execOp; simp [Act.eval, Sem.run_bind, Sem.run_pure, Result.andThen_ok, h]) k3 ?_
      simp only [Act.put, List.setIfInBounds_toArray, List.set_cons_succ, List.set_cons_zero]
      have hs8 := hid (show (storeVar 42 ⟨W3.heap.size, 0, none⟩ (.agg ce.toArray)).run Tryd.prog w4 = .ok () (w4.setRow W3.heap.size ce.toArray) from st_ren hq.out lce.out oce.out)
      have hkS := hid (show Kept [] W3 (w4.setRow W3.heap.size ce.toArray) from k3.setRow (fun h => absurd h (by omega)) _)
      refine writeH 9 rfl (by kernel_rfl) (by rfl) (w4.setRow W3.heap.size ce.toArray) (by have h := hs8.out; unfold execOp; simp [Act.eval, Instr.storeAt, Instr.sureAddr, Sem.run_bind, Sem.run_pure, Result.andThen_ok, h]) hkS.out ?_
      simp only [Act.put, List.setIfInBounds_toArray, List.set_cons_succ, List.set_cons_zero]
      refine wpAnyH_done (by kernel_rfl) ?_ _
      go_wp2_with fail
      go_meet
      exact ⟨W3.heap.size, rfl, hid (by omega), hid (setRow_heap _ _ _ _ _ _ hq.out), hkS⟩
  case rest =>
    obtain ⟨q, rfl, hq3, hqe, hkc⟩ := hcut
    have Kc := hid (K3.out.trans hkc.out)
    have hXc := hid (fun v (hv : Kept [] wc v) => (hkc.out.trans hv).at hX.out (by simp))
    have hcl : wc.cell? ⟨w.heap.size, 1, none⟩ = some (.slice d n k) := by rw [cell_of_row _ _ _ _ _ _ (hXc.out wc (Kept.refl _ _))]; rfl
    have hn4 : ¬ (4096 : Int) ≤ (n : Int) := by omega
    have hsx := hid (show (Tryd.prog.info? 36).map (·.size) = some ci.length by rw [HC.out, List.length_map, H32.out]; kernel_rfl)
    have hidr := hid (show ∀ (j : Nat) v, ci[j]? = some v → wc.cell? ((⟨q, 0, none⟩ : Addr).add j) = some v from fun j v hj => by
      rw [plain_add', cell_of_row _ _ _ _ _ _ hqe.out]
      have h1 : ce[j]? = some v := by
        rw [HCE.out]; unfold En.cells
        rw [List.getElem?_append_left (by have := (List.getElem?_eq_some_iff.1 hj).1; rw [HC.out] at this; simpa [addE] using this)]
        rw [HC.out] at hj; exact hj
      simpa using h1)
    have hhas := hid (r12_has d k es id wc (H.out.kept Kc.out) H32.out (by have := HN.out; omega))
    rw [← HC.out, ← HN.out] at hhas
    have zi := hid (show (Tryd.prog.info? 42).map (·.size) = some zEnC.length by rw [zEnC_len]; exact ren_info)
    have zf := hid (show 0 + zEnC.length ≤ zEnC.length by omega)
    have zsp := hid (splice36 zEnC zEnC rfl)
    go_wp2_with (refine wpList_load_cells rfl 36 (.tmp 29) rfl ⟨q, 0, none⟩ rfl ci _ Tryd.underlying36 rfl hsx.out hidr.out ?_)
    refine hhas.out.mono ?_
    rintro e w5 ⟨rfl, k5⟩
    have K5 := hid (Kc.out.trans k5)
    have K35 := hid (hkc.out.trans k5)
    clear hhas hcl
    have hE5 := hid (K35.out.at hE.out (by simp))
    have hP5 := hid (K35.out.at hP.out (by simp))
    have hX5 := hid (K35.out.at hX.out (by simp))
    cases hhe : hasE es id
    · rw [HT.out] at hhe; cases hhe
    · have hni := hid (show addErr es id lb = 5 from by
        unfold addErr
        rw [if_neg (by have := hlb2.out; omega), if_neg (by have := HN.out; omega), if_pos (hasE_id.1 hhe)])
      clear hhe
      have hpl := hid (show ∀ (j : Nat) v, [Value.slice a m c, .slice d n k][j]? = some v → w5.cell? ((⟨w.heap.size, 0, none⟩ : Addr).add j) = some v from fun j v hj => by rw [plain_add', cell_of_row _ _ _ _ _ _ hX5.out]; simpa using hj)
      have hpi := hid (show (Tryd.prog.info? 34).map (·.size) = some [Value.slice a m c, .slice d n k].length from rpk_info)
      have hk1 := hid (show Kept [w.heap.size + 1] w5 (w5.setRow (w.heap.size + 1) [Value.slice a m c, .slice d n k].toArray) from (Kept.refl _ _).setRow (fun _ => by simp) _)
      have hp1 := hid (show (w5.setRow (w.heap.size + 1) [Value.slice a m c, .slice d n k].toArray).heap[w.heap.size + 1]? = some (.cells [Value.slice a m c, .slice d n k].toArray 34 (0, 0)) from setRow_heap _ _ _ _ _ _ hP5.out)
      have he1 := hid (hk1.out.at hE5.out (by simp))
      have hkw := hid (show Kept [] w (w5.setRow (w.heap.size + 1) [Value.slice a m c, .slice d n k].toArray) from K5.out.setRow (fun h => absurd h (by omega)) _)
      go_wp2_with (first | (refine wpList_load_cells rfl 34 (.tmp 2) rfl ⟨w.heap.size, 0, none⟩ rfl [Value.slice a m c, .slice d n k] _ Tryd.underlying34 rfl hpi.out hpl.out ?_) | (refine wpList_store_at rfl 34 (.tmp 4) (.tmp 32) rfl (w.heap.size + 1) 0 [Value.slice a m c, .slice d n k] rfl rfl 34 [.slice none 0 0, .slice none 0 0] hP5.out hpi.out (by simp) (by intro v hv; simp at hv; rcases hv with rfl | rfl <;> rfl) ?_; refine halt ?_))
      rw [show splice [Value.slice none 0 0, .slice none 0 0] 0 [Value.slice a m c, .slice d n k] = [Value.slice a m c, .slice d n k] from rfl]
      refine Halt.mk ?_
      generalize w5.setRow (w.heap.size + 1) [Value.slice a m c, .slice d n k].toArray = wy at *
      go_wp2_with (refine wpList_store_at rfl 42 (.tmp 5) (.tmp 33) rfl (w.heap.size + 1 + 1) 0 zEnC rfl rfl 42 zEnC he1.out zi.out zf.out zEnC_one ?_; refine halt ?_)
      rw [zsp.out]
      refine Halt.mk ?_
      have hb := hid (show (wy.setRow (w.heap.size + 1 + 1) zEnC.toArray).heap[w.heap.size + 1 + 1]? = some (.cells zEnC.toArray 42 (0, 0)) from setRow_heap _ _ _ _ _ _ he1.out)
      have kz := hid (show Kept [w.heap.size + 1 + 1] wy (wy.setRow (w.heap.size + 1 + 1) zEnC.toArray) from (Kept.refl _ _).setRow (fun _ => by simp) _)
      have hp := hid (kz.out.at hp1.out (by simp))
      have hk := hid (show Kept [] w (wy.setRow (w.heap.size + 1 + 1) zEnC.toArray) from hkw.out.setRow (fun h => absurd h (by omega)) _)
      generalize wy.setRow (w.heap.size + 1 + 1) zEnC.toArray = wz at *
      clear zf zi zsp hpl hpi
      go_wp2
      refine bodyPost_ret (v := .tuple #[.agg #[.slice a m c, .slice d n k], .agg zEnC.toArray, .int .i64 5]) (results_cell3 Tryd.results7 rfl rfl rfl (run_ld_rpk (cs := [.slice a m c, .slice d n k]) hp.out rfl) (run_ld_ren hb.out zEnC_len)) rfl (Or.inl ⟨by rw [hni.out]; decide, by rw [hni.out], hk.out⟩)
end Go.Proofs.YtembincggkpflaaDoor


/- The reference of layer 12, one more blob that the pack hasn't: what holds between the operations of its last region. -/
namespace Go.Proofs.YtembincggkpflaaDoor
open Go.RowKit Go.Lib Go.Maps

theorem ensW_src {w : World} {d : Option Addr} {n k : Nat} {es : List En} (h : EnsW w d es) (hn : n = es.length) (hd : d = none → k = 0) : Src w (.slice d n k) n (es.flatMap c34) := by
  cases d with
  | none => left; rw [h.none rfl] at hn ⊢; subst hn; rw [hd rfl]; exact ⟨rfl, rfl, rfl⟩
  | some x =>
    obtain ⟨g, rfl, hg, hat⟩ := h.at_ x rfl
    refine Or.inr ⟨_, _, rfl, fun j u hj => ?_⟩
    have hlen := flat_len c34 34 c34_len es
    have hjl := (List.getElem?_eq_some_iff.1 hj).1
    rw [hlen] at hjl
    have hi : j / 34 < es.length := by omega
    have e1 := flat_get c34 34 c34_len es (j / 34) (j % 34) es[j / 34] (List.getElem?_eq_getElem hi) (by omega)
    rw [show j / 34 * 34 + j % 34 = j by omega, hj] at e1
    obtain ⟨h32, hr⟩ := hat (j / 34) _ (List.getElem?_eq_getElem hi)
    rw [c34_of h32] at e1
    have h3 := hr (j % 34) u e1.symm
    rw [plain_add']
    rwa [show j / 34 * 34 + j % 34 = j by omega] at h3
theorem ensW_of_row {w : World} {b : Nat} {d : Option Addr} {n k : Nat} {es : List En} (h : w.ownsRow b 42 34 (.slice d n k) n (es.flatMap c34)) (hn : n = es.length) (h0 : 0 < n) (h32 : ∀ e ∈ es, e.id.length = 32) : EnsW w d es ∧ d ≠ none := by
  rcases h.2 with ⟨h1, h2⟩ | ⟨g, cap, cur, h1, h2, h3, h4⟩
  · omega
  · simp at h1
    obtain ⟨rfl, rfl⟩ := h1
    refine ⟨⟨fun h => by simp at h, fun x hx => ?_⟩, by simp⟩
    simp at hx
    subst hx
    refine ⟨g, rfl, lt_of_block h3, fun i e he => ⟨h32 e (List.mem_of_getElem? he), fun j v hj => ?_⟩⟩
    have hl : j < 34 := by
      have := (List.getElem?_eq_some_iff.1 hj).1
      rwa [en_size (h32 e (List.mem_of_getElem? he))] at this
    have e1 := flat_get c34 34 c34_len es i j e he hl
    rw [c34_of (h32 e (List.mem_of_getElem? he)), hj] at e1
    have h5 := h.cells (g := g) rfl (i * 34 + j) v e1
    rwa [plain_add'] at h5

/-- A row of places of the call's own. -/
def RowC (W w : World) (v : Value) (n : Nat) (xs : List Value) : Prop := ∃ b, W.heap.size ≤ b ∧ b ≤ w.heap.size ∧ w.ownsRow b 42 34 v n xs
theorem RowC.kept {W w w' : World} {v : Value} {n : Nat} {xs : List Value} (h : RowC W w v n xs) (hk : Kept [] w w') : RowC W w' v n xs := by
  obtain ⟨b, h1, h2, h3⟩ := h
  exact ⟨b, h1, Nat.le_trans h2 hk.size, hk.owns h3 (by simp)⟩
theorem own_lt {w : World} {b e size n : Nat} {v : Value} {xs : List Value} (h : w.ownsRow b e size v n xs) {g : Nat} (hg : v.ownBlock = some g) : b ≤ g ∧ g < w.heap.size ∧ ∃ cs, w.heap[g]? = some (.cells cs e (0, 0)) := by
  rcases h.2 with ⟨rfl, _⟩ | ⟨g', cap, cur, rfl, h2, h3, _⟩
  · simp [Value.ownBlock] at hg
  · simp [Value.ownBlock] at hg
    subst hg
    exact ⟨h2, lt_of_block h3, cur, h3⟩
theorem RowU.grown2 {w w' : World} {b n : Nat} {v u : Value} {xs : List Value} {r : List UInt8} (h : RowU w u r) (ho : w.ownsRow b 42 34 v n xs) (hg : w.grownBy w' v.ownBlock) : RowU w' u r := by
  obtain ⟨a, c, rfl, h1, h2⟩ := h
  have key : ∀ x, a = some x → v.ownBlock ≠ some x.block := fun x hx e => by
    obtain ⟨_, _, cs, h3⟩ := own_lt ho e
    obtain ⟨cs', h4⟩ := h2 x hx
    rw [h3] at h4
    simp at h4
  refine ⟨a, c, rfl, ?_, fun x hx => ?_⟩
  · cases a with
    | none => rcases h1 with h | ⟨ad, c', h3, _⟩
              · exact .inl h
              · simp at h3
    | some x =>
      obtain ⟨cs, h4⟩ := h2 x rfl
      have hb := hg.block x.block (Array.getElem?_eq_some_iff.1 h4).1 (key x rfl).symm
      rcases h1 with ⟨h3, _⟩ | ⟨ad, c', h3, h5⟩
      · simp at h3
      · simp at h3
        obtain ⟨rfl, rfl⟩ := h3
        refine .inr ⟨x, c, rfl, fun j b hj => ?_⟩
        refine Eq.trans ?_ (h5 j b hj)
        unfold World.cell?
        rw [show (x.add j).block = x.block by unfold Addr.add; split <;> rfl, hb]
  · obtain ⟨cs, h4⟩ := h2 x hx
    exact ⟨cs, by rw [hg.block x.block (Array.getElem?_eq_some_iff.1 h4).1 (key x hx).symm]; exact h4⟩

/-- A slice of bytes of the call's own. -/
def RowU2 (W w : World) (v : Value) (r : List UInt8) : Prop := RowU w v r ∧ ∀ g, v.ownBlock = some g → W.heap.size ≤ g
theorem RowU2.kept {W w w' : World} {v : Value} {r : List UInt8} (h : RowU2 W w v r) (hk : Kept [] w w') : RowU2 W w' v r := ⟨h.1.kept hk, h.2⟩
theorem RowU2.grown2 {W w w' : World} {b n : Nat} {v u : Value} {xs : List Value} {r : List UInt8} (h : RowU2 W w u r) (ho : w.ownsRow b 42 34 v n xs) (hg : w.grownBy w' v.ownBlock) : RowU2 W w' u r := ⟨h.1.grown2 ho hg, h.2⟩
def curV (L : List Bool) (v48 v51 v54 : Value) : Value := if L.getD 11 false then v54 else if L.getD 8 false then v51 else v48
def curN (L : List Bool) (n : Nat) : Nat := if L.getD 11 false then n + 1 else if L.getD 8 false then n else 0
def curX (L : List Bool) (es : List En) (ce : List Value) : List Value := if L.getD 11 false then es.flatMap c34 ++ ce else if L.getD 8 false then es.flatMap c34 else []
/-- What holds once some of the operations have come up. -/
structure IA (W : World) (x y : Value) (zz : List UInt8) (es : List En) (n : Nat) (ce : List Value) (L : List Bool) (v46 v47 v48 v51 v53 v54 : Value) (w : World) : Prop where
  keep : Kept [] W w
  f46 : L.getD 3 false = true → ∃ q, v46 = .slice (some ⟨q, 0, none⟩) 2 2 ∧ w.heap[q]? = some (.cells #[x, y] 29 (0, 0))
  f47 : L.getD 4 false = true → RowU2 W w v47 zz
  row : L.getD 5 false = true → RowC W w (curV L v48 v51 v54) (curN L n) (curX L es ce)
  f53 : L.getD 10 false = true → ∃ p, v53 = .slice (some ⟨p, 0, none⟩) 1 1 ∧ w.heap[p]? = some (.cells ce.toArray 42 (0, 0)) ∧ (L.getD 5 false = true → (curV L v48 v51 v54).ownBlock ≠ some p)
section
variable {W w w' : World} {x y : Value} {zz : List UInt8} {es : List En} {n : Nat} {ce : List Value} {L : List Bool} {v46 v47 v48 v51 v53 v54 : Value}
theorem cur_set {i : Nat} (h1 : i ≠ 8) (h2 : i ≠ 11) : curV (L.set i true) = curV L ∧ curN (L.set i true) = curN L ∧ curX (L.set i true) = curX L := by
  unfold curV curN curX
  rw [getD_set_ne h1, getD_set_ne h2]
  exact ⟨rfl, rfl, rfl⟩
theorem IA.e3 (h : IA W x y zz es n ce L v46 v47 v48 v51 v53 v54 w) :
    IA W x y zz es n ce (L.set 3 true) (.slice (some ⟨w.heap.size, 0, none⟩) 2 2) v47 v48 v51 v53 v54 (w.alloc (.cells #[x, y] 29)) := by
  have k := (Kept.refl [] w).alloc (.cells #[x, y] 29)
  obtain ⟨c1, c2, c3⟩ := cur_set (L := L) (i := 3) (by decide) (by decide)
  refine ⟨h.keep.trans k, fun _ => ⟨_, rfl, heap_alloc_at rfl⟩, fun hg => ?_, fun hg => ?_, fun hg => ?_⟩
  · rw [getD_set_ne (by decide)] at hg; exact (h.f47 hg).kept k
  · rw [getD_set_ne (by decide)] at hg; rw [c1, c2, c3]; exact (h.row hg).kept k
  · rw [getD_set_ne (by decide)] at hg
    rw [getD_set_ne (by decide), c1]
    obtain ⟨p, h1, h2, h3⟩ := h.f53 hg
    exact ⟨p, h1, k.at h2 (by simp), h3⟩
theorem IA.e4 (h : IA W x y zz es n ce L v46 v47 v48 v51 v53 v54 w) {u : Value} (k : Kept [] w w') (hu : RowU2 W w' u zz) :
    IA W x y zz es n ce (L.set 4 true) v46 u v48 v51 v53 v54 w' := by
  obtain ⟨c1, c2, c3⟩ := cur_set (L := L) (i := 4) (by decide) (by decide)
  refine ⟨h.keep.trans k, fun hg => ?_, fun _ => hu, fun hg => ?_, fun hg => ?_⟩
  · rw [getD_set_ne (by decide)] at hg
    obtain ⟨q, h1, h2⟩ := h.f46 hg
    exact ⟨q, h1, k.at h2 (by simp)⟩
  · rw [getD_set_ne (by decide)] at hg; rw [c1, c2, c3]; exact (h.row hg).kept k
  · rw [getD_set_ne (by decide)] at hg
    rw [getD_set_ne (by decide), c1]
    obtain ⟨p, h1, h2, h3⟩ := h.f53 hg
    exact ⟨p, h1, k.at h2 (by simp), h3⟩
theorem IA.e5 (h : IA W x y zz es n ce L v46 v47 v48 v51 v53 v54 w) (h8 : L.getD 8 false = false) (h11 : L.getD 11 false = false) :
    IA W x y zz es n ce (L.set 5 true) v46 v47 (.slice (some ⟨w.heap.size, 0, none⟩) 0 0) v51 v53 v54 (w.alloc (.cells #[] 42)) := by
  have k := (Kept.refl [] w).alloc (.cells #[] 42)
  obtain ⟨c1, c2, c3⟩ := cur_set (L := L) (i := 5) (by decide) (by decide)
  refine ⟨h.keep.trans k, fun hg => ?_, fun hg => ?_, fun _ => ?_, fun hg => ?_⟩
  · rw [getD_set_ne (by decide)] at hg
    obtain ⟨q, h1, h2⟩ := h.f46 hg
    exact ⟨q, h1, k.at h2 (by simp)⟩
  · rw [getD_set_ne (by decide)] at hg; exact (h.f47 hg).kept k
  · rw [c1, c2, c3]
    unfold curV curN curX
    rw [h8, h11]
    exact ⟨w.heap.size, h.keep.size, by simp, by simp, Or.inr ⟨w.heap.size, 0, #[], rfl, Nat.le_refl _, heap_alloc_new' _ _, by simp, by unfold maxLen; omega, by simp, by simp⟩⟩
  · rw [getD_set_ne (by decide)] at hg
    obtain ⟨p, h1, h2, h3⟩ := h.f53 hg
    refine ⟨p, h1, k.at h2 (by simp), fun _ => ?_⟩
    rw [c1]
    unfold curV
    rw [h8, h11]
    have := lt_of_block h2
    simp [Value.ownBlock]
    omega
theorem IA.e10 (h : IA W x y zz es n ce L v46 v47 v48 v51 v53 v54 w) :
    IA W x y zz es n ce (L.set 10 true) v46 v47 v48 v51 (.slice (some ⟨w.heap.size, 0, none⟩) 1 1) v54 (w.alloc (.cells ce.toArray 42)) := by
  have k := (Kept.refl [] w).alloc (.cells ce.toArray 42)
  obtain ⟨c1, c2, c3⟩ := cur_set (L := L) (i := 10) (by decide) (by decide)
  refine ⟨h.keep.trans k, fun hg => ?_, fun hg => ?_, fun hg => ?_, fun hg => ?_⟩
  · rw [getD_set_ne (by decide)] at hg
    obtain ⟨q, h1, h2⟩ := h.f46 hg
    exact ⟨q, h1, k.at h2 (by simp)⟩
  · rw [getD_set_ne (by decide)] at hg; exact (h.f47 hg).kept k
  · rw [getD_set_ne (by decide)] at hg; rw [c1, c2, c3]; exact (h.row hg).kept k
  · refine ⟨_, rfl, heap_alloc_at rfl, fun h5 e => ?_⟩
    rw [getD_set_ne (by decide)] at h5
    rw [c1] at e
    obtain ⟨b, _, _, ho⟩ := h.row h5
    have := (own_lt ho e).2.1
    omega
theorem IA.e8 (h : IA W x y zz es n ce L v46 v47 v48 v51 v53 v54 w) (hl : 8 < L.length) (h5 : L.getD 5 false = true) (h8 : L.getD 8 false = false) (h11 : L.getD 11 false = false) :
    ∃ b, W.heap.size ≤ b ∧ b ≤ w.heap.size ∧ w.ownsRow b 42 34 v48 0 [] ∧ ∀ v' w', w'.ownsRow b 42 34 v' n (es.flatMap c34) → w.grownBy w' v48.ownBlock → (∀ g, v'.ownBlock = some g → v48.ownBlock = some g ∨ w.heap.size ≤ g) →
      IA W x y zz es n ce (L.set 8 true) v46 v47 v48 v' v53 v54 w' := by
  obtain ⟨b, h1, h2, h3⟩ := h.row h5
  unfold curV curN curX at h3
  rw [h8, h11] at h3
  refine ⟨b, h1, h2, h3, fun v' w' ho hg hb => ?_⟩
  have kW : Kept [] W w' := h.keep.trans' (Kept.of_row hg) (fun z hz hm => by
    simp at hm
    have := (own_lt h3 hm).1
    omega)
  have e8 : (L.set 8 true).getD 8 false = true := getD_set_eq hl
  have e11 : (L.set 8 true).getD 11 false = false := by rw [getD_set_ne (by decide)]; exact h11
  refine ⟨kW, fun hg3 => ?_, fun hg4 => ?_, fun _ => ?_, fun hg10 => ?_⟩
  · rw [getD_set_ne (by decide)] at hg3
    obtain ⟨q, h4, h5'⟩ := h.f46 hg3
    refine ⟨q, h4, (hg.block q (lt_of_block h5') (fun e => ?_)).trans h5'⟩
    obtain ⟨_, _, cs, h6⟩ := own_lt h3 e.symm
    rw [h5'] at h6
    simp at h6
  · rw [getD_set_ne (by decide)] at hg4; exact (h.f47 hg4).grown2 h3 hg
  · unfold curV curN curX
    rw [e8, e11]
    exact ⟨b, h1, Nat.le_trans h2 hg.size, ho⟩
  · rw [getD_set_ne (by decide)] at hg10
    obtain ⟨p, h4, h5', h6⟩ := h.f53 hg10
    have h7 := h6 h5
    unfold curV at h7 ⊢
    rw [h8, h11] at h7
    rw [e8, e11]
    refine ⟨p, h4, (hg.block p (lt_of_block h5') (fun e => h7 e.symm)).trans h5', fun _ e => ?_⟩
    rcases hb p e with h9 | h9
    · exact h7 h9
    · have := lt_of_block h5'; omega
theorem IA.e11 (h : IA W x y zz es n ce L v46 v47 v48 v51 v53 v54 w) (hl : 11 < L.length) (h5 : L.getD 5 false = true) (h8 : L.getD 8 false = true) (h11 : L.getD 11 false = false) :
    ∃ b, W.heap.size ≤ b ∧ b ≤ w.heap.size ∧ w.ownsRow b 42 34 v51 n (es.flatMap c34) ∧ ∀ v' w', w'.ownsRow b 42 34 v' (n + 1) (es.flatMap c34 ++ ce) → w.grownBy w' v51.ownBlock → (∀ g, v'.ownBlock = some g → v51.ownBlock = some g ∨ w.heap.size ≤ g) →
      IA W x y zz es n ce (L.set 11 true) v46 v47 v48 v51 v53 v' w' := by
  obtain ⟨b, h1, h2, h3⟩ := h.row h5
  unfold curV curN curX at h3
  rw [h8, h11] at h3
  refine ⟨b, h1, h2, h3, fun v' w' ho hg hb => ?_⟩
  have kW : Kept [] W w' := h.keep.trans' (Kept.of_row hg) (fun z hz hm => by
    simp at hm
    have := (own_lt h3 hm).1
    omega)
  have e11 : (L.set 11 true).getD 11 false = true := getD_set_eq hl
  refine ⟨kW, fun hg3 => ?_, fun hg4 => ?_, fun _ => ?_, fun hg10 => ?_⟩
  · rw [getD_set_ne (by decide)] at hg3
    obtain ⟨q, h4, h5'⟩ := h.f46 hg3
    refine ⟨q, h4, (hg.block q (lt_of_block h5') (fun e => ?_)).trans h5'⟩
    obtain ⟨_, _, cs, h6⟩ := own_lt h3 e.symm
    rw [h5'] at h6
    simp at h6
  · rw [getD_set_ne (by decide)] at hg4; exact (h.f47 hg4).grown2 h3 hg
  · unfold curV curN curX
    rw [e11]
    exact ⟨b, h1, Nat.le_trans h2 hg.size, ho⟩
  · rw [getD_set_ne (by decide)] at hg10
    obtain ⟨p, h4, h5', h6⟩ := h.f53 hg10
    have h7 := h6 h5
    unfold curV at h7 ⊢
    rw [h8, h11] at h7
    rw [e11]
    refine ⟨p, h4, (hg.block p (lt_of_block h5') (fun e => h7 e.symm)).trans h5', fun _ e => ?_⟩
    rcases hb p e with h9 | h9
    · exact h7 h9
    · have := lt_of_block h5'; omega
end
def InvA (W : World) (x y : Value) (zz : List UInt8) (es : List En) (n : Nat) (ce : List Value) (L : List Bool) (vs : List Value) (w : World) : Prop :=
  ∃ v46 v47 v48 v51 v53 v54, vs = [v46, v47, v48, v51, v53, v54] ∧ IA W x y zz es n ce L v46 v47 v48 v51 v53 v54 w
theorem RowU.apart {w : World} {a : Option Addr} {n c : Nat} {r : List UInt8} (h : RowU w (.slice a n c) r) {g : Nat} {cs : Array Value} {t : TypeId} (hg : w.heap[g]? = some (.cells cs t (0, 0))) (ht : t ≠ 5) : ∀ x, a = some x → x.block ≠ g := by
  obtain ⟨a', c', h1, _, h2⟩ := h
  rintro x rfl rfl
  simp at h1
  obtain ⟨rfl, _⟩ := h1
  obtain ⟨cs', h3⟩ := h2 x rfl
  rw [hg] at h3
  simp at h3
  exact ht h3.2
end Go.Proofs.YtembincggkpflaaDoor
