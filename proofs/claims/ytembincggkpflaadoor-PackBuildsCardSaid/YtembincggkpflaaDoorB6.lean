import Derived.Test.YtembincggkpflaaDoorMZ

/- The reference of layer 12: one more blob, that the pack hasn't. -/
namespace Go.Proofs.YtembincggkpflaaDoor
open Go.RowKit Go.Lib Go.Maps

/-- A blob more: the pack, its place. -/
def RNew (w : World) (m n : Nat) (id : List UInt8) (lb : Nat) (bs ys : List UInt8) (es : List En) (e : Ending) (w' : World) : Prop :=
  addErr es id lb = 0 ∧ ∃ a' c' d' k', e = .returned (.tuple #[.agg #[.slice a' (m + lb) c', .slice d' (n + 1) k'], .agg (addE es id lb).cells.toArray, .int .i64 0]) ∧ Kept [] w w' ∧ SrcB w' (.slice a' (m + lb) c') (bs ++ ys) ∧ EnsW w' d' (es ++ [addE es id lb]) ∧ d' ≠ none ∧ (∀ x, a' = some x → w.heap.size ≤ x.block) ∧ ∀ x, d' = some x → w.heap.size ≤ x.block
theorem st_rpk {W : World} {p : Nat} {cs : List Value} (h : W.heap[p]? = some (.cells #[.slice none 0 0, .slice none 0 0] 34 (0, 0))) (hl : cs.length = 2) (ho : ∀ v ∈ cs, v.oneCell' = true) : (storeVar 34 ⟨p, 0, none⟩ (.agg cs.toArray)).run Tryd.prog W = .ok () (W.setRow p cs.toArray) := by
  have h2 := run_storeVar_at (P := Tryd.prog) W p 0 34 34 [.slice none 0 0, .slice none 0 0] cs h (by rw [hl]; exact rpk_info) (by rw [hl]; decide) ho
  rwa [splice36 [.slice none 0 0, .slice none 0 0] cs hl] at h2
theorem info_ren : (Tryd.prog.info? 42).map (fun i => (i.zero, i.size, i.bytes)) = some (some (.agg zEnC.toArray), 34, 48) := by kernel_rfl
theorem build_n0 (W : World) : (Instr.buildSlice 32 0 #[]).run Tryd.prog W = .ok (.slice (some ⟨W.heap.size, 0, none⟩) 0 0) (W.alloc (.cells #[] 42)) := by kernel_rfl
theorem build_n1' (x y : Int) (b0 b1 b2 b3 b4 b5 b6 b7 b8 b9 b10 b11 b12 b13 b14 b15 b16 b17 b18 b19 b20 b21 b22 b23 b24 b25 b26 b27 b28 b29 b30 b31 : UInt8) (W : World) : (Instr.buildSlice 32 1 #[(0, .agg ([b0, b1, b2, b3, b4, b5, b6, b7, b8, b9, b10, b11, b12, b13, b14, b15, b16, b17, b18, b19, b20, b21, b22, b23, b24, b25, b26, b27, b28, b29, b30, b31].map B ++ [Value.int .i64 x, Value.int .i64 y]).toArray)]).run Tryd.prog W = .ok (.slice (some ⟨W.heap.size, 0, none⟩) 1 1) (W.alloc (.cells ([b0, b1, b2, b3, b4, b5, b6, b7, b8, b9, b10, b11, b12, b13, b14, b15, b16, b17, b18, b19, b20, b21, b22, b23, b24, b25, b26, b27, b28, b29, b30, b31].map B ++ [Value.int .i64 x, Value.int .i64 y]).toArray 42)) := by kernel_rfl
theorem build_n1 (e : En) (h : e.id.length = 32) (W : World) : (Instr.buildSlice 32 1 #[(0, .agg e.cells.toArray)]).run Tryd.prog W = .ok (.slice (some ⟨W.heap.size, 0, none⟩) 1 1) (W.alloc (.cells e.cells.toArray 42)) := by
  match e, h with
  | ⟨[b0, b1, b2, b3, b4, b5, b6, b7, b8, b9, b10, b11, b12, b13, b14, b15, b16, b17, b18, b19, b20, b21, b22, b23, b24, b25, b26, b27, b28, b29, b30, b31], x, y⟩, _ => exact build_n1' x y b0 b1 b2 b3 b4 b5 b6 b7 b8 b9 b10 b11 b12 b13 b14 b15 b16 b17 b18 b19 b20 b21 b22 b23 b24 b25 b26 b27 b28 b29 b30 b31 W
theorem build_pk (a b : Option Addr) (n m c d : Nat) (W : World) : (Instr.build 34 #[(0, .slice a n c), (1, .slice b m d)]).run Tryd.prog W = .ok (.agg #[.slice a n c, .slice b m d]) W := by kernel_rfl

set_option maxRecDepth 100000 in
set_option maxHeartbeats 8000000 in
theorem r12_add_new (a : Option Addr) (m c : Nat) (d : Option Addr) (n k : Nat) (ab : Option Addr) (cb : Nat) (bs ys : List UInt8) (es : List En) (w : World) (hm : m = bs.length) (hend : m = ends es) (hb : SrcB w (.slice a bs.length c) bs) (h : EnsW w d es) (hn : n = es.length) (hl : n ≤ 20) (hys : SrcB w (.slice ab ys.length cb) ys) (hcb : ab = none → cb = 0) (hle : ys.length ≤ 65536) (hbl : m ≤ 900000) (htw : hasE es (Sha.sum ys) = false) (hdk : d = none → k = 0) (h32e : ∀ e ∈ es, e.id.length = 32) :
    Calls Tryd.prog 7 #[.agg #[.slice a m c, .slice d n k], .slice ab ys.length cb] w (RNew w m n (Sha.sum ys) ys.length bs ys es) := by
  obtain ⟨lb, hlb⟩ : ∃ lb, lb = ys.length := ⟨_, rfl⟩
  have hz1 := zero_ren; have hz2 := zero_rpk; have hb0 := build_ren0
  have hof := hid (fun v (hv : Kept [] w v) => refof_any ab cb ys v (reads_src (hys.kept hv (by simp))) hcb (by omega) (fun s b gh ch gk ck gb ob cb w h1 h2 h3 h4 => refmix_any s b gh ch gk ck gb ob cb w h1 h2 h3 h4))
  obtain ⟨id, hid'⟩ : ∃ id, id = Sha.sum ys := ⟨_, rfl⟩
  have h32 : id.length = 32 := by rw [hid']; exact sum32 ys
  obtain ⟨ci, hci⟩ : ∃ ci, ci = id.map B := ⟨_, rfl⟩
  obtain ⟨ce, hce⟩ : ∃ ce, ce = (addE es id lb).cells := ⟨_, rfl⟩
  have lce := hid (show ce.length = 34 by rw [hce]; exact en_size h32)
  have oce := hid (show ∀ v ∈ ce, v.oneCell' = true by rw [hce]; exact en_one _)
  have hbu := hid (show ∀ W, (Instr.build 42 #[(0, .agg ci.toArray), (1, .int .i64 (m : Int)), (2, .int .i64 (lb : Int))]).run Tryd.prog W = .ok (.agg ce.toArray) W from fun W => by
    rw [hci, hce, hend]; exact build_ren id h32 _ _ W)
  rw [← hid', ← hlb] at hof ⊢
  rw [← hid'] at htw
  have HT := hid htw
  have HDK := hid hdk
  have H32E := hid h32e
  rw [← hci] at hof
  have HM := hid hm; have HE := hid hend; have HB := hid hb; have H := hid h; have HN := hid hn; have HY := hid hys
  have HLB := hid hlb; have H32 := hid h32; have HC := hid hci; have HCE := hid hce; have HID := hid hid'
  have q1 : ¬ (65536 : Int) < (lb : Int) := by omega
  have hlb2 := hid (show lb ≤ 65536 by omega)
  obtain ⟨W3, hW3⟩ : ∃ W3, W3 = ((w.alloc (.cells #[.slice a m c, .slice d n k] 34)).alloc (.cells #[.slice none 0 0, .slice none 0 0] 34)).alloc (.cells zEnC.toArray 42) := ⟨_, rfl⟩
  have K3 := hid (show Kept [] w W3 from hW3 ▸ (((Kept.refl [] w).alloc _).alloc _).alloc _)
  have hE := hid (show W3.heap[w.heap.size + 1 + 1]? = some (.cells zEnC.toArray 42 (0, 0)) from hW3 ▸ heap_alloc_at (by simp))
  have hP := hid (show W3.heap[w.heap.size + 1]? = some (.cells #[.slice none 0 0, .slice none 0 0] 34 (0, 0)) from by
    rw [hW3]
    exact ((Kept.refl [] _).alloc (.cells zEnC.toArray 42)).at (heap_alloc_at (by simp)) (by simp))
  have hX := hid (show W3.heap[w.heap.size]? = some (.cells #[.slice a m c, .slice d n k] 34 (0, 0)) from by
    rw [hW3]
    exact (((Kept.refl [] _).alloc (.cells #[.slice none 0 0, .slice none 0 0] 34)).alloc (.cells zEnC.toArray 42)).at (heap_alloc_at rfl) (by simp))
  have HW3 := hid hW3
  clear htw hdk h32e hW3 hm hend hb h hn hys hlb h32 hci hce hid' hle hcb
  go_enter Tryd.func7, Tryd.ntmps7
  go_wp2_with fail
  rw [← HW3.out]
  have z3 := hid (show w.heap.size + 1 + 1 < W3.heap.size from lt_of_block hE.out)
  go_cut [7] (fun s7 wx => ∃ q, s7 = .pointer (some ⟨q, 0, none⟩) ∧ Hid (W3.heap.size ≤ q) ∧ Hid (wx.heap[q]? = some (.cells ce.toArray 42 (0, 0))) ∧ Hid (Kept [] W3 wx))
  case first =>
    have hbd := hid (show ∀ v, Kept [] W3 v → v.cell? ⟨w.heap.size, 0, none⟩ = some (.slice a m c) from fun v hv => by rw [cell_of_row _ _ _ _ _ _ (hv.at hX.out (by simp))]; rfl)
    refine wp_region_held_drew (S := Kept [] W3) (by kernel_rfl) (Kept.refl [] W3).drew (fun hH => ?_)
    refine takeH 0 (.slice ab lb cb) rfl (by kernel_rfl) (by kernel_rfl) (by kernel_rfl) (fun _ _ _ h => h) (by rfl) (fun v hv => by go_simp) hH ?_
    simp only [Act.put, List.setIfInBounds_toArray, List.set_cons_succ, List.set_cons_zero]
    refine takeH 2 (.pointer (some ⟨w.heap.size, 0, none⟩)) rfl (by kernel_rfl) (by kernel_rfl) (by kernel_rfl) (fun _ _ _ h => h) (by rfl) (fun v hv => by go_simp) hH ?_
    simp only [Act.put, List.setIfInBounds_toArray, List.set_cons_succ, List.set_cons_zero]
    refine takeH 3 (.slice a m c) rfl (by kernel_rfl) (by kernel_rfl) (by kernel_rfl) (fun _ _ _ h => h) (by rfl) (fun v hv => by have h := hbd.out v hv; go_simp) hH ?_
    simp only [Act.put, List.setIfInBounds_toArray, List.set_cons_succ, List.set_cons_zero]
    refine takeH 4 (.int .i64 (m : Int)) rfl (by kernel_rfl) (by kernel_rfl) (by kernel_rfl) (fun _ _ _ h => h) (by rfl) (fun v hv => by go_simp) hH ?_
    simp only [Act.put, List.setIfInBounds_toArray, List.set_cons_succ, List.set_cons_zero]
    refine takeH 5 (.slice ab lb cb) rfl (by kernel_rfl) (by kernel_rfl) (by kernel_rfl) (fun _ _ _ h => h) (by rfl) (fun v hv => by go_simp) hH ?_
    simp only [Act.put, List.setIfInBounds_toArray, List.set_cons_succ, List.set_cons_zero]
    refine takeH 6 (.int .i64 (lb : Int)) rfl (by kernel_rfl) (by kernel_rfl) (by kernel_rfl) (fun _ _ _ h => h) (by rfl) (fun v hv => by go_simp) hH ?_
    simp only [Act.put, List.setIfInBounds_toArray, List.set_cons_succ, List.set_cons_zero]
    refine callOrE 1 8 rfl rfl (by kernel_rfl) (by rfl) (by rfl) 21 #[.slice ab lb cb] (by go_simp) (fun vv v => vv = .agg ci.toArray ∧ Kept [] W3 v) (fun _ _ h => h.2) ((hof.out W3.drew (K3.out.drew)).mono fun e w' h => ⟨_, h.1, rfl, (Kept.refl [] W3).drew.trans h.2⟩) (.pointer (some ⟨W3.heap.size, 0, none⟩)) (W3.drew.alloc (.cells zEnC.toArray 42)) (by have h := hz1; go_simp) (hH.alloc _) ?_ ?_
    · rintro vv w4 ⟨rfl, k4⟩
      simp only [Act.put, List.setIfInBounds_toArray, List.set_cons_succ, List.set_cons_zero]
      have z4 := k4.size
      refine takeH 7 (.agg ce.toArray) rfl (by kernel_rfl) (by kernel_rfl) (by kernel_rfl) (fun _ _ _ h => h) (by rfl) (fun v hv => by have h := hbu.out v; unfold execOp; simp [Act.eval, Sem.run_bind, Sem.run_pure, Result.andThen_ok, h]) k4 ?_
      simp only [Act.put, List.setIfInBounds_toArray, List.set_cons_succ, List.set_cons_zero]
      refine runH 8 rfl (by kernel_rfl) (by rfl) (.pointer (some ⟨w4.heap.size, 0, none⟩)) (w4.alloc (.cells zEnC.toArray 42)) (by have h := hz1; go_simp) (k4.alloc _) ?_
      simp only [Act.put, List.setIfInBounds_toArray, List.set_cons_succ, List.set_cons_zero]
      have hs8 := hid (show (storeVar 42 ⟨w4.heap.size, 0, none⟩ (.agg ce.toArray)).run Tryd.prog (w4.alloc (.cells zEnC.toArray 42)) = .ok () ((w4.alloc (.cells zEnC.toArray 42)).setRow w4.heap.size ce.toArray) from st_ren (heap_alloc_at rfl) lce.out oce.out)
      have hkS := hid (show Kept [] W3 ((w4.alloc (.cells zEnC.toArray 42)).setRow w4.heap.size ce.toArray) from (k4.alloc _).setRow (fun h => absurd h (by omega)) _)
      refine writeH 9 rfl (by kernel_rfl) (by rfl) ((w4.alloc (.cells zEnC.toArray 42)).setRow w4.heap.size ce.toArray) (by have h := hs8.out; unfold execOp; simp [Act.eval, Instr.storeAt, Instr.sureAddr, Sem.run_bind, Sem.run_pure, Result.andThen_ok, h]) hkS.out ?_
      simp only [Act.put, List.setIfInBounds_toArray, List.set_cons_succ, List.set_cons_zero]
      refine wpAnyH_done (by kernel_rfl) ?_ _
      go_wp2_with fail
      go_meet
      exact ⟨w4.heap.size, rfl, hid (by omega), hid (setRow_heap _ _ _ _ _ _ (heap_alloc_at rfl)), hkS⟩
    · simp only [Act.put, List.setIfInBounds_toArray, List.set_cons_succ, List.set_cons_zero]
      refine callE 1 rfl (by kernel_rfl) (by rfl) 21 #[.slice ab lb cb] (by go_simp) (fun vv v => vv = .agg ci.toArray ∧ Kept [] (W3.drew.alloc (.cells zEnC.toArray 42)) v) (fun _ _ h => (hH.alloc _).trans h.2) ((hof.out (W3.drew.alloc (.cells zEnC.toArray 42)) (K3.out.drew.alloc _)).mono fun e w' h => ⟨_, h.1, rfl, h.2⟩) ?_
      rintro vv w4 ⟨rfl, k4⟩
      simp only [Act.put, List.setIfInBounds_toArray, List.set_cons_succ, List.set_cons_zero]
      have hq := hid (k4.at (heap_alloc_at (w := W3.drew) (o := .cells zEnC.toArray 42) rfl) (by simp))
      have k3 := (hH.alloc (.cells zEnC.toArray 42)).trans k4
      refine takeH 7 (.agg ce.toArray) rfl (by kernel_rfl) (by kernel_rfl) (by kernel_rfl) (fun _ _ _ h => h) (by rfl) (fun v hv => by have h := hbu.out v; unfold execOp; simp [Act.eval, Sem.run_bind, Sem.run_pure, Result.andThen_ok, h]) k3 ?_
      simp only [Act.put, List.setIfInBounds_toArray, List.set_cons_succ, List.set_cons_zero]
      have hs8 := hid (show (storeVar 42 ⟨W3.heap.size, 0, none⟩ (.agg ce.toArray)).run Tryd.prog w4 = .ok () (w4.setRow W3.heap.size ce.toArray) from st_ren hq.out lce.out oce.out)
      have hkS := hid (show Kept [] W3 (w4.setRow W3.heap.size ce.toArray) from k3.setRow (fun h => absurd h (by omega)) _)
      refine writeH 9 rfl (by kernel_rfl) (by rfl) (w4.setRow W3.heap.size ce.toArray) (by have h := hs8.out; unfold execOp; simp [Act.eval, Instr.storeAt, Instr.sureAddr, Sem.run_bind, Sem.run_pure, Result.andThen_ok, h]) hkS.out ?_
      simp only [Act.put, List.setIfInBounds_toArray, List.set_cons_succ, List.set_cons_zero]
      refine wpAnyH_done (by kernel_rfl) ?_ _
      go_wp2_with fail
      go_meet
      exact ⟨W3.heap.size, rfl, hid (by omega), hid (setRow_heap _ _ _ _ _ _ hq.out), hkS⟩
  case rest =>
    obtain ⟨q, rfl, hq3, hqe, hkc⟩ := hcut
    have Kc := hid (K3.out.trans hkc.out)
    have hXc := hid (fun v (hv : Kept [] wc v) => (hkc.out.trans hv).at hX.out (by simp))
    have hcl : wc.cell? ⟨w.heap.size, 1, none⟩ = some (.slice d n k) := by rw [cell_of_row _ _ _ _ _ _ (hXc.out wc (Kept.refl _ _))]; rfl
    have hn4 : ¬ (4096 : Int) ≤ (n : Int) := by omega
    have hsx := hid (show (Tryd.prog.info? 36).map (·.size) = some ci.length by rw [HC.out, List.length_map, H32.out]; kernel_rfl)
    have hidr := hid (show ∀ (j : Nat) v, ci[j]? = some v → wc.cell? ((⟨q, 0, none⟩ : Addr).add j) = some v from fun j v hj => by
      rw [plain_add', cell_of_row _ _ _ _ _ _ hqe.out]
      have h1 : ce[j]? = some v := by
        rw [HCE.out]; unfold En.cells
        rw [List.getElem?_append_left (by have := (List.getElem?_eq_some_iff.1 hj).1; rw [HC.out] at this; simpa [addE] using this)]
        rw [HC.out] at hj; exact hj
      simpa using h1)
    have hhas := hid (r12_has d k es id wc (H.out.kept Kc.out) H32.out (by have := HN.out; omega))
    rw [← HC.out, ← HN.out] at hhas
    have zi := hid (show (Tryd.prog.info? 42).map (·.size) = some zEnC.length by rw [zEnC_len]; exact ren_info)
    have zf := hid (show 0 + zEnC.length ≤ zEnC.length by omega)
    have zsp := hid (splice36 zEnC zEnC rfl)
    go_wp2_with (refine wpList_load_cells rfl 36 (.tmp 29) rfl ⟨q, 0, none⟩ rfl ci _ Tryd.underlying36 rfl hsx.out hidr.out ?_)
    refine hhas.out.mono ?_
    rintro e w5 ⟨rfl, k5⟩
    have K5 := hid (Kc.out.trans k5)
    have K35 := hid (hkc.out.trans k5)
    clear hhas hcl
    have hE5 := hid (K35.out.at hE.out (by simp))
    have hP5 := hid (K35.out.at hP.out (by simp))
    have hX5 := hid (K35.out.at hX.out (by simp))
    cases hhe : hasE es id
    · have hni := hid (show id ∉ es.map (·.id) from fun hx => by rw [hasE_id.2 hx] at hhe; cases hhe)
      clear hhe
      have hsz := hid (r12_size a m c d n k w5 (by omega) (by omega))
      have hpl := hid (show ∀ (j : Nat) v, [Value.slice a m c, .slice d n k][j]? = some v → w5.cell? ((⟨w.heap.size, 0, none⟩ : Addr).add j) = some v from fun j v hj => by rw [plain_add', cell_of_row _ _ _ _ _ _ hX5.out]; simpa using hj)
      have hpi := hid (show (Tryd.prog.info? 34).map (·.size) = some [Value.slice a m c, .slice d n k].length from rpk_info)
      go_wp2_with (refine wpList_load_cells rfl 34 (.tmp 2) rfl ⟨w.heap.size, 0, none⟩ rfl [Value.slice a m c, .slice d n k] _ Tryd.underlying34 rfl hpi.out hpl.out ?_)
      refine hsz.out.mono ?_
      rintro e w6 ⟨rfl, k6⟩
      have K6 := hid (K5.out.trans k6)
      have hE6 := hid (k6.at hE5.out (by simp))
      have hP6 := hid (k6.at hP5.out (by simp))
      have hX6 := hid (k6.at hX5.out (by simp))
      have hsz2 := hid (show sizeP es + lb + 36 = m + 13 + 36 * n + 36 + lb from by unfold sizeP; have := HE.out; have := HN.out; omega)
      have ws1 : IntKind.i64.wrap (((m + 13 + 36 * n : Nat) : Int) + 36) = ((m + 13 + 36 * n : Nat) : Int) + 36 := by rw [IntKind.wrap_i64]; omega
      have ws2 : IntKind.i64.wrap (((m + 13 + 36 * n : Nat) : Int) + 36 + (lb : Int)) = ((m + 13 + 36 * n + 36 + lb : Nat) : Int) := by have := hlb2.out; rw [IntKind.wrap_i64]; omega
      clear hpl hpi hsz
      have hni0 := hni.out
      have hne := hid (show addErr es id lb = if 1048576 < m + 13 + 36 * n + 36 + lb then 6 else 0 from by
        unfold addErr
        rw [if_neg (by have := hlb2.out; omega), if_neg (by have := HN.out; omega), if_neg hni0, hsz2.out])
      clear hni0 hni
      have hnof : ¬ (1048576 : Int) < ((m + 13 + 36 * n + 36 + lb : Nat) : Int) := by have := hlb2.out; omega
      have hni := hid (show addErr es id lb = 0 from by rw [hne.out, if_neg (by have := hlb2.out; omega)])
      go_wp2_with fail
      have hbu2 := hid (show ∀ W, (Instr.buildSlice 32 1 #[(0, .agg ce.toArray)]).run Tryd.prog W = .ok (.slice (some ⟨W.heap.size, 0, none⟩) 1 1) (W.alloc (.cells ce.toArray 42)) from fun W => by rw [HCE.out]; exact build_n1 _ H32.out W)
      have hsrc := hid (show ∀ v, Kept [] w6 v → Src v (.slice d n k) n (es.flatMap c34) from fun v hv => ensW_src (H.out.kept (K6.out.trans hv)) HN.out HDK.out)
      have hrows := hid (show ∀ v, Kept [] w6 v → SrcB v (.slice a m c) bs ∧ SrcB v (.slice ab lb cb) ys from fun v hv => by
        rw [HM.out, HLB.out]
        exact ⟨HB.out.kept (K6.out.trans hv) (by simp), HY.out.kept (K6.out.trans hv) (by simp)⟩)
      have hlen := hid (show (bs ++ ys).length = m + lb by rw [List.length_append, HM.out, HLB.out])
      have hbs := hid (show bs.length + ys.length ≤ 1000000 by have := HM.out; have := HLB.out; have := hlb2.out; omega)
      have hmlb := hid (show bs.length = m ∧ ys.length = lb from ⟨HM.out.symm, HLB.out.symm⟩)
      have hSX := hid (show ∀ v, Kept [w.heap.size + 1, w.heap.size + 1 + 1] w6 v → v.cell? ⟨w.heap.size, 0, none⟩ = some (.slice a m c) ∧ v.cell? ⟨w.heap.size, 1, none⟩ = some (.slice d n k) from fun v hv => by
        have h1 := hv.at hX6.out (by simp; omega)
        exact ⟨by rw [cell_of_row _ _ _ _ _ _ h1]; rfl, by rw [cell_of_row _ _ _ _ _ _ h1]; rfl⟩)
      have hkc6 := hid (k5.trans k6)
      have hq6 := hid (hkc6.out.at hqe.out (by simp))
      have hS7 := hid (show ∀ v, Kept [w.heap.size + 1, w.heap.size + 1 + 1] w6 v → (loadVar 42 ⟨q, 0, none⟩).run Tryd.prog v = .ok (.agg ce.toArray) v from fun v hv => run_ld_ren (hv.at hq6.out (by have := hq3.out; have := z3.out; simp; omega)) lce.out)
      clear hnof ws1 ws2 hn4 q1
      refine wp_region_held_drew (S := Kept [w.heap.size + 1, w.heap.size + 1 + 1] w6) (by kernel_rfl) (Kept.refl _ w6).drew (fun hH => ?_)
      refine takeH 0 (.pointer (some ⟨w.heap.size, 0, none⟩)) rfl (by kernel_rfl) (by kernel_rfl) (by kernel_rfl) (fun _ _ _ h => h) (by rfl) (fun v hv => by go_simp) hH ?_
      simp only [Act.put, List.setIfInBounds_toArray, List.set_cons_succ, List.set_cons_zero]
      refine takeH 1 (.slice a m c) rfl (by kernel_rfl) (by kernel_rfl) (by kernel_rfl) (fun _ _ _ h => h) (by rfl) (fun v hv => by have h := (hSX.out v hv).1; go_simp) hH ?_
      simp only [Act.put, List.setIfInBounds_toArray, List.set_cons_succ, List.set_cons_zero]
      refine takeH 2 (.slice ab lb cb) rfl (by kernel_rfl) (by kernel_rfl) (by kernel_rfl) (fun _ _ _ h => h) (by rfl) (fun v hv => by go_simp) hH ?_
      simp only [Act.put, List.setIfInBounds_toArray, List.set_cons_succ, List.set_cons_zero]
      refine takeH 6 (.pointer (some ⟨w.heap.size, 1, none⟩)) rfl (by kernel_rfl) (by kernel_rfl) (by kernel_rfl) (fun _ _ _ h => h) (by rfl) (fun v hv => by go_simp) hH ?_
      simp only [Act.put, List.setIfInBounds_toArray, List.set_cons_succ, List.set_cons_zero]
      refine takeH 7 (.slice d n k) rfl (by kernel_rfl) (by kernel_rfl) (by kernel_rfl) (fun _ _ _ h => h) (by rfl) (fun v hv => by have h := (hSX.out v hv).2; go_simp) hH ?_
      simp only [Act.put, List.setIfInBounds_toArray, List.set_cons_succ, List.set_cons_zero]
      refine takeH 9 (.agg ce.toArray) rfl (by kernel_rfl) (by kernel_rfl) (by kernel_rfl) (fun _ _ _ h => h) (by rfl) (fun v hv => by have h := hS7.out v hv; unfold execOp; simp [Act.eval, Instr.loadAt, Instr.sureAddr, Sem.run_bind, Sem.run_pure, Result.andThen_ok, h]) hH ?_
      simp only [Act.put, List.setIfInBounds_toArray, List.set_cons_succ, List.set_cons_zero]
      refine takeH 13 (.agg ce.toArray) rfl (by kernel_rfl) (by kernel_rfl) (by kernel_rfl) (fun _ _ _ h => h) (by rfl) (fun v hv => by have h := hS7.out v hv; unfold execOp; simp [Act.eval, Instr.loadAt, Instr.sureAddr, Sem.run_bind, Sem.run_pure, Result.andThen_ok, h]) hH ?_
      simp only [Act.put, List.setIfInBounds_toArray, List.set_cons_succ, List.set_cons_zero]
      refine region_inv_at [true, true, true, true, true, true, true, true, true, true, true, true, false, true, false, false, false] [(3, []), (4, [(3, true)]), (5, [(8, false), (11, false)]), (8, [(5, true), (8, false), (11, false)]), (10, []), (11, [(5, true), (8, true), (10, true), (11, false)])] 7 [some 46, some 47, some 48, some 51, some 53, some 54] (InvA w6 (.slice a m c) (.slice ab lb cb) (bs ++ ys) es n ce) [true, true, true, false, false, false, true, true, false, true, false, false, false, true, false, false, false] [u46, u47, u48, u51, u53, u54] rfl rfl rfl (by kernel_rfl) (by kernel_rfl) (fun L vs v hI => ?_) (fun e he L hlen' hdeps vs v hI => ?_) (fun vs v hI => ?_) ⟨_, _, _, _, _, _, rfl, (Kept.refl _ w6).drew, fun h => by simp at h, fun h => by simp at h, fun h => by simp at h, fun h => by simp at h⟩
      · obtain ⟨_, _, _, _, _, _, _, h⟩ := hI
        exact h.keep.wider (fun _ _ h => by simp at h)
      · obtain ⟨v46, v47, v48, v51, v53, v54, rfl, hI⟩ := hI
        obtain ⟨i0, hi0, hz0, hz1, hz2⟩ := info_parts info_ren
        have hI := hid hI
        simp only [putAll, Act.put, List.setIfInBounds_toArray, List.set_cons_succ, List.set_cons_zero]
        simp only [List.mem_cons, List.not_mem_nil, or_false] at he
        rcases he with rfl | rfl | rfl | rfl | rfl | rfl
        · refine wpOp_run 3 rfl (by rfl) (.slice (some ⟨v.heap.size, 0, none⟩) 2 2) (v.alloc (.cells #[.slice a m c, .slice ab lb cb] 29)) (by have hb := build_b2 a ab m lb c cb v; go_simp) ⟨_, rfl, _, _, _, _, _, _, rfl, hI.out.e3⟩
        · have h3 := hdeps (3, true) (by simp)
          obtain ⟨q6, rfl, hq⟩ := hI.out.f46 h3
          have hir : IsRows v (some ⟨q6, 0, none⟩) [bs, ys] := ⟨fun h => by simp at h, fun x hx i r hi => by
            simp at hx; subst hx
            obtain ⟨r1, r2⟩ := hrows.out v hI.out.keep
            match i, hi with
            | 0, hi => simp at hi; subst hi; exact ⟨a, c, by rw [plain_add', cell_of_row _ _ _ _ _ _ hq, hmlb.out.1]; rfl, by rw [hmlb.out.1]; exact r1⟩
            | 1, hi => simp at hi; subst hi; exact ⟨ab, cb, by rw [plain_add', cell_of_row _ _ _ _ _ _ hq, hmlb.out.2]; rfl, by rw [hmlb.out.2]; exact r2⟩
            | _ + 2, hi => simp at hi⟩
          have hj := hid (join_rows (some ⟨q6, 0, none⟩) 2 2 [bs, ys] v hir rfl (by have := hbs.out; simp; omega))
          refine wpOp_callE 4 rfl (by rfl) 23 #[.slice (some ⟨q6, 0, none⟩) 2 2] (by go_simp) (fun u v' => Kept [] v v' ∧ RowU2 w6 v' u (bs ++ ys)) (hj.out.mono fun e w' h => by
            obtain ⟨u, rfl, hr⟩ := h
            have := hr.rowU
            exact ⟨u, rfl, hr.1, by simpa using this, fun g hg => Nat.le_trans hI.out.keep.size (own_lt hr.2.2.2 hg).1⟩) ?_
          rintro u v' ⟨k', hu'⟩
          exact ⟨_, rfl, _, _, _, _, _, _, rfl, hI.out.e4 k' hu'⟩
        · refine wpOp_run 5 rfl (by rfl) (.slice (some ⟨v.heap.size, 0, none⟩) 0 0) (v.alloc (.cells #[] 42)) (by have hb := build_n0 v; go_simp) ⟨_, rfl, _, _, _, _, _, _, rfl, hI.out.e5 (hdeps (8, false) (by simp)) (hdeps (11, false) (by simp))⟩
        · obtain ⟨b, hb1, hb2, ho, hnext⟩ := hI.out.e8 hlen' (hdeps (5, true) (by simp)) (hdeps (8, false) (by simp)) (hdeps (11, false) (by simp))
          refine wpOp_append_k 8 rfl rfl (.tmp 48) (.tmp 50) 32 rfl b 42 i0 _ 34 48 Tryd.underlying32 hi0 hz0 hz1 hz2 (by simp [Value.cells, zEnC_len]) (by decide) v48 0 [] rfl ho (.slice d n k) n (es.flatMap c34) rfl (hsrc.out v hI.out.keep) (by rw [flat_len c34 34 c34_len, HN.out]) (c34_one es) (by unfold maxLen; omega) (by omega) hb2 ?_
          intro v' w' ho' hg hb'
          exact ⟨_, rfl, _, _, _, _, _, _, rfl, hnext v' w' (by simpa using ho') hg hb'⟩
        · refine wpOp_run 10 rfl (by rfl) (.slice (some ⟨v.heap.size, 0, none⟩) 1 1) (v.alloc (.cells ce.toArray 42)) (by have hb := hbu2.out v; unfold execOp; simp [Act.eval, Sem.run_bind, Sem.run_pure, Result.andThen_ok, hb]) ⟨_, rfl, _, _, _, _, _, _, rfl, hI.out.e10⟩
        · obtain ⟨b, hb1, hb2, ho, hnext⟩ := hI.out.e11 hlen' (hdeps (5, true) (by simp)) (hdeps (8, true) (by simp)) (hdeps (11, false) (by simp))
          obtain ⟨p3, rfl, hp3, _⟩ := hI.out.f53 (hdeps (10, true) (by simp))
          refine wpOp_append_k 11 rfl rfl (.tmp 51) (.tmp 53) 32 rfl b 42 i0 _ 34 48 Tryd.underlying32 hi0 hz0 hz1 hz2 (by simp [Value.cells, zEnC_len]) (by decide) v51 n (es.flatMap c34) rfl ho (.slice (some ⟨p3, 0, none⟩) 1 1) 1 ce rfl (Or.inr ⟨_, _, rfl, fun j u hj => by rw [plain_add', cell_of_row _ _ _ _ _ _ hp3]; simpa using hj⟩) (by rw [lce.out]) oce.out (by unfold maxLen; omega) (by omega) hb2 ?_
          intro v' w' ho' hg hb'
          exact ⟨_, rfl, _, _, _, _, _, _, rfl, hnext v' w' ho' hg hb'⟩
      · obtain ⟨v46, v47, v48, v51, v53, v54, rfl, hI⟩ := hI
        have h47 := hI.f47 rfl
        have hrow : RowC w6 v v54 (n + 1) (es.flatMap c34 ++ ce) := hI.row rfl
        have kv := hI.keep
        clear hI hrows hsrc hbu2
        obtain ⟨b, hb1, hb2, ho⟩ := hrow
        obtain ⟨⟨a7, c7, h7, hs7, hu7⟩, hl7⟩ := h47
        have HL7 := hid hl7
        rw [hlen.out] at h7
        subst h7
        have hw0 := hid K6.out.size
        have hap := hid (fun (g : Nat) (cs : Array Value) (t : TypeId) (hg : v.heap[g]? = some (.cells cs t (0, 0))) (ht : t ≠ 5) => RowU.apart (show RowU v (.slice a7 (m + lb) c7) (bs ++ ys) from ⟨a7, c7, by rw [hlen.out], hs7, hu7⟩) hg ht)
        have hod := hid ho
        obtain ⟨d', k', rfl⟩ := owns_slice ho
        have hlow := hid (fun g (hg : (Value.slice d' (n + 1) k').ownBlock = some g) => (own_lt ho hg).1)
        have hK0 : Kept [w.heap.size + 1, w.heap.size + 1 + 1] w6 v := kv.wider (fun _ _ h => by simp at h)
        have HP := hid (kv.at hP6.out (by simp))
        have HE2 := hid (kv.at hE6.out (by simp))
        have HS7 := hid hs7
        have HB1 := hid hb1
        have hzE := hid (lt_of_block hE6.out)
        have kv' := hid kv
        clear ho hs7 hu7 hb2 hb1 kv hl7
        simp only [putAll, Act.put, List.setIfInBounds_toArray, List.set_cons_succ, List.set_cons_zero]
        refine takeH 12 (.agg #[.slice a7 (m + lb) c7, .slice d' (n + 1) k']) rfl (by kernel_rfl) (by kernel_rfl) (by kernel_rfl) (fun _ _ _ h => h) (by rfl) (fun v hv => by have h := build_pk a7 d' (m + lb) (n + 1) c7 k' v; go_simp) hK0 ?_
        simp only [Act.put, List.setIfInBounds_toArray, List.set_cons_succ, List.set_cons_zero]
        have st1 := hid (st_rpk (cs := [.slice a7 (m + lb) c7, .slice d' (n + 1) k']) HP.out rfl (by intro z hz; simp at hz; rcases hz with rfl | rfl <;> rfl))
        refine writeH 14 rfl (by kernel_rfl) (by rfl) (v.setRow (w.heap.size + 1) [Value.slice a7 (m + lb) c7, .slice d' (n + 1) k'].toArray) (by have h := st1.out; unfold execOp; simp [Act.eval, Instr.storeAt, Instr.sureAddr, Sem.run_bind, Sem.run_pure, Result.andThen_ok, h]) (hK0.setRow (fun _ => by simp) _) ?_
        simp only [putAll, Act.put, List.setIfInBounds_toArray, List.set_cons_succ, List.set_cons_zero]
        have HP2 := hid (show (v.setRow (w.heap.size + 1) [Value.slice a7 (m + lb) c7, .slice d' (n + 1) k'].toArray).heap[w.heap.size + 1]? = some (.cells [Value.slice a7 (m + lb) c7, .slice d' (n + 1) k'].toArray 34 (0, 0)) from setRow_heap _ _ _ _ _ _ HP.out)
        have kY := hid (show Kept [w.heap.size + 1] v (v.setRow (w.heap.size + 1) [Value.slice a7 (m + lb) c7, .slice d' (n + 1) k'].toArray) from (Kept.refl _ _).setRow (fun _ => by simp) _)
        have hK1 := hK0.setRow (g := w.heap.size + 1) (fun _ => by simp) [Value.slice a7 (m + lb) c7, .slice d' (n + 1) k'].toArray
        generalize v.setRow (w.heap.size + 1) [Value.slice a7 (m + lb) c7, .slice d' (n + 1) k'].toArray = vy at *
        have HE3 := hid (kY.out.at HE2.out (by simp))
        have st2 := hid (st_ren HE3.out lce.out oce.out)
        refine writeH 15 rfl (by kernel_rfl) (by rfl) (vy.setRow (w.heap.size + 1 + 1) ce.toArray) (by have h := st2.out; unfold execOp; simp [Act.eval, Instr.storeAt, Instr.sureAddr, Sem.run_bind, Sem.run_pure, Result.andThen_ok, h]) (hK1.setRow (fun _ => by simp) _) ?_
        simp only [putAll, Act.put, List.setIfInBounds_toArray, List.set_cons_succ, List.set_cons_zero]
        have HE4 := hid (show (vy.setRow (w.heap.size + 1 + 1) ce.toArray).heap[w.heap.size + 1 + 1]? = some (.cells ce.toArray 42 (0, 0)) from setRow_heap _ _ _ _ _ _ HE3.out)
        have kZ := hid (show Kept [w.heap.size + 1 + 1] vy (vy.setRow (w.heap.size + 1 + 1) ce.toArray) from (Kept.refl _ _).setRow (fun _ => by simp) _)
        have hK2 := hK1.setRow (g := w.heap.size + 1 + 1) (fun _ => by simp) ce.toArray
        generalize vy.setRow (w.heap.size + 1 + 1) ce.toArray = vz at *
        have HP3 := hid (kZ.out.at HP2.out (by simp))
        refine takeH 16 (.int .i64 0) rfl (by kernel_rfl) (by kernel_rfl) (by kernel_rfl) (fun _ _ _ h => h) (by rfl) (fun v hv => by go_simp) hK2 ?_
        simp only [Act.put, List.setIfInBounds_toArray, List.set_cons_succ, List.set_cons_zero]
        refine wpAnyH_done (by kernel_rfl) ?_ _
        have kvz := hid (show Kept [w.heap.size + 1, w.heap.size + 1 + 1] v vz from (kY.out.wider (fun _ _ h => by simp at h; simp [h])).trans' kZ.out (fun _ _ h => by simp at h; simp [h]))
        have hpz := hid (show Kept [] w vz from (K6.out.trans kv'.out).trans' kvz.out (fun x hx hm => by simp at hm; omega))
        have hsz := hid (show SrcB vz (.slice a7 (m + lb) c7) (bs ++ ys) from by
          rw [← hlen.out]
          exact SrcB.kept (by rw [hlen.out]; exact HS7.out) kvz.out (fun x hx hm => by
            simp at hm
            rcases hm with hm | hm
            · exact absurd hm (by cases a7 with | none => simp [Value.ownBlock] at hx | some z => simp [Value.ownBlock] at hx; have := hap.out _ _ _ HP.out (by decide) z rfl; omega)
            · exact absurd hm (by cases a7 with | none => simp [Value.ownBlock] at hx | some z => simp [Value.ownBlock] at hx; have := hap.out _ _ _ HE2.out (by decide) z rfl; omega)))
        have hez := hid (show EnsW vz d' (es ++ [addE es id lb]) ∧ d' ≠ none from ensW_of_row (b := b) (n := n + 1) (k := k') (by
          have h1 := kvz.out.owns hod.out (fun g hg hm => by
            have := hlow.out g hg
            have := HB1.out; have := hzE.out
            simp at hm
            omega)
          rw [List.flatMap_append, List.flatMap_singleton, c34_of (e := addE es id lb) H32.out, ← HCE.out]
          exact h1) (by rw [List.length_append, HN.out]; rfl) (by omega) (fun e he => by
            rcases List.mem_append.1 he with h | h
            · exact H32E.out e h
            · simp at h; subst h; exact H32.out))
        clear st1 st2 hK0 hK1 hK2 hH
        go_wp2
        refine bodyPost_ret (v := .tuple #[.agg #[.slice a7 (m + lb) c7, .slice d' (n + 1) k'], .agg ce.toArray, .int .i64 0]) (results_cell3 Tryd.results7 rfl rfl rfl (run_ld_rpk (cs := [.slice a7 (m + lb) c7, .slice d' (n + 1) k']) HP3.out rfl) (run_ld_ren HE4.out lce.out)) rfl ⟨hni.out, a7, c7, d', k', by rw [HCE.out], hpz.out, hsz.out, hez.out.1, hez.out.2, fun x hx => Nat.le_trans hw0.out (HL7.out _ (by rw [hx]; rfl)), fun x hx => Nat.le_trans hw0.out (Nat.le_trans HB1.out (hlow.out _ (by rw [hx]; rfl)))⟩
    · rw [HT.out] at hhe; cases hhe
end Go.Proofs.YtembincggkpflaaDoor
