import Derived.Test.YtcdbgijbfppmoaaDoorJF
import Derived.Test.YtcdbgijbfppmoaaDoorMS

/- coldstorelaw11.SnapBack: the walk. -/
namespace Go.Proofs.YtcdbgijbfppmoaaDoor
open Go.RowKit Go.Lib

theorem own_bounds {W : World} {base n : Nat} {e : TypeId} {a : Option Addr} {c : Nat} {xs : List Value} (h : W.ownsRow base e 1 (.slice a n c) n xs) : n ≤ c ∧ c ≤ 9223372036854775807 := by
  rcases h.2 with ⟨hv, h0⟩ | ⟨g, cap, cur, hv, _, _, h1, h2, _⟩
  · simp at hv; omega
  · simp at hv; obtain ⟨_, rfl⟩ := hv; exact ⟨h1, by unfold maxLen at h2; omega⟩

set_option maxRecDepth 100000 in
set_option maxHeartbeats 16000000 in
theorem snap_back (x y : Sp) (hx : x.ok) (hy : y.ok) (a : Option Addr) (c : Nat) (bs : List UInt8) (w : World) (ht : Tab w) (hts : Tabs w) (hs : SrcB w (.slice a bs.length c) bs) (hm : bs.length ≤ 9223372036854775807) :
    Calls Tryd.prog 8 #[.agg x.cells.toArray, .agg y.cells.toArray, .slice a bs.length c] w fun e w' => e = .returned (.bool true) ∧ Kept [] w w' := by
  obtain ⟨cx, hcx⟩ : ∃ cx, cx = x.cells := ⟨_, rfl⟩
  obtain ⟨cy, hcy⟩ : ∃ cy, cy = y.cells := ⟨_, rfl⟩
  have LX := hid (show cx.length = 37 by rw [hcx]; exact Sp.size hx)
  have LY := hid (show cy.length = 37 by rw [hcy]; exact Sp.size hy)
  obtain ⟨W0, hW0⟩ : ∃ W0, W0 = (w.alloc (.cells cx.toArray 56)).alloc (.cells cy.toArray 56) := ⟨_, rfl⟩
  have K0 := hid (show Kept [] w W0 by rw [hW0]; exact ((Kept.refl [] w).alloc _).alloc _)
  have X0 := hid (show At W0 w.heap.size x by rw [hW0, hcx]; exact heap_alloc_old (heap_alloc_at rfl))
  have Y0 := hid (show At W0 (w.heap.size + 1) y by rw [hW0, hcy]; exact heap_alloc_at (by simp))
  have HT := hid ht
  have HTS := hid hts
  have HS := hid (fun W (k : Kept [] w W) => hs.kept k (by simp))
  have hal := hid (alive11 W0 (ht.kept K0.out (by simp)) (hts.kept K0.out (by simp) (by simp)))
  have HX := hid hx; have HY := hid hy
  have IX := hid (show (Tryd.prog.info? 56).map (·.size) = some cx.length by rw [LX.out]; exact snap_info)
  have IY := hid (show (Tryd.prog.info? 56).map (·.size) = some cy.length by rw [LY.out]; exact snap_info)
  have OX := hid (show ∀ v ∈ cx, v.oneCell' = true by rw [hcx]; exact x.one)
  have hex := hid (fun W (h : Tab W) => j_snapencode x hx W h)
  have hey := hid (fun W (h : Tab W) => j_snapencode y hy W h)
  have hnXX := hid (fun W => (snap_neq x x hx hx W).trans (by rw [decide_eq_true rfl]))
  have heXY := hid (fun W => snap_eql x y hx hy W)
  simp only [← hcx, ← hcy] at hex hey hnXX heXY
  have hcX := hid hcx; have HCY := hid hcy
  have HW0 := hid hW0
  rw [← hcx, ← hcy]
  have e1 := S_size x.host; have e2 := S_size x.tag; have e3 := S_size y.host; have e4 := S_size y.tag
  have hzv := zero_snap
  clear hcx hcy hW0 ht hts hs hx hy
  go_enter Tryd.func8, Tryd.ntmps8
  go_wp2_with fail
  rw [← HW0.out]
  refine hal.out.mono ?_
  rintro e w1 ⟨rfl, k1⟩
  have K1 := hid (K0.out.trans k1)
  have X1 := hid (X0.out.kept k1 (by simp))
  have Y1 := hid (Y0.out.kept k1 (by simp))
  have gx1 := X1.out.cell 1 _ x.c1
  have gx2 := X1.out.cell 2 _ x.c2
  have gy1 := Y1.out.cell 1 _ y.c1
  have gy2 := Y1.out.cell 2 _ y.c2
  clear k1 hal
  by_cases q0 : (300 : Int) < (bs.length : Int)
  · go_wp2
    go_ret
    exact ⟨rfl, K1.out⟩
  by_cases q1 : (200 : Int) < ((S x.host).size : Int)
  · go_wp2
    go_ret
    exact ⟨rfl, K1.out⟩
  by_cases q2 : (200 : Int) < ((S x.tag).size : Int)
  · go_wp2
    go_ret
    exact ⟨rfl, K1.out⟩
  by_cases q3 : (200 : Int) < ((S y.host).size : Int)
  · go_wp2
    go_ret
    exact ⟨rfl, K1.out⟩
  by_cases q4 : (200 : Int) < ((S y.tag).size : Int)
  · go_wp2
    go_ret
    exact ⟨rfl, K1.out⟩
  have hdec := hid (fun W (k : Kept [] w W) => j_snapdecode (.slice a bs.length c) bs W (HS.out W k) (HT.out.kept k (by simp)) (by omega))
  obtain ⟨cd, hcd0⟩ : ∃ cd, cd = (decV bs).cells := ⟨_, rfl⟩
  obtain ⟨ge, hge0⟩ : ∃ ge, ge = decErr bs := ⟨_, rfl⟩
  have hcd := hid hcd0.symm; have hge := hid hge0
  have LDD := hid (show cd.length = 37 by rw [hcd0]; exact Sp.size (decV_ok bs))
  have ID := hid (show (Tryd.prog.info? 56).map (·.size) = some cd.length by rw [LDD.out]; exact snap_info)
  have OD := hid (show ∀ v ∈ cd, v.oneCell' = true by rw [hcd0]; exact (decV bs).one)
  have hgood := hid (fun (h : ge = 0) => show (decV bs).err = 0 ∧ True ∧ sealed 83 (decV bs).enc = bs from by
    obtain ⟨s, h1, h2⟩ := decErr_zero (hge0.symm.trans h)
    rw [h2]
    exact ⟨(decS_get h1).1, trivial, (decS_get h1).2⟩)
  have hbad := hid (fun (h : ge ≠ 0) => show cd = zSnap from by
    rw [hcd0, decErr_ne (by rw [← hge0]; exact h)]; rfl)
  have rx := hid X1.out.reads; have ry := hid Y1.out.reads
  rw [← hcX.out] at rx
  have hy1 : At w1 (w.heap.size + 1) y := Y1.out
  have hcY := hid (show w1.heap[w.heap.size + 1]? = some (.cells cy.toArray 56 (0, 0)) from by rw [HCY.out]; exact hy1)
  rw [← HCY.out] at ry
  clear hcd0 hge0 hy1
  go_wp2_with (first | (refine wpList_load_cells rfl 56 (.tmp 3) rfl ⟨w.heap.size, 0, none⟩ rfl cx _ Tryd.underlying56 rfl IX.out rx.out ?_))
  refine (hex.out w1 (HT.out.kept K1.out (by simp))).mono ?_
  rintro e w2 ⟨k2, hcase⟩
  have K2 := hid (K1.out.trans k2)
  have X2 := hid (k2.at (show w1.heap[w.heap.size]? = some (.cells cx.toArray 56 (0, 0)) from by rw [hcX.out]; exact X1.out) (by simp))
  have Y2 := hid (k2.at hcY.out (by simp))
  have ry2 := hid (ld_at Y2.out)
  clear k2 q0 q1 q2 q3 q4 e1 e2 e3 e4 gx1 gx2 gy1 gy2
  rcases hcase with ⟨hne, rfl⟩ | ⟨he0, au, cu, rfl, hou⟩
  · have hneb : (x.err != 0) = true := by simpa using hne
    have hnef : (x.err == 0) = false := by simpa using hne
    clear hne
    go_wp2_with (refine wpList_load_cells rfl 56 (.tmp 4) rfl ⟨w.heap.size + 1, 0, none⟩ rfl cy _ Tryd.underlying56 rfl IY.out ry2.out ?_)
    refine (hey.out w2 (HT.out.kept K2.out (by simp))).mono ?_
    rintro e w3 ⟨k3, hcase⟩
    have K3 := hid (K2.out.trans k3)
    clear k3
    rcases hcase with ⟨_, rfl⟩ | ⟨_, av, cv, rfl, hov⟩
    · go_wp2_with fail
      refine (hdec.out _ K3.out).mono ?_
      rintro e wd ⟨rfl, kd⟩
      have KD := hid (K3.out.trans kd)
      clear kd
      rw [hcd.out, ← hge.out]
      go_wp2_with (refine wpList_store_at rfl 56 (.tmp 13) (.tmp 98) rfl wd.heap.size 0 cd rfl rfl 56 zSnap (heap_alloc_at rfl) ID.out (by have h1 := LDD.out; have h2 := zSnap_len; omega) OD.out ?_; refine halt ?_)
      rw [splice36 zSnap cd (LDD.out.trans zSnap_len.symm)]
      refine Halt.mk ?_
      obtain ⟨WD, hWD⟩ : ∃ WD, WD = (wd.alloc (.cells zSnap.toArray 56)).setRow wd.heap.size cd.toArray := ⟨_, rfl⟩
      have kd2 : Kept [] wd WD := hWD ▸ ((Kept.refl [] wd).alloc _).setRow (fun h => absurd h (Nat.lt_irrefl _)) _
      have KE := hid (KD.out.trans kd2)
      have AD := hid (show WD.heap[wd.heap.size]? = some (.cells cd.toArray 56 (0, 0)) from hWD ▸ setRow_heap _ _ _ _ _ _ (heap_alloc_at rfl))
      rw [← hWD]
      obtain ⟨pd, hpd⟩ : ∃ pd, pd = wd.heap.size := ⟨_, rfl⟩
      rw [← hpd] at AD ⊢
      clear hWD kd2 hpd
      have hrD := hid (ld_at AD.out)
      by_cases hg0 : ge = 0
      · have hg1 : (ge != 0) = false := by simp [hg0]
        obtain ⟨herr, hsl, hback⟩ := hgood.out hg0
        have henc := hid (j_snapencode (decV bs) (decV_ok bs) WD (HT.out.kept KE.out (by simp)))
        unfold Encoded at henc
        rw [hcd.out] at henc
        clear hg0
        go_wp2_with (refine wpList_load_cells rfl 56 (.tmp 13) rfl ⟨pd, 0, none⟩ rfl cd _ Tryd.underlying56 rfl ID.out hrD.out ?_)
        refine henc.out.mono ?_
        rintro e we ⟨ke, (⟨hx', _⟩ | ⟨_, ae, ce, rfl, hoe⟩)⟩
        · exact absurd herr hx'
        have KF := hid (KE.out.trans ke)
        have hrE := hid (ld_at (ke.at AD.out (by simp)))
        have be := (bys_of_row hoe).1
        rw [hback] at be ⊢
        have BE := hid be
        have hck := hid (fun W => j_snapcheck (decV bs) (decV_ok bs) W)
        rw [hcd.out, herr] at hck
        clear ke hoe be henc
        go_wp2_with (refine wpList_load_cells rfl 56 (.tmp 13) rfl ⟨pd, 0, none⟩ rfl cd _ Tryd.underlying56 rfl ID.out hrE.out ?_)
        refine (hck.out _).mono ?_
        rintro e wf ⟨rfl, kf⟩
        have KG := hid (KF.out.trans kf)
        have hsm := hid (same_dec ae a ce c bs bs wf (BE.out.kept kf (by simp)) (HS.out wf KG.out))
        rw [decide_eq_true rfl] at hsm
        clear kf
        go_wp2_with fail
        refine hsm.out.mono ?_
        rintro e wh ⟨rfl, rfl⟩
        go_wp2
        go_ret
        exact ⟨rfl, KG.out⟩
      · have hg1 : (ge != 0) = true := by simpa using hg0
        have hz := hid (hbad.out hg0)
        have hgd := snap_guard
        have heq := hid (fun W => snap_eql zSp zSp zSp_ok zSp_ok W)
        rw [zSp_cells, decide_eq_true rfl] at heq
        have heq2 : ∀ W, (binOp .eql 56 (.agg cd.toArray) (.agg zSnap.toArray)).run Tryd.prog W = .ok (.bool true) W := fun W => by rw [hz.out]; exact heq.out W
        have hgr := fun W => snap_grd .eql (.tmp 102) (.tmp 103) cd.toArray zSnap.toArray W
        have hbz := run_built_zero
        clear hg0
        go_wp2_with (refine wpList_load_cells rfl 56 (.tmp 13) rfl ⟨pd, 0, none⟩ rfl cd _ Tryd.underlying56 rfl ID.out hrD.out ?_)
        go_ret
        exact ⟨rfl, KE.out⟩
    · clear hov
      go_wp2_with fail
      refine (hdec.out _ K3.out).mono ?_
      rintro e wd ⟨rfl, kd⟩
      have KD := hid (K3.out.trans kd)
      clear kd
      rw [hcd.out, ← hge.out]
      go_wp2_with (refine wpList_store_at rfl 56 (.tmp 13) (.tmp 98) rfl wd.heap.size 0 cd rfl rfl 56 zSnap (heap_alloc_at rfl) ID.out (by have h1 := LDD.out; have h2 := zSnap_len; omega) OD.out ?_; refine halt ?_)
      rw [splice36 zSnap cd (LDD.out.trans zSnap_len.symm)]
      refine Halt.mk ?_
      obtain ⟨WD, hWD⟩ : ∃ WD, WD = (wd.alloc (.cells zSnap.toArray 56)).setRow wd.heap.size cd.toArray := ⟨_, rfl⟩
      have kd2 : Kept [] wd WD := hWD ▸ ((Kept.refl [] wd).alloc _).setRow (fun h => absurd h (Nat.lt_irrefl _)) _
      have KE := hid (KD.out.trans kd2)
      have AD := hid (show WD.heap[wd.heap.size]? = some (.cells cd.toArray 56 (0, 0)) from hWD ▸ setRow_heap _ _ _ _ _ _ (heap_alloc_at rfl))
      rw [← hWD]
      obtain ⟨pd, hpd⟩ : ∃ pd, pd = wd.heap.size := ⟨_, rfl⟩
      rw [← hpd] at AD ⊢
      clear hWD kd2 hpd
      have hrD := hid (ld_at AD.out)
      by_cases hg0 : ge = 0
      · have hg1 : (ge != 0) = false := by simp [hg0]
        obtain ⟨herr, hsl, hback⟩ := hgood.out hg0
        have henc := hid (j_snapencode (decV bs) (decV_ok bs) WD (HT.out.kept KE.out (by simp)))
        unfold Encoded at henc
        rw [hcd.out] at henc
        clear hg0
        go_wp2_with (refine wpList_load_cells rfl 56 (.tmp 13) rfl ⟨pd, 0, none⟩ rfl cd _ Tryd.underlying56 rfl ID.out hrD.out ?_)
        refine henc.out.mono ?_
        rintro e we ⟨ke, (⟨hx', _⟩ | ⟨_, ae, ce, rfl, hoe⟩)⟩
        · exact absurd herr hx'
        have KF := hid (KE.out.trans ke)
        have hrE := hid (ld_at (ke.at AD.out (by simp)))
        have be := (bys_of_row hoe).1
        rw [hback] at be ⊢
        have BE := hid be
        have hck := hid (fun W => j_snapcheck (decV bs) (decV_ok bs) W)
        rw [hcd.out, herr] at hck
        clear ke hoe be henc
        go_wp2_with (refine wpList_load_cells rfl 56 (.tmp 13) rfl ⟨pd, 0, none⟩ rfl cd _ Tryd.underlying56 rfl ID.out hrE.out ?_)
        refine (hck.out _).mono ?_
        rintro e wf ⟨rfl, kf⟩
        have KG := hid (KF.out.trans kf)
        have hsm := hid (same_dec ae a ce c bs bs wf (BE.out.kept kf (by simp)) (HS.out wf KG.out))
        rw [decide_eq_true rfl] at hsm
        clear kf
        go_wp2_with fail
        refine hsm.out.mono ?_
        rintro e wh ⟨rfl, rfl⟩
        go_wp2
        go_ret
        exact ⟨rfl, KG.out⟩
      · have hg1 : (ge != 0) = true := by simpa using hg0
        have hz := hid (hbad.out hg0)
        have hgd := snap_guard
        have heq := hid (fun W => snap_eql zSp zSp zSp_ok zSp_ok W)
        rw [zSp_cells, decide_eq_true rfl] at heq
        have heq2 : ∀ W, (binOp .eql 56 (.agg cd.toArray) (.agg zSnap.toArray)).run Tryd.prog W = .ok (.bool true) W := fun W => by rw [hz.out]; exact heq.out W
        have hgr := fun W => snap_grd .eql (.tmp 102) (.tmp 103) cd.toArray zSnap.toArray W
        have hbz := run_built_zero
        clear hg0
        go_wp2_with (refine wpList_load_cells rfl 56 (.tmp 13) rfl ⟨pd, 0, none⟩ rfl cd _ Tryd.underlying56 rfl ID.out hrD.out ?_)
        go_ret
        exact ⟨rfl, KE.out⟩
  · obtain ⟨us, hus⟩ : ∃ us, us = sealed 83 x.enc := ⟨_, rfl⟩
    have hdu := hid (show decV us = x ∧ decErr us = 0 by rw [hus]; exact decV_enc x HX.out he0)
    have hcu := hid (show (decV us).cells = cx by rw [hdu.out.1, hcX.out])
    rw [← hus] at hou ⊢
    have hbu := hid (own_bounds hou)
    have hul := hid (show us.length ≤ 1000 by rw [hus, sealed_len, Sp.enc_len HX.out]; have := Sp.err_len he0; omega)
    have SU := hid (bys_of_row hou).1
    have Hus := hid hus
    have He0 := hid he0
    clear hou hus he0
    go_wp2_with (refine wpList_load_cells rfl 56 (.tmp 4) rfl ⟨w.heap.size + 1, 0, none⟩ rfl cy _ Tryd.underlying56 rfl IY.out ry2.out ?_)
    refine (hey.out w2 (HT.out.kept K2.out (by simp))).mono ?_
    rintro e w3 ⟨k3, hcase⟩
    have K3 := hid (K2.out.trans k3)
    have X3 := hid (k3.at X2.out (by simp))
    have Y3 := hid (k3.at Y2.out (by simp))
    have SU3 := hid (SU.out.kept k3 (by simp))
    have hd3 := hid (j_snapdecode (.slice au us.length cu) us w3 SU3.out (HT.out.kept K3.out (by simp)) (by have := hul.out; omega))
    rw [hcu.out, hdu.out.2] at hd3
    clear k3 hey hex
    rcases hcase with ⟨hfe0, rfl⟩ | ⟨hf0, av, cv, rfl, hov⟩
    · have hfe : (y.err == 0) = false := by simpa using hfe0
      clear hfe0
      go_wp2_with fail
      refine hd3.out.mono ?_
      rintro e w4 ⟨rfl, k4⟩
      have K4 := hid (K3.out.trans k4)
      have X4 := hid (k4.at X3.out (by simp))
      have Y4 := hid (k4.at Y3.out (by simp))
      have SU4 := hid (SU3.out.kept k4 (by simp))
      clear k4 hd3
      go_wp2_with (refine wpList_store_at rfl 56 (.tmp 11) (.tmp 61) rfl w4.heap.size 0 cx rfl rfl 56 zSnap (heap_alloc_at rfl) IX.out (by have h1 := LX.out; have h2 := zSnap_len; omega) OX.out ?_; refine halt ?_)
      rw [splice36 zSnap cx (LX.out.trans zSnap_len.symm)]
      refine Halt.mk ?_
      obtain ⟨w5, hw5⟩ : ∃ w5, w5 = (w4.alloc (.cells zSnap.toArray 56)).setRow w4.heap.size cx.toArray := ⟨_, rfl⟩
      have k5 : Kept [] w4 w5 := hw5 ▸ ((Kept.refl [] w4).alloc _).setRow (fun h => absurd h (Nat.lt_irrefl _)) _
      have K5 := hid (K4.out.trans k5)
      have AZ := hid (show w5.heap[w4.heap.size]? = some (.cells cx.toArray 56 (0, 0)) from hw5 ▸ setRow_heap _ _ _ _ _ _ (heap_alloc_at rfl))
      have A11 := hid (fun v (hv : Kept [] w5 v) => hv.at AZ.out (by simp))
      have A3 := hid (fun v (hv : Kept [] w5 v) => (k5.trans hv).at X4.out (by simp))
      have A4 := hid (fun v (hv : Kept [] w5 v) => (k5.trans hv).at Y4.out (by simp))
      have SU5 := hid (fun v (hv : Kept [] w5 v) => SU4.out.kept (k5.trans hv) (by simp))
      rw [← hw5]
      clear hw5 k5
      go_wp2_with fail
      refine wp_region_held_drew (S := Kept [] w5) (by kernel_rfl) (Kept.refl _ _).drew (fun hH => ?_)
      refine takeH 0 (.agg cx.toArray) rfl (by kernel_rfl) (by kernel_rfl) (by kernel_rfl) (fun _ _ _ h => h) (by rfl) (fun v hv => by have h := run_ld_snap (A11.out v hv) LX.out; unfold execOp; simp [Instr.loadAt, Instr.sureAddr, Sem.run_bind, Sem.run_pure, Result.andThen_ok, Act.eval, h]) hH ?_
      simp only [Act.put, List.setIfInBounds_toArray, List.set_cons_succ, List.set_cons_zero]
      refine takeH 1 (.agg cx.toArray) rfl (by kernel_rfl) (by kernel_rfl) (by kernel_rfl) (fun _ _ _ h => h) (by rfl) (fun v hv => by have h := run_ld_snap (A3.out v hv) LX.out; unfold execOp; simp [Instr.loadAt, Instr.sureAddr, Sem.run_bind, Sem.run_pure, Result.andThen_ok, Act.eval, h]) hH ?_
      simp only [Act.put, List.setIfInBounds_toArray, List.set_cons_succ, List.set_cons_zero]
      refine takeH 2 (.bool false) rfl (by kernel_rfl) (by kernel_rfl) (by kernel_rfl) (fun _ _ _ h => h) (by rfl) (fun v hv => by have h := hnXX.out v; have h2 := snap_grd .neq (.tmp 63) (.tmp 64) cx.toArray cx.toArray v; unfold execOp; simp [Sem.run_bind, Sem.run_pure, Result.andThen_ok, Act.eval, h, h2]) hH ?_
      simp only [Act.put, List.setIfInBounds_toArray, List.set_cons_succ, List.set_cons_zero]
      refine takeH 3 (.bool false) rfl (by kernel_rfl) (by kernel_rfl) (by kernel_rfl) (fun _ _ _ h => h) (by rfl) (fun v hv => by go_simp) hH ?_
      simp only [Act.put, List.setIfInBounds_toArray, List.set_cons_succ, List.set_cons_zero]
      refine takeH 4 (.int .i64 0) rfl (by kernel_rfl) (by kernel_rfl) (by kernel_rfl) (fun _ _ _ h => h) (by rfl) (fun v hv => by go_simp) hH ?_
      simp only [Act.put, List.setIfInBounds_toArray, List.set_cons_succ, List.set_cons_zero]
      refine takeH 5 (.bool false) rfl (by kernel_rfl) (by kernel_rfl) (by kernel_rfl) (fun _ _ _ h => h) (by rfl) (fun v hv => by go_simp) hH ?_
      simp only [Act.put, List.setIfInBounds_toArray, List.set_cons_succ, List.set_cons_zero]
      refine takeH 6 (.bool false) rfl (by kernel_rfl) (by kernel_rfl) (by kernel_rfl) (fun _ _ _ h => h) (by rfl) (fun v hv => by go_simp) hH ?_
      simp only [Act.put, List.setIfInBounds_toArray, List.set_cons_succ, List.set_cons_zero]
      refine takeH 7 (.bool false) rfl (by kernel_rfl) (by kernel_rfl) (by kernel_rfl) (fun _ _ _ h => h) (by rfl) (fun v hv => by go_simp) hH ?_
      simp only [Act.put, List.setIfInBounds_toArray, List.set_cons_succ, List.set_cons_zero]
      refine takeH 8 (.int .i64 y.err) rfl (by kernel_rfl) (by kernel_rfl) (by kernel_rfl) (fun _ _ _ h => h) (by rfl) (fun v hv => by go_simp) hH ?_
      simp only [Act.put, List.setIfInBounds_toArray, List.set_cons_succ, List.set_cons_zero]
      refine takeH 9 (.bool false) rfl (by kernel_rfl) (by kernel_rfl) (by kernel_rfl) (fun _ _ _ h => h) (by rfl) (fun v hv => by have h1 := hfe; go_simp) hH ?_
      simp only [Act.put, List.setIfInBounds_toArray, List.set_cons_succ, List.set_cons_zero]
      refine takeH 10 (.bool false) rfl (by kernel_rfl) (by kernel_rfl) (by kernel_rfl) (fun _ _ _ h => h) (by rfl) (fun v hv => by go_simp) hH ?_
      simp only [Act.put, List.setIfInBounds_toArray, List.set_cons_succ, List.set_cons_zero]
      refine skipH 11 rfl (by kernel_rfl) (by kernel_rfl) (by kernel_rfl) (fun _ _ _ h => h) (by rfl) hH ?_
      simp only [Act.put, List.setIfInBounds_toArray, List.set_cons_succ, List.set_cons_zero]
      refine skipH 12 rfl (by kernel_rfl) (by kernel_rfl) (by kernel_rfl) (fun _ _ _ h => h) (by rfl) hH ?_
      simp only [Act.put, List.setIfInBounds_toArray, List.set_cons_succ, List.set_cons_zero]
      refine skipH 13 rfl (by kernel_rfl) (by kernel_rfl) (by kernel_rfl) (fun _ _ _ h => h) (by rfl) hH ?_
      simp only [Act.put, List.setIfInBounds_toArray, List.set_cons_succ, List.set_cons_zero]
      refine skipH 14 rfl (by kernel_rfl) (by kernel_rfl) (by kernel_rfl) (fun _ _ _ h => h) (by rfl) hH ?_
      simp only [Act.put, List.setIfInBounds_toArray, List.set_cons_succ, List.set_cons_zero]
      refine skipH 15 rfl (by kernel_rfl) (by kernel_rfl) (by kernel_rfl) (fun _ _ _ h => h) (by rfl) hH ?_
      simp only [Act.put, List.setIfInBounds_toArray, List.set_cons_succ, List.set_cons_zero]
      refine skipH 16 rfl (by kernel_rfl) (by kernel_rfl) (by kernel_rfl) (fun _ _ _ h => h) (by rfl) hH ?_
      simp only [Act.put, List.setIfInBounds_toArray, List.set_cons_succ, List.set_cons_zero]
      refine skipH 17 rfl (by kernel_rfl) (by kernel_rfl) (by kernel_rfl) (fun _ _ _ h => h) (by rfl) hH ?_
      simp only [Act.put, List.setIfInBounds_toArray, List.set_cons_succ, List.set_cons_zero]
      refine skipH 18 rfl (by kernel_rfl) (by kernel_rfl) (by kernel_rfl) (fun _ _ _ h => h) (by rfl) hH ?_
      simp only [Act.put, List.setIfInBounds_toArray, List.set_cons_succ, List.set_cons_zero]
      refine skipH 19 rfl (by kernel_rfl) (by kernel_rfl) (by kernel_rfl) (fun _ _ _ h => h) (by rfl) hH ?_
      simp only [Act.put, List.setIfInBounds_toArray, List.set_cons_succ, List.set_cons_zero]
      refine skipH 20 rfl (by kernel_rfl) (by kernel_rfl) (by kernel_rfl) (fun _ _ _ h => h) (by rfl) hH ?_
      simp only [Act.put, List.setIfInBounds_toArray, List.set_cons_succ, List.set_cons_zero]
      refine skipH 21 rfl (by kernel_rfl) (by kernel_rfl) (by kernel_rfl) (fun _ _ _ h => h) (by rfl) hH ?_
      simp only [Act.put, List.setIfInBounds_toArray, List.set_cons_succ, List.set_cons_zero]
      refine skipH 22 rfl (by kernel_rfl) (by kernel_rfl) (by kernel_rfl) (fun _ _ _ h => h) (by rfl) hH ?_
      simp only [Act.put, List.setIfInBounds_toArray, List.set_cons_succ, List.set_cons_zero]
      refine skipH 23 rfl (by kernel_rfl) (by kernel_rfl) (by kernel_rfl) (fun _ _ _ h => h) (by rfl) hH ?_
      simp only [Act.put, List.setIfInBounds_toArray, List.set_cons_succ, List.set_cons_zero]
      refine skipH 24 rfl (by kernel_rfl) (by kernel_rfl) (by kernel_rfl) (fun _ _ _ h => h) (by rfl) hH ?_
      simp only [Act.put, List.setIfInBounds_toArray, List.set_cons_succ, List.set_cons_zero]
      refine skipH 25 rfl (by kernel_rfl) (by kernel_rfl) (by kernel_rfl) (fun _ _ _ h => h) (by rfl) hH ?_
      simp only [Act.put, List.setIfInBounds_toArray, List.set_cons_succ, List.set_cons_zero]
      refine skipH 26 rfl (by kernel_rfl) (by kernel_rfl) (by kernel_rfl) (fun _ _ _ h => h) (by rfl) hH ?_
      simp only [Act.put, List.setIfInBounds_toArray, List.set_cons_succ, List.set_cons_zero]
      refine skipH 27 rfl (by kernel_rfl) (by kernel_rfl) (by kernel_rfl) (fun _ _ _ h => h) (by rfl) hH ?_
      simp only [Act.put, List.setIfInBounds_toArray, List.set_cons_succ, List.set_cons_zero]
      refine skipH 28 rfl (by kernel_rfl) (by kernel_rfl) (by kernel_rfl) (fun _ _ _ h => h) (by rfl) hH ?_
      simp only [Act.put, List.setIfInBounds_toArray, List.set_cons_succ, List.set_cons_zero]
      refine skipH 29 rfl (by kernel_rfl) (by kernel_rfl) (by kernel_rfl) (fun _ _ _ h => h) (by rfl) hH ?_
      simp only [Act.put, List.setIfInBounds_toArray, List.set_cons_succ, List.set_cons_zero]
      refine takeH 30 (.bool false) rfl (by kernel_rfl) (by kernel_rfl) (by kernel_rfl) (fun _ _ _ h => h) (by rfl) (fun v hv => by go_simp) hH ?_
      simp only [Act.put, List.setIfInBounds_toArray, List.set_cons_succ, List.set_cons_zero]
      refine takeH 31 (.bool false) rfl (by kernel_rfl) (by kernel_rfl) (by kernel_rfl) (fun _ _ _ h => h) (by rfl) (fun v hv => by go_simp) hH ?_
      simp only [Act.put, List.setIfInBounds_toArray, List.set_cons_succ, List.set_cons_zero]
      refine wpAnyH_done (by kernel_rfl) ?_ _
      have KR := hid (K5.out.trans hH)
      clear hH
      go_wp2_with fail
      refine (hdec.out _ KR.out).mono ?_
      rintro e wd ⟨rfl, kd⟩
      have KD := hid (KR.out.trans kd)
      clear kd
      rw [hcd.out, ← hge.out]
      go_wp2_with (refine wpList_store_at rfl 56 (.tmp 13) (.tmp 98) rfl wd.heap.size 0 cd rfl rfl 56 zSnap (heap_alloc_at rfl) ID.out (by have h1 := LDD.out; have h2 := zSnap_len; omega) OD.out ?_; refine halt ?_)
      rw [splice36 zSnap cd (LDD.out.trans zSnap_len.symm)]
      refine Halt.mk ?_
      obtain ⟨WD, hWD⟩ : ∃ WD, WD = (wd.alloc (.cells zSnap.toArray 56)).setRow wd.heap.size cd.toArray := ⟨_, rfl⟩
      have kd2 : Kept [] wd WD := hWD ▸ ((Kept.refl [] wd).alloc _).setRow (fun h => absurd h (Nat.lt_irrefl _)) _
      have KE := hid (KD.out.trans kd2)
      have AD := hid (show WD.heap[wd.heap.size]? = some (.cells cd.toArray 56 (0, 0)) from hWD ▸ setRow_heap _ _ _ _ _ _ (heap_alloc_at rfl))
      rw [← hWD]
      obtain ⟨pd, hpd⟩ : ∃ pd, pd = wd.heap.size := ⟨_, rfl⟩
      rw [← hpd] at AD ⊢
      clear hWD kd2 hpd
      have hrD := hid (ld_at AD.out)
      by_cases hg0 : ge = 0
      · have hg1 : (ge != 0) = false := by simp [hg0]
        obtain ⟨herr, hsl, hback⟩ := hgood.out hg0
        have henc := hid (j_snapencode (decV bs) (decV_ok bs) WD (HT.out.kept KE.out (by simp)))
        unfold Encoded at henc
        rw [hcd.out] at henc
        clear hg0
        go_wp2_with (refine wpList_load_cells rfl 56 (.tmp 13) rfl ⟨pd, 0, none⟩ rfl cd _ Tryd.underlying56 rfl ID.out hrD.out ?_)
        refine henc.out.mono ?_
        rintro e we ⟨ke, (⟨hx', _⟩ | ⟨_, ae, ce, rfl, hoe⟩)⟩
        · exact absurd herr hx'
        have KF := hid (KE.out.trans ke)
        have hrE := hid (ld_at (ke.at AD.out (by simp)))
        have be := (bys_of_row hoe).1
        rw [hback] at be ⊢
        have BE := hid be
        have hck := hid (fun W => j_snapcheck (decV bs) (decV_ok bs) W)
        rw [hcd.out, herr] at hck
        clear ke hoe be henc
        go_wp2_with (refine wpList_load_cells rfl 56 (.tmp 13) rfl ⟨pd, 0, none⟩ rfl cd _ Tryd.underlying56 rfl ID.out hrE.out ?_)
        refine (hck.out _).mono ?_
        rintro e wf ⟨rfl, kf⟩
        have KG := hid (KF.out.trans kf)
        have hsm := hid (same_dec ae a ce c bs bs wf (BE.out.kept kf (by simp)) (HS.out wf KG.out))
        rw [decide_eq_true rfl] at hsm
        clear kf
        go_wp2_with fail
        refine hsm.out.mono ?_
        rintro e wh ⟨rfl, rfl⟩
        go_wp2
        go_ret
        exact ⟨rfl, KG.out⟩
      · have hg1 : (ge != 0) = true := by simpa using hg0
        have hz := hid (hbad.out hg0)
        have hgd := snap_guard
        have heq := hid (fun W => snap_eql zSp zSp zSp_ok zSp_ok W)
        rw [zSp_cells, decide_eq_true rfl] at heq
        have heq2 : ∀ W, (binOp .eql 56 (.agg cd.toArray) (.agg zSnap.toArray)).run Tryd.prog W = .ok (.bool true) W := fun W => by rw [hz.out]; exact heq.out W
        have hgr := fun W => snap_grd .eql (.tmp 102) (.tmp 103) cd.toArray zSnap.toArray W
        have hbz := run_built_zero
        clear hg0
        go_wp2_with (refine wpList_load_cells rfl 56 (.tmp 13) rfl ⟨pd, 0, none⟩ rfl cd _ Tryd.underlying56 rfl ID.out hrD.out ?_)
        go_ret
        exact ⟨rfl, KE.out⟩
    · obtain ⟨vs, hvs⟩ : ∃ vs, vs = sealed 83 y.enc := ⟨_, rfl⟩
      rw [← hvs] at hov ⊢
      have hbv := hid (own_bounds hov)
      have hvl := hid (show vs.length ≤ 1000 by rw [hvs, sealed_len, Sp.enc_len HY.out]; have := Sp.err_len hf0; omega)
      have SV := hid (bys_of_row hov).1
      have hiff := hid (show us = vs ↔ x = y from ⟨fun h => enc_inj HX.out HY.out He0.out hf0 (by rw [← Hus.out, ← hvs]; exact h), fun h => by rw [Hus.out, hvs, h]⟩)
      clear hov hvs hf0
      by_cases hxy : x = y
      · have huv := hid (hiff.out.2 hxy)
        have hqq := hid (show decide (us = vs) = true from decide_eq_true huv.out)
        have hd0 : decide (x = y) = true := decide_eq_true hxy
        rw [hd0] at heXY
        clear hd0 hxy
        go_wp2_with fail
        refine hd3.out.mono ?_
        rintro e w4 ⟨rfl, k4⟩
        have K4 := hid (K3.out.trans k4)
        have X4 := hid (k4.at X3.out (by simp))
        have Y4 := hid (k4.at Y3.out (by simp))
        have SU4 := hid (SU3.out.kept k4 (by simp))
        have SV4 := hid (SV.out.kept k4 (by simp))
        clear k4 hd3
        go_wp2_with (refine wpList_store_at rfl 56 (.tmp 11) (.tmp 61) rfl w4.heap.size 0 cx rfl rfl 56 zSnap (heap_alloc_at rfl) IX.out (by have h1 := LX.out; have h2 := zSnap_len; omega) OX.out ?_; refine halt ?_)
        rw [splice36 zSnap cx (LX.out.trans zSnap_len.symm)]
        refine Halt.mk ?_
        obtain ⟨w5, hw5⟩ : ∃ w5, w5 = (w4.alloc (.cells zSnap.toArray 56)).setRow w4.heap.size cx.toArray := ⟨_, rfl⟩
        have k5 : Kept [] w4 w5 := hw5 ▸ ((Kept.refl [] w4).alloc _).setRow (fun h => absurd h (Nat.lt_irrefl _)) _
        have K5 := hid (K4.out.trans k5)
        have AZ := hid (show w5.heap[w4.heap.size]? = some (.cells cx.toArray 56 (0, 0)) from hw5 ▸ setRow_heap _ _ _ _ _ _ (heap_alloc_at rfl))
        have A11 := hid (fun v (hv : Kept [] w5 v) => hv.at AZ.out (by simp))
        have A3 := hid (fun v (hv : Kept [] w5 v) => (k5.trans hv).at X4.out (by simp))
        have A4 := hid (fun v (hv : Kept [] w5 v) => (k5.trans hv).at Y4.out (by simp))
        have SU5 := hid (fun v (hv : Kept [] w5 v) => SU4.out.kept (k5.trans hv) (by simp))
        have SV5 := hid (fun v (hv : Kept [] w5 v) => SV4.out.kept (k5.trans hv) (by simp))
        rw [← hw5]
        clear hw5 k5
        have hsame := hid (fun v (hv : Kept [] w5 v) => (same_dec au av cu cv us vs v (SU5.out v hv) (SV5.out v hv)).mono (R' := fun e w' => e = .returned (.bool true) ∧ v = w') fun e w' h => ⟨by rw [h.1, hqq.out], h.2⟩)
        obtain ⟨nm, hnm⟩ : ∃ nm, nm = S (nameS us) := ⟨_, rfl⟩
        have hname1 := hid (fun v (hv : Kept [] w5 v) => (j_snapname au cu us v (HTS.out.kept (K5.out.trans hv) (by simp) (by simp)) (SU5.out v hv) hbu.out.1 hbu.out.2 (by have := hul.out; omega)).mono (R' := fun e w' => e = .returned (.string nm) ∧ Kept [] w5 w') fun e w' h => ⟨by rw [h.1, hnm], hv.trans h.2⟩)
        have hname2 := hid (fun v (hv : Kept [] w5 v) => (j_snapname av cv vs v (HTS.out.kept (K5.out.trans hv) (by simp) (by simp)) (SV5.out v hv) hbv.out.1 hbv.out.2 (by have := hvl.out; omega)).mono (R' := fun e w' => e = .returned (.string nm) ∧ Kept [] w5 w') fun e w' h => ⟨by rw [h.1, hnm, huv.out], hv.trans h.2⟩)
        clear hnm
        go_wp2_with fail
        refine wp_region_held_drew (S := Kept [] w5) (by kernel_rfl) (Kept.refl _ _).drew (fun hH => ?_)
        refine takeH 0 (.agg cx.toArray) rfl (by kernel_rfl) (by kernel_rfl) (by kernel_rfl) (fun _ _ _ h => h) (by rfl) (fun v hv => by have h := run_ld_snap (A11.out v hv) LX.out; unfold execOp; simp [Instr.loadAt, Instr.sureAddr, Sem.run_bind, Sem.run_pure, Result.andThen_ok, Act.eval, h]) hH ?_
        simp only [Act.put, List.setIfInBounds_toArray, List.set_cons_succ, List.set_cons_zero]
        refine takeH 1 (.agg cx.toArray) rfl (by kernel_rfl) (by kernel_rfl) (by kernel_rfl) (fun _ _ _ h => h) (by rfl) (fun v hv => by have h := run_ld_snap (A3.out v hv) LX.out; unfold execOp; simp [Instr.loadAt, Instr.sureAddr, Sem.run_bind, Sem.run_pure, Result.andThen_ok, Act.eval, h]) hH ?_
        simp only [Act.put, List.setIfInBounds_toArray, List.set_cons_succ, List.set_cons_zero]
        refine takeH 2 (.bool false) rfl (by kernel_rfl) (by kernel_rfl) (by kernel_rfl) (fun _ _ _ h => h) (by rfl) (fun v hv => by have h := hnXX.out v; have h2 := snap_grd .neq (.tmp 63) (.tmp 64) cx.toArray cx.toArray v; unfold execOp; simp [Sem.run_bind, Sem.run_pure, Result.andThen_ok, Act.eval, h, h2]) hH ?_
        simp only [Act.put, List.setIfInBounds_toArray, List.set_cons_succ, List.set_cons_zero]
        refine takeH 3 (.bool false) rfl (by kernel_rfl) (by kernel_rfl) (by kernel_rfl) (fun _ _ _ h => h) (by rfl) (fun v hv => by go_simp) hH ?_
        simp only [Act.put, List.setIfInBounds_toArray, List.set_cons_succ, List.set_cons_zero]
        refine takeH 4 (.int .i64 0) rfl (by kernel_rfl) (by kernel_rfl) (by kernel_rfl) (fun _ _ _ h => h) (by rfl) (fun v hv => by go_simp) hH ?_
        simp only [Act.put, List.setIfInBounds_toArray, List.set_cons_succ, List.set_cons_zero]
        refine takeH 5 (.bool false) rfl (by kernel_rfl) (by kernel_rfl) (by kernel_rfl) (fun _ _ _ h => h) (by rfl) (fun v hv => by go_simp) hH ?_
        simp only [Act.put, List.setIfInBounds_toArray, List.set_cons_succ, List.set_cons_zero]
        refine takeH 6 (.bool false) rfl (by kernel_rfl) (by kernel_rfl) (by kernel_rfl) (fun _ _ _ h => h) (by rfl) (fun v hv => by go_simp) hH ?_
        simp only [Act.put, List.setIfInBounds_toArray, List.set_cons_succ, List.set_cons_zero]
        refine takeH 7 (.bool false) rfl (by kernel_rfl) (by kernel_rfl) (by kernel_rfl) (fun _ _ _ h => h) (by rfl) (fun v hv => by go_simp) hH ?_
        simp only [Act.put, List.setIfInBounds_toArray, List.set_cons_succ, List.set_cons_zero]
        refine takeH 8 (.int .i64 0) rfl (by kernel_rfl) (by kernel_rfl) (by kernel_rfl) (fun _ _ _ h => h) (by rfl) (fun v hv => by go_simp) hH ?_
        simp only [Act.put, List.setIfInBounds_toArray, List.set_cons_succ, List.set_cons_zero]
        refine takeH 9 (.bool true) rfl (by kernel_rfl) (by kernel_rfl) (by kernel_rfl) (fun _ _ _ h => h) (by rfl) (fun v hv => by go_simp) hH ?_
        simp only [Act.put, List.setIfInBounds_toArray, List.set_cons_succ, List.set_cons_zero]
        refine takeH 10 (.bool true) rfl (by kernel_rfl) (by kernel_rfl) (by kernel_rfl) (fun _ _ _ h => h) (by rfl) (fun v hv => by go_simp) hH ?_
        simp only [Act.put, List.setIfInBounds_toArray, List.set_cons_succ, List.set_cons_zero]
        refine takeH 11 (.slice au us.length cu) rfl (by kernel_rfl) (by kernel_rfl) (by kernel_rfl) (fun _ _ _ h => h) (by rfl) (fun v hv => by go_simp) hH ?_
        simp only [Act.put, List.setIfInBounds_toArray, List.set_cons_succ, List.set_cons_zero]
        refine takeH 12 (.slice av vs.length cv) rfl (by kernel_rfl) (by kernel_rfl) (by kernel_rfl) (fun _ _ _ h => h) (by rfl) (fun v hv => by go_simp) hH ?_
        simp only [Act.put, List.setIfInBounds_toArray, List.set_cons_succ, List.set_cons_zero]
        refine takeH 14 (.agg cx.toArray) rfl (by kernel_rfl) (by kernel_rfl) (by kernel_rfl) (fun _ _ _ h => h) (by rfl) (fun v hv => by have h := run_ld_snap (A3.out v hv) LX.out; unfold execOp; simp [Instr.loadAt, Instr.sureAddr, Sem.run_bind, Sem.run_pure, Result.andThen_ok, Act.eval, h]) hH ?_
        simp only [Act.put, List.setIfInBounds_toArray, List.set_cons_succ, List.set_cons_zero]
        refine takeH 15 (.agg cy.toArray) rfl (by kernel_rfl) (by kernel_rfl) (by kernel_rfl) (fun _ _ _ h => h) (by rfl) (fun v hv => by have h := run_ld_snap (A4.out v hv) LY.out; unfold execOp; simp [Instr.loadAt, Instr.sureAddr, Sem.run_bind, Sem.run_pure, Result.andThen_ok, Act.eval, h]) hH ?_
        simp only [Act.put, List.setIfInBounds_toArray, List.set_cons_succ, List.set_cons_zero]
        refine takeH 16 (.bool true) rfl (by kernel_rfl) (by kernel_rfl) (by kernel_rfl) (fun _ _ _ h => h) (by rfl) (fun v hv => by have h := heXY.out v; have h2 := snap_grd .eql (.tmp 77) (.tmp 78) cx.toArray cy.toArray v; unfold execOp; simp [Sem.run_bind, Sem.run_pure, Result.andThen_ok, Act.eval, h, h2]) hH ?_
        simp only [Act.put, List.setIfInBounds_toArray, List.set_cons_succ, List.set_cons_zero]
        refine callH 13 rfl (by kernel_rfl) (by rfl) 17 #[.slice au us.length cu, .slice av vs.length cv] (by go_simp) (.bool true) hH (fun hS => (hsame.out _ hS).mono fun e w' h => ⟨h.1, h.2 ▸ hS⟩) ?_
        clear hH
        intro vv hH
        simp only [Act.put, List.setIfInBounds_toArray, List.set_cons_succ, List.set_cons_zero]
        refine takeH 17 (.bool false) rfl (by kernel_rfl) (by kernel_rfl) (by kernel_rfl) (fun _ _ _ h => h) (by rfl) (fun v hv => by go_simp) hH ?_
        simp only [Act.put, List.setIfInBounds_toArray, List.set_cons_succ, List.set_cons_zero]
        refine takeH 18 (.bool false) rfl (by kernel_rfl) (by kernel_rfl) (by kernel_rfl) (fun _ _ _ h => h) (by rfl) (fun v hv => by go_simp) hH ?_
        simp only [Act.put, List.setIfInBounds_toArray, List.set_cons_succ, List.set_cons_zero]
        refine takeH 19 (.agg cx.toArray) rfl (by kernel_rfl) (by kernel_rfl) (by kernel_rfl) (fun _ _ _ h => h) (by rfl) (fun v hv => by have h := run_ld_snap (A3.out v hv) LX.out; unfold execOp; simp [Instr.loadAt, Instr.sureAddr, Sem.run_bind, Sem.run_pure, Result.andThen_ok, Act.eval, h]) hH ?_
        simp only [Act.put, List.setIfInBounds_toArray, List.set_cons_succ, List.set_cons_zero]
        refine takeH 20 (.agg cy.toArray) rfl (by kernel_rfl) (by kernel_rfl) (by kernel_rfl) (fun _ _ _ h => h) (by rfl) (fun v hv => by have h := run_ld_snap (A4.out v hv) LY.out; unfold execOp; simp [Instr.loadAt, Instr.sureAddr, Sem.run_bind, Sem.run_pure, Result.andThen_ok, Act.eval, h]) hH ?_
        simp only [Act.put, List.setIfInBounds_toArray, List.set_cons_succ, List.set_cons_zero]
        refine takeH 21 (.bool true) rfl (by kernel_rfl) (by kernel_rfl) (by kernel_rfl) (fun _ _ _ h => h) (by rfl) (fun v hv => by have h := heXY.out v; have h2 := snap_grd .eql (.tmp 82) (.tmp 83) cx.toArray cy.toArray v; unfold execOp; simp [Sem.run_bind, Sem.run_pure, Result.andThen_ok, Act.eval, h, h2]) hH ?_
        simp only [Act.put, List.setIfInBounds_toArray, List.set_cons_succ, List.set_cons_zero]
        refine takeH 22 (.bool true) rfl (by kernel_rfl) (by kernel_rfl) (by kernel_rfl) (fun _ _ _ h => h) (by rfl) (fun v hv => by go_simp) hH ?_
        simp only [Act.put, List.setIfInBounds_toArray, List.set_cons_succ, List.set_cons_zero]
        refine takeH 23 (.slice au us.length cu) rfl (by kernel_rfl) (by kernel_rfl) (by kernel_rfl) (fun _ _ _ h => h) (by rfl) (fun v hv => by go_simp) hH ?_
        simp only [Act.put, List.setIfInBounds_toArray, List.set_cons_succ, List.set_cons_zero]
        refine takeH 25 (.slice av vs.length cv) rfl (by kernel_rfl) (by kernel_rfl) (by kernel_rfl) (fun _ _ _ h => h) (by rfl) (fun v hv => by go_simp) hH ?_
        simp only [Act.put, List.setIfInBounds_toArray, List.set_cons_succ, List.set_cons_zero]
        refine callH 24 rfl (by kernel_rfl) (by rfl) 29 #[.slice au us.length cu] (by go_simp) (.string nm) hH (fun hS => hname1.out _ hS) ?_
        clear hH
        intro vv hH
        simp only [Act.put, List.setIfInBounds_toArray, List.set_cons_succ, List.set_cons_zero]
        refine callH 26 rfl (by kernel_rfl) (by rfl) 29 #[.slice av vs.length cv] (by go_simp) (.string nm) hH (fun hS => hname2.out _ hS) ?_
        clear hH
        intro vv hH
        simp only [Act.put, List.setIfInBounds_toArray, List.set_cons_succ, List.set_cons_zero]
        refine takeH 27 (.bool false) rfl (by kernel_rfl) (by kernel_rfl) (by kernel_rfl) (fun _ _ _ h => h) (by rfl) (fun v hv => by go_simp) hH ?_
        simp only [Act.put, List.setIfInBounds_toArray, List.set_cons_succ, List.set_cons_zero]
        refine takeH 28 (.bool false) rfl (by kernel_rfl) (by kernel_rfl) (by kernel_rfl) (fun _ _ _ h => h) (by rfl) (fun v hv => by go_simp) hH ?_
        simp only [Act.put, List.setIfInBounds_toArray, List.set_cons_succ, List.set_cons_zero]
        refine takeH 29 (.bool false) rfl (by kernel_rfl) (by kernel_rfl) (by kernel_rfl) (fun _ _ _ h => h) (by rfl) (fun v hv => by go_simp) hH ?_
        simp only [Act.put, List.setIfInBounds_toArray, List.set_cons_succ, List.set_cons_zero]
        refine takeH 30 (.bool false) rfl (by kernel_rfl) (by kernel_rfl) (by kernel_rfl) (fun _ _ _ h => h) (by rfl) (fun v hv => by go_simp) hH ?_
        simp only [Act.put, List.setIfInBounds_toArray, List.set_cons_succ, List.set_cons_zero]
        refine takeH 31 (.bool false) rfl (by kernel_rfl) (by kernel_rfl) (by kernel_rfl) (fun _ _ _ h => h) (by rfl) (fun v hv => by go_simp) hH ?_
        simp only [Act.put, List.setIfInBounds_toArray, List.set_cons_succ, List.set_cons_zero]
        refine wpAnyH_done (by kernel_rfl) ?_ _
        have KR := hid (K5.out.trans hH)
        clear hH
        go_wp2_with fail
        refine (hdec.out _ KR.out).mono ?_
        rintro e wd ⟨rfl, kd⟩
        have KD := hid (KR.out.trans kd)
        clear kd
        rw [hcd.out, ← hge.out]
        go_wp2_with (refine wpList_store_at rfl 56 (.tmp 13) (.tmp 98) rfl wd.heap.size 0 cd rfl rfl 56 zSnap (heap_alloc_at rfl) ID.out (by have h1 := LDD.out; have h2 := zSnap_len; omega) OD.out ?_; refine halt ?_)
        rw [splice36 zSnap cd (LDD.out.trans zSnap_len.symm)]
        refine Halt.mk ?_
        obtain ⟨WD, hWD⟩ : ∃ WD, WD = (wd.alloc (.cells zSnap.toArray 56)).setRow wd.heap.size cd.toArray := ⟨_, rfl⟩
        have kd2 : Kept [] wd WD := hWD ▸ ((Kept.refl [] wd).alloc _).setRow (fun h => absurd h (Nat.lt_irrefl _)) _
        have KE := hid (KD.out.trans kd2)
        have AD := hid (show WD.heap[wd.heap.size]? = some (.cells cd.toArray 56 (0, 0)) from hWD ▸ setRow_heap _ _ _ _ _ _ (heap_alloc_at rfl))
        rw [← hWD]
        obtain ⟨pd, hpd⟩ : ∃ pd, pd = wd.heap.size := ⟨_, rfl⟩
        rw [← hpd] at AD ⊢
        clear hWD kd2 hpd
        have hrD := hid (ld_at AD.out)
        by_cases hg0 : ge = 0
        · have hg1 : (ge != 0) = false := by simp [hg0]
          obtain ⟨herr, hsl, hback⟩ := hgood.out hg0
          have henc := hid (j_snapencode (decV bs) (decV_ok bs) WD (HT.out.kept KE.out (by simp)))
          unfold Encoded at henc
          rw [hcd.out] at henc
          clear hg0
          go_wp2_with (refine wpList_load_cells rfl 56 (.tmp 13) rfl ⟨pd, 0, none⟩ rfl cd _ Tryd.underlying56 rfl ID.out hrD.out ?_)
          refine henc.out.mono ?_
          rintro e we ⟨ke, (⟨hx', _⟩ | ⟨_, ae, ce, rfl, hoe⟩)⟩
          · exact absurd herr hx'
          have KF := hid (KE.out.trans ke)
          have hrE := hid (ld_at (ke.at AD.out (by simp)))
          have be := (bys_of_row hoe).1
          rw [hback] at be ⊢
          have BE := hid be
          have hck := hid (fun W => j_snapcheck (decV bs) (decV_ok bs) W)
          rw [hcd.out, herr] at hck
          clear ke hoe be henc
          go_wp2_with (refine wpList_load_cells rfl 56 (.tmp 13) rfl ⟨pd, 0, none⟩ rfl cd _ Tryd.underlying56 rfl ID.out hrE.out ?_)
          refine (hck.out _).mono ?_
          rintro e wf ⟨rfl, kf⟩
          have KG := hid (KF.out.trans kf)
          have hsm := hid (same_dec ae a ce c bs bs wf (BE.out.kept kf (by simp)) (HS.out wf KG.out))
          rw [decide_eq_true rfl] at hsm
          clear kf
          go_wp2_with fail
          refine hsm.out.mono ?_
          rintro e wh ⟨rfl, rfl⟩
          go_wp2
          go_ret
          exact ⟨rfl, KG.out⟩
        · have hg1 : (ge != 0) = true := by simpa using hg0
          have hz := hid (hbad.out hg0)
          have hgd := snap_guard
          have heq := hid (fun W => snap_eql zSp zSp zSp_ok zSp_ok W)
          rw [zSp_cells, decide_eq_true rfl] at heq
          have heq2 : ∀ W, (binOp .eql 56 (.agg cd.toArray) (.agg zSnap.toArray)).run Tryd.prog W = .ok (.bool true) W := fun W => by rw [hz.out]; exact heq.out W
          have hgr := fun W => snap_grd .eql (.tmp 102) (.tmp 103) cd.toArray zSnap.toArray W
          have hbz := run_built_zero
          clear hg0
          go_wp2_with (refine wpList_load_cells rfl 56 (.tmp 13) rfl ⟨pd, 0, none⟩ rfl cd _ Tryd.underlying56 rfl ID.out hrD.out ?_)
          go_ret
          exact ⟨rfl, KE.out⟩
      · have hqq := hid (show decide (us = vs) = false from decide_eq_false (fun h => hxy (hiff.out.1 h)))
        have hd0 : decide (x = y) = false := decide_eq_false hxy
        rw [hd0] at heXY
        clear hd0 hxy
        go_wp2_with fail
        refine hd3.out.mono ?_
        rintro e w4 ⟨rfl, k4⟩
        have K4 := hid (K3.out.trans k4)
        have X4 := hid (k4.at X3.out (by simp))
        have Y4 := hid (k4.at Y3.out (by simp))
        have SU4 := hid (SU3.out.kept k4 (by simp))
        have SV4 := hid (SV.out.kept k4 (by simp))
        clear k4 hd3
        go_wp2_with (refine wpList_store_at rfl 56 (.tmp 11) (.tmp 61) rfl w4.heap.size 0 cx rfl rfl 56 zSnap (heap_alloc_at rfl) IX.out (by have h1 := LX.out; have h2 := zSnap_len; omega) OX.out ?_; refine halt ?_)
        rw [splice36 zSnap cx (LX.out.trans zSnap_len.symm)]
        refine Halt.mk ?_
        obtain ⟨w5, hw5⟩ : ∃ w5, w5 = (w4.alloc (.cells zSnap.toArray 56)).setRow w4.heap.size cx.toArray := ⟨_, rfl⟩
        have k5 : Kept [] w4 w5 := hw5 ▸ ((Kept.refl [] w4).alloc _).setRow (fun h => absurd h (Nat.lt_irrefl _)) _
        have K5 := hid (K4.out.trans k5)
        have AZ := hid (show w5.heap[w4.heap.size]? = some (.cells cx.toArray 56 (0, 0)) from hw5 ▸ setRow_heap _ _ _ _ _ _ (heap_alloc_at rfl))
        have A11 := hid (fun v (hv : Kept [] w5 v) => hv.at AZ.out (by simp))
        have A3 := hid (fun v (hv : Kept [] w5 v) => (k5.trans hv).at X4.out (by simp))
        have A4 := hid (fun v (hv : Kept [] w5 v) => (k5.trans hv).at Y4.out (by simp))
        have SU5 := hid (fun v (hv : Kept [] w5 v) => SU4.out.kept (k5.trans hv) (by simp))
        have SV5 := hid (fun v (hv : Kept [] w5 v) => SV4.out.kept (k5.trans hv) (by simp))
        rw [← hw5]
        clear hw5 k5
        have hsame := hid (fun v (hv : Kept [] w5 v) => (same_dec au av cu cv us vs v (SU5.out v hv) (SV5.out v hv)).mono (R' := fun e w' => e = .returned (.bool false) ∧ v = w') fun e w' h => ⟨by rw [h.1, hqq.out], h.2⟩)
        go_wp2_with fail
        refine wp_region_held_drew (S := Kept [] w5) (by kernel_rfl) (Kept.refl _ _).drew (fun hH => ?_)
        refine takeH 0 (.agg cx.toArray) rfl (by kernel_rfl) (by kernel_rfl) (by kernel_rfl) (fun _ _ _ h => h) (by rfl) (fun v hv => by have h := run_ld_snap (A11.out v hv) LX.out; unfold execOp; simp [Instr.loadAt, Instr.sureAddr, Sem.run_bind, Sem.run_pure, Result.andThen_ok, Act.eval, h]) hH ?_
        simp only [Act.put, List.setIfInBounds_toArray, List.set_cons_succ, List.set_cons_zero]
        refine takeH 1 (.agg cx.toArray) rfl (by kernel_rfl) (by kernel_rfl) (by kernel_rfl) (fun _ _ _ h => h) (by rfl) (fun v hv => by have h := run_ld_snap (A3.out v hv) LX.out; unfold execOp; simp [Instr.loadAt, Instr.sureAddr, Sem.run_bind, Sem.run_pure, Result.andThen_ok, Act.eval, h]) hH ?_
        simp only [Act.put, List.setIfInBounds_toArray, List.set_cons_succ, List.set_cons_zero]
        refine takeH 2 (.bool false) rfl (by kernel_rfl) (by kernel_rfl) (by kernel_rfl) (fun _ _ _ h => h) (by rfl) (fun v hv => by have h := hnXX.out v; have h2 := snap_grd .neq (.tmp 63) (.tmp 64) cx.toArray cx.toArray v; unfold execOp; simp [Sem.run_bind, Sem.run_pure, Result.andThen_ok, Act.eval, h, h2]) hH ?_
        simp only [Act.put, List.setIfInBounds_toArray, List.set_cons_succ, List.set_cons_zero]
        refine takeH 3 (.bool false) rfl (by kernel_rfl) (by kernel_rfl) (by kernel_rfl) (fun _ _ _ h => h) (by rfl) (fun v hv => by go_simp) hH ?_
        simp only [Act.put, List.setIfInBounds_toArray, List.set_cons_succ, List.set_cons_zero]
        refine takeH 4 (.int .i64 0) rfl (by kernel_rfl) (by kernel_rfl) (by kernel_rfl) (fun _ _ _ h => h) (by rfl) (fun v hv => by go_simp) hH ?_
        simp only [Act.put, List.setIfInBounds_toArray, List.set_cons_succ, List.set_cons_zero]
        refine takeH 5 (.bool false) rfl (by kernel_rfl) (by kernel_rfl) (by kernel_rfl) (fun _ _ _ h => h) (by rfl) (fun v hv => by go_simp) hH ?_
        simp only [Act.put, List.setIfInBounds_toArray, List.set_cons_succ, List.set_cons_zero]
        refine takeH 6 (.bool false) rfl (by kernel_rfl) (by kernel_rfl) (by kernel_rfl) (fun _ _ _ h => h) (by rfl) (fun v hv => by go_simp) hH ?_
        simp only [Act.put, List.setIfInBounds_toArray, List.set_cons_succ, List.set_cons_zero]
        refine takeH 7 (.bool false) rfl (by kernel_rfl) (by kernel_rfl) (by kernel_rfl) (fun _ _ _ h => h) (by rfl) (fun v hv => by go_simp) hH ?_
        simp only [Act.put, List.setIfInBounds_toArray, List.set_cons_succ, List.set_cons_zero]
        refine takeH 8 (.int .i64 0) rfl (by kernel_rfl) (by kernel_rfl) (by kernel_rfl) (fun _ _ _ h => h) (by rfl) (fun v hv => by go_simp) hH ?_
        simp only [Act.put, List.setIfInBounds_toArray, List.set_cons_succ, List.set_cons_zero]
        refine takeH 9 (.bool true) rfl (by kernel_rfl) (by kernel_rfl) (by kernel_rfl) (fun _ _ _ h => h) (by rfl) (fun v hv => by go_simp) hH ?_
        simp only [Act.put, List.setIfInBounds_toArray, List.set_cons_succ, List.set_cons_zero]
        refine takeH 10 (.bool true) rfl (by kernel_rfl) (by kernel_rfl) (by kernel_rfl) (fun _ _ _ h => h) (by rfl) (fun v hv => by go_simp) hH ?_
        simp only [Act.put, List.setIfInBounds_toArray, List.set_cons_succ, List.set_cons_zero]
        refine takeH 11 (.slice au us.length cu) rfl (by kernel_rfl) (by kernel_rfl) (by kernel_rfl) (fun _ _ _ h => h) (by rfl) (fun v hv => by go_simp) hH ?_
        simp only [Act.put, List.setIfInBounds_toArray, List.set_cons_succ, List.set_cons_zero]
        refine takeH 12 (.slice av vs.length cv) rfl (by kernel_rfl) (by kernel_rfl) (by kernel_rfl) (fun _ _ _ h => h) (by rfl) (fun v hv => by go_simp) hH ?_
        simp only [Act.put, List.setIfInBounds_toArray, List.set_cons_succ, List.set_cons_zero]
        refine takeH 14 (.agg cx.toArray) rfl (by kernel_rfl) (by kernel_rfl) (by kernel_rfl) (fun _ _ _ h => h) (by rfl) (fun v hv => by have h := run_ld_snap (A3.out v hv) LX.out; unfold execOp; simp [Instr.loadAt, Instr.sureAddr, Sem.run_bind, Sem.run_pure, Result.andThen_ok, Act.eval, h]) hH ?_
        simp only [Act.put, List.setIfInBounds_toArray, List.set_cons_succ, List.set_cons_zero]
        refine takeH 15 (.agg cy.toArray) rfl (by kernel_rfl) (by kernel_rfl) (by kernel_rfl) (fun _ _ _ h => h) (by rfl) (fun v hv => by have h := run_ld_snap (A4.out v hv) LY.out; unfold execOp; simp [Instr.loadAt, Instr.sureAddr, Sem.run_bind, Sem.run_pure, Result.andThen_ok, Act.eval, h]) hH ?_
        simp only [Act.put, List.setIfInBounds_toArray, List.set_cons_succ, List.set_cons_zero]
        refine takeH 16 (.bool false) rfl (by kernel_rfl) (by kernel_rfl) (by kernel_rfl) (fun _ _ _ h => h) (by rfl) (fun v hv => by have h := heXY.out v; have h2 := snap_grd .eql (.tmp 77) (.tmp 78) cx.toArray cy.toArray v; unfold execOp; simp [Sem.run_bind, Sem.run_pure, Result.andThen_ok, Act.eval, h, h2]) hH ?_
        simp only [Act.put, List.setIfInBounds_toArray, List.set_cons_succ, List.set_cons_zero]
        refine callH 13 rfl (by kernel_rfl) (by rfl) 17 #[.slice au us.length cu, .slice av vs.length cv] (by go_simp) (.bool false) hH (fun hS => (hsame.out _ hS).mono fun e w' h => ⟨h.1, h.2 ▸ hS⟩) ?_
        clear hH
        intro vv hH
        simp only [Act.put, List.setIfInBounds_toArray, List.set_cons_succ, List.set_cons_zero]
        refine takeH 17 (.bool false) rfl (by kernel_rfl) (by kernel_rfl) (by kernel_rfl) (fun _ _ _ h => h) (by rfl) (fun v hv => by go_simp) hH ?_
        simp only [Act.put, List.setIfInBounds_toArray, List.set_cons_succ, List.set_cons_zero]
        refine takeH 18 (.bool false) rfl (by kernel_rfl) (by kernel_rfl) (by kernel_rfl) (fun _ _ _ h => h) (by rfl) (fun v hv => by go_simp) hH ?_
        simp only [Act.put, List.setIfInBounds_toArray, List.set_cons_succ, List.set_cons_zero]
        refine takeH 19 (.agg cx.toArray) rfl (by kernel_rfl) (by kernel_rfl) (by kernel_rfl) (fun _ _ _ h => h) (by rfl) (fun v hv => by have h := run_ld_snap (A3.out v hv) LX.out; unfold execOp; simp [Instr.loadAt, Instr.sureAddr, Sem.run_bind, Sem.run_pure, Result.andThen_ok, Act.eval, h]) hH ?_
        simp only [Act.put, List.setIfInBounds_toArray, List.set_cons_succ, List.set_cons_zero]
        refine takeH 20 (.agg cy.toArray) rfl (by kernel_rfl) (by kernel_rfl) (by kernel_rfl) (fun _ _ _ h => h) (by rfl) (fun v hv => by have h := run_ld_snap (A4.out v hv) LY.out; unfold execOp; simp [Instr.loadAt, Instr.sureAddr, Sem.run_bind, Sem.run_pure, Result.andThen_ok, Act.eval, h]) hH ?_
        simp only [Act.put, List.setIfInBounds_toArray, List.set_cons_succ, List.set_cons_zero]
        refine takeH 21 (.bool false) rfl (by kernel_rfl) (by kernel_rfl) (by kernel_rfl) (fun _ _ _ h => h) (by rfl) (fun v hv => by have h := heXY.out v; have h2 := snap_grd .eql (.tmp 82) (.tmp 83) cx.toArray cy.toArray v; unfold execOp; simp [Sem.run_bind, Sem.run_pure, Result.andThen_ok, Act.eval, h, h2]) hH ?_
        simp only [Act.put, List.setIfInBounds_toArray, List.set_cons_succ, List.set_cons_zero]
        refine takeH 22 (.bool false) rfl (by kernel_rfl) (by kernel_rfl) (by kernel_rfl) (fun _ _ _ h => h) (by rfl) (fun v hv => by go_simp) hH ?_
        simp only [Act.put, List.setIfInBounds_toArray, List.set_cons_succ, List.set_cons_zero]
        refine skipH 23 rfl (by kernel_rfl) (by kernel_rfl) (by kernel_rfl) (fun _ _ _ h => h) (by rfl) hH ?_
        simp only [Act.put, List.setIfInBounds_toArray, List.set_cons_succ, List.set_cons_zero]
        refine skipH 24 rfl (by kernel_rfl) (by kernel_rfl) (by kernel_rfl) (fun _ _ _ h => h) (by rfl) hH ?_
        simp only [Act.put, List.setIfInBounds_toArray, List.set_cons_succ, List.set_cons_zero]
        refine skipH 25 rfl (by kernel_rfl) (by kernel_rfl) (by kernel_rfl) (fun _ _ _ h => h) (by rfl) hH ?_
        simp only [Act.put, List.setIfInBounds_toArray, List.set_cons_succ, List.set_cons_zero]
        refine skipH 26 rfl (by kernel_rfl) (by kernel_rfl) (by kernel_rfl) (fun _ _ _ h => h) (by rfl) hH ?_
        simp only [Act.put, List.setIfInBounds_toArray, List.set_cons_succ, List.set_cons_zero]
        refine skipH 27 rfl (by kernel_rfl) (by kernel_rfl) (by kernel_rfl) (fun _ _ _ h => h) (by rfl) hH ?_
        simp only [Act.put, List.setIfInBounds_toArray, List.set_cons_succ, List.set_cons_zero]
        refine takeH 28 (.bool false) rfl (by kernel_rfl) (by kernel_rfl) (by kernel_rfl) (fun _ _ _ h => h) (by rfl) (fun v hv => by go_simp) hH ?_
        simp only [Act.put, List.setIfInBounds_toArray, List.set_cons_succ, List.set_cons_zero]
        refine takeH 29 (.bool false) rfl (by kernel_rfl) (by kernel_rfl) (by kernel_rfl) (fun _ _ _ h => h) (by rfl) (fun v hv => by go_simp) hH ?_
        simp only [Act.put, List.setIfInBounds_toArray, List.set_cons_succ, List.set_cons_zero]
        refine takeH 30 (.bool false) rfl (by kernel_rfl) (by kernel_rfl) (by kernel_rfl) (fun _ _ _ h => h) (by rfl) (fun v hv => by go_simp) hH ?_
        simp only [Act.put, List.setIfInBounds_toArray, List.set_cons_succ, List.set_cons_zero]
        refine takeH 31 (.bool false) rfl (by kernel_rfl) (by kernel_rfl) (by kernel_rfl) (fun _ _ _ h => h) (by rfl) (fun v hv => by go_simp) hH ?_
        simp only [Act.put, List.setIfInBounds_toArray, List.set_cons_succ, List.set_cons_zero]
        refine wpAnyH_done (by kernel_rfl) ?_ _
        have KR := hid (K5.out.trans hH)
        clear hH
        go_wp2_with fail
        refine (hdec.out _ KR.out).mono ?_
        rintro e wd ⟨rfl, kd⟩
        have KD := hid (KR.out.trans kd)
        clear kd
        rw [hcd.out, ← hge.out]
        go_wp2_with (refine wpList_store_at rfl 56 (.tmp 13) (.tmp 98) rfl wd.heap.size 0 cd rfl rfl 56 zSnap (heap_alloc_at rfl) ID.out (by have h1 := LDD.out; have h2 := zSnap_len; omega) OD.out ?_; refine halt ?_)
        rw [splice36 zSnap cd (LDD.out.trans zSnap_len.symm)]
        refine Halt.mk ?_
        obtain ⟨WD, hWD⟩ : ∃ WD, WD = (wd.alloc (.cells zSnap.toArray 56)).setRow wd.heap.size cd.toArray := ⟨_, rfl⟩
        have kd2 : Kept [] wd WD := hWD ▸ ((Kept.refl [] wd).alloc _).setRow (fun h => absurd h (Nat.lt_irrefl _)) _
        have KE := hid (KD.out.trans kd2)
        have AD := hid (show WD.heap[wd.heap.size]? = some (.cells cd.toArray 56 (0, 0)) from hWD ▸ setRow_heap _ _ _ _ _ _ (heap_alloc_at rfl))
        rw [← hWD]
        obtain ⟨pd, hpd⟩ : ∃ pd, pd = wd.heap.size := ⟨_, rfl⟩
        rw [← hpd] at AD ⊢
        clear hWD kd2 hpd
        have hrD := hid (ld_at AD.out)
        by_cases hg0 : ge = 0
        · have hg1 : (ge != 0) = false := by simp [hg0]
          obtain ⟨herr, hsl, hback⟩ := hgood.out hg0
          have henc := hid (j_snapencode (decV bs) (decV_ok bs) WD (HT.out.kept KE.out (by simp)))
          unfold Encoded at henc
          rw [hcd.out] at henc
          clear hg0
          go_wp2_with (refine wpList_load_cells rfl 56 (.tmp 13) rfl ⟨pd, 0, none⟩ rfl cd _ Tryd.underlying56 rfl ID.out hrD.out ?_)
          refine henc.out.mono ?_
          rintro e we ⟨ke, (⟨hx', _⟩ | ⟨_, ae, ce, rfl, hoe⟩)⟩
          · exact absurd herr hx'
          have KF := hid (KE.out.trans ke)
          have hrE := hid (ld_at (ke.at AD.out (by simp)))
          have be := (bys_of_row hoe).1
          rw [hback] at be ⊢
          have BE := hid be
          have hck := hid (fun W => j_snapcheck (decV bs) (decV_ok bs) W)
          rw [hcd.out, herr] at hck
          clear ke hoe be henc
          go_wp2_with (refine wpList_load_cells rfl 56 (.tmp 13) rfl ⟨pd, 0, none⟩ rfl cd _ Tryd.underlying56 rfl ID.out hrE.out ?_)
          refine (hck.out _).mono ?_
          rintro e wf ⟨rfl, kf⟩
          have KG := hid (KF.out.trans kf)
          have hsm := hid (same_dec ae a ce c bs bs wf (BE.out.kept kf (by simp)) (HS.out wf KG.out))
          rw [decide_eq_true rfl] at hsm
          clear kf
          go_wp2_with fail
          refine hsm.out.mono ?_
          rintro e wh ⟨rfl, rfl⟩
          go_wp2
          go_ret
          exact ⟨rfl, KG.out⟩
        · have hg1 : (ge != 0) = true := by simpa using hg0
          have hz := hid (hbad.out hg0)
          have hgd := snap_guard
          have heq := hid (fun W => snap_eql zSp zSp zSp_ok zSp_ok W)
          rw [zSp_cells, decide_eq_true rfl] at heq
          have heq2 : ∀ W, (binOp .eql 56 (.agg cd.toArray) (.agg zSnap.toArray)).run Tryd.prog W = .ok (.bool true) W := fun W => by rw [hz.out]; exact heq.out W
          have hgr := fun W => snap_grd .eql (.tmp 102) (.tmp 103) cd.toArray zSnap.toArray W
          have hbz := run_built_zero
          clear hg0
          go_wp2_with (refine wpList_load_cells rfl 56 (.tmp 13) rfl ⟨pd, 0, none⟩ rfl cd _ Tryd.underlying56 rfl ID.out hrD.out ?_)
          go_ret
          exact ⟨rfl, KE.out⟩
end Go.Proofs.YtcdbgijbfppmoaaDoor
