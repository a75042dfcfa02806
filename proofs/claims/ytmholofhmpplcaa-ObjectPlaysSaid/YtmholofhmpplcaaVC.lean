import Derived.Test.YtmholofhmpplcaaMV4

/- step: List. -/
namespace Go.Proofs.Ytmholofhmpplcaa
open Go.RowKit Go.Lib Go.Maps

set_option maxRecDepth 100000 in
set_option maxHeartbeats 4000000 in
theorem step_list (D : Nat) (w : World) (p : Nat) (q : Int) (f : Nat) (T : List Nat) (es fs : List Ent) (U : List Nat) (fl : List Bool) (k : Nat) (left : Int) (row flv : Value) (h : PS D w p q f T es fs U fl k left row flv) (h0 : left ≠ 0) (hk : k ≤ 60) (nm : List UInt8) (hnm : nm.length ≤ 100) (bv : Value) :
   Calls Try.prog 12 #[.pointer (some ⟨p, 0, none⟩), stR row q k left flv, .agg #[.int .i64 4, .string (S nm), bv]] w (StepR D w p q f T U k) := by
  have H := hid h
  obtain ⟨base, hrf⟩ := h.rf
  obtain ⟨ra, rc, rfl⟩ := owns_slice hrf.row
  obtain ⟨n, hn⟩ : ∃ n, n = fs.length := ⟨_, rfl⟩
  have HN := hid hn
  have hfv : ∃ a n c, flv = .slice a n c := by obtain ⟨_, a, c, e, _⟩ := h.fr; exact ⟨a, _, c, e⟩
  have HFV := hid hfv
  obtain ⟨b0, hb0⟩ : ∃ b0, b0 = w.heap.size := ⟨_, rfl⟩
  obtain ⟨b1, hb1⟩ : ∃ b1, b1 = w.heap.size + 1 := ⟨_, rfl⟩
  obtain ⟨b2, hb2⟩ : ∃ b2, b2 = w.heap.size + 1 + 1 := ⟨_, rfl⟩
  have HB0 := hid hb0; have HB1 := hid hb1; have HB2 := hid hb2
  rw [← hn] at h hrf ⊢
  obtain ⟨W0, hW0⟩ : ∃ W0, W0 = ((w.alloc (.cells #[.slice ra n rc, .int .i64 q, .int .i64 k, .int .i64 left, flv] 35)).alloc (.cells #[.int .i64 4, .string (S nm), bv] 38)).alloc (.cells #[.slice none 0 0, .int .i64 0, .int .i64 0, .int .i64 0, .slice none 0 0] 35) := ⟨_, rfl⟩
  have HW0 := hid hW0
  have k0 := hid (show Kept [] w W0 from hW0 ▸ (((Kept.refl [] w).alloc _).alloc _).alloc _)
  have hs0 := hid (show W0.heap.size = w.heap.size + 3 from by rw [hW0]; simp)
  have hx0 := hid (show W0.heap[b0]? = some (.cells #[.slice ra n rc, .int .i64 q, .int .i64 k, .int .i64 left, flv] 35 (0, 0)) from by rw [hW0, hb0]; exact heap_alloc_old (heap_alloc_old (heap_alloc_at rfl)))
  have hx1 := hid (show W0.heap[b1]? = some (.cells #[.int .i64 4, .string (S nm), bv] 38 (0, 0)) from by rw [hW0, hb1]; exact heap_alloc_old (heap_alloc_at (by simp)))
  have hx2 := hid (show W0.heap[b2]? = some (.cells [.slice none 0 0, .int .i64 0, .int .i64 0, .int .i64 0, .slice none 0 0].toArray 35 (0, 0)) from by rw [hW0, hb2]; exact heap_alloc_at (by simp))
  have P0 := hid (h.keep k0.out)
  have hcs := hid (ob_list W0 U p _ [] q es (.pointer (some ⟨f, 0, none⟩)) fl k left nm P0.out.ob (by omega) P0.out.fu h0)
  have hou := hid (show ∀ x, w.heap.size ≤ x → x ∉ U ++ [f] from fun x hx hm => by
    simp at hm
    rcases hm with hm | hm
    · have := h.ob.bound x hm; omega
    · have := h.flt.1; omega)
  have hl := hid h.flt.2.2; have hbd := hid h.bd; have hse := hid h.se; have hfl := hid h.fle; have hth := hid h.th
  have hT := hid (fun x (hx : x ∈ T) => (show x < w.heap.size from Nat.lt_of_lt_of_le (h.tl x hx) h.dl))
  have hris := hid (h.se.rising h.ob.rising)
  have H0 := hid h0; have HK := hid hk
  have hnl := hid (show ∀ e ∈ fs, e.name.length ≤ 1000000000 from fun e he => by
    have h1 := h.se.names'
    have h2 : e.name ∈ es.map (·.name) := by rw [h1]; exact List.mem_map_of_mem he
    obtain ⟨e2, h3, h4⟩ := List.mem_map.1 h2
    have h5 := h.ob.small.2.2 e2 h3
    rw [h4] at h5
    unfold okName at h5
    simp at h5
    omega)
  obtain ⟨oe, hoe⟩ : ∃ oe, oe = opE fl := ⟨_, rfl⟩
  obtain ⟨gl, hgl⟩ : ∃ gl, gl = gotL fl es nm := ⟨_, rfl⟩
  have hpu := hid h.ob.hp
  have HGL := hid (hgl.trans (h.se.gotL fl nm))
  rw [← hoe, ← hgl] at hcs
  have HOE := hid hoe
  clear hW0 hb0 hb1 hb2 h hrf hn hfv h0 hk hoe hgl
  unfold stR
  go_enter Try.func12, Try.ntmps12
  go_wp2_with fail
  rw [← HW0.out, ← HB2.out, ← HB1.out, ← HB0.out]
  refine hcs.out.mono ?_
  rintro e V ⟨lv, rfl, k1, ob1, fu1, ol1⟩
  have K1 := hid (show Kept (U ++ [f]) W0 V from k1.wider (fun x _ hx => by simp [fuB] at hx; rcases hx with rfl | rfl <;> simp [hpu.out]))
  obtain ⟨la, lc, rfl⟩ := owns_slice ol1
  obtain ⟨ln, hln⟩ : ∃ ln, ln = gl.length := ⟨_, rfl⟩
  rw [← hln] at ol1 ⊢
  have HLN := hid hln
  have OL1 := hid ol1
  clear hln ol1
  have OB1 := hid ob1; have FU1 := hid fu1
  have hB0 := hid (K1.out.at hx0.out (hou.out _ (by have := HB0.out; omega)))
  have hB1 := hid (K1.out.at hx1.out (hou.out _ (by have := HB1.out; omega)))
  have hB2 := hid (K1.out.at hx2.out (hou.out _ (by have := HB2.out; omega)))
  have hrs := hid (ref_st V b0 (.slice ra n rc) q k left flv hB0.out)
  have c1 : V.cell? ⟨b1, 1, none⟩ = some (.string (S nm)) := by rw [cell_of_row _ _ 1 _ _ _ hB1.out]; rfl
  have PM := hid (P0.out.mid K1.out)
  have hrd := hid (by
    obtain ⟨⟨b, h1⟩, h2⟩ := PM.out
    exact ref_list ra n rc fs q k left flv fl T b V h1 HN.out hris.out (by have := hse.out.length; have := hbd.out; have := HK.out; have := HN.out; omega) h2 H0.out hl.out (by have := HK.out; omega) (fun x hx => by have := hT.out x hx; have := hs0.out; have := K1.out.size; omega) (by have := hfl.out; omega) nm (by omega) hnl.out)
  rw [← HOE.out, ← HGL.out] at hrd
  clear k1 ob1 fu1 hcs
  unfold stR at hrs hrd
  go_wp2_with (refine wpList_load_cells rfl 35 (.tmp 4) rfl ⟨b0, 0, none⟩ rfl [.slice ra n rc, .int .i64 q, .int .i64 k, .int .i64 left, flv] _ Try.underlying35 rfl (by kernel_rfl) (cells_of hB0.out) ?_; refine halt ?_)
  refine Halt.mk ?_
  go_wp2_with fail
  refine hrd.out.mono ?_
  rintro e V2 ⟨wa, wm, wc, flv', rfl, k2, hr2, ⟨hwm, ow⟩, hf2⟩
  have K2 := hid k2; have HR2 := hid hr2; have HF2 := hid hf2; have HWM := hid hwm; have OW := hid ow
  have hC2 := hid (k2.at hB2.out (by simp))
  have hfv2 : ∃ a n c, flv' = .slice a n c := by obtain ⟨_, a, c, e, _⟩ := hf2; exact ⟨a, _, c, e⟩
  clear k2 hr2 hf2 hrd hwm ow
  obtain ⟨k3, hk3⟩ : ∃ k3 : Int, k3 = (k : Int) + 1 := ⟨_, rfl⟩
  obtain ⟨l3, hl3⟩ : ∃ l3, l3 = decL left := ⟨_, rfl⟩
  have HK3 := hid hk3; have HL3 := hid hl3
  unfold stR
  rw [← hk3, ← hl3]
  clear hk3 hl3
  obtain ⟨b3, hb3⟩ : ∃ b3, b3 = V2.heap.size := ⟨_, rfl⟩
  have HB3 := hid hb3
  obtain ⟨V3, hV3⟩ : ∃ V3, V3 = V2.alloc (.cells #[.slice none 0 0, .int .i64 0, .int .i64 0, .int .i64 0, .slice none 0 0] 35) := ⟨_, rfl⟩
  have HV3 := hid hV3
  have hy3 := hid (show V3.heap[b3]? = some (.cells [.slice none 0 0, .int .i64 0, .int .i64 0, .int .i64 0, .slice none 0 0].toArray 35 (0, 0)) from by rw [hV3, hb3]; exact heap_alloc_at rfl)
  have kv3 := hid (show Kept [] V2 V3 from hV3 ▸ (Kept.refl _ _).alloc _)
  obtain ⟨V4, hV4⟩ : ∃ V4, V4 = V3.setRow b3 (splice [.slice none 0 0, .int .i64 0, .int .i64 0, .int .i64 0, .slice none 0 0] 0 [.slice ra n rc, .int .i64 q, .int .i64 k3, .int .i64 l3, flv']).toArray := ⟨_, rfl⟩
  have HV4 := hid hV4
  have hy4 := hid (show V4.heap[b3]? = some (.cells [.slice ra n rc, .int .i64 q, .int .i64 k3, .int .i64 l3, flv'].toArray 35 (0, 0)) from by rw [hV4]; exact setRow_heap _ _ _ _ _ _ hy3.out)
  have kv4 := hid (show Kept [b3] V3 V4 from hV4 ▸ (Kept.refl _ _).setRow (fun _ => by simp) _)
  have hb23 := hid (show b2 ≠ b3 from by have := lt_of_block hC2.out; omega)
  have hz4 := hid (kv4.out.at (kv3.out.at hC2.out (by simp)) (by simpa using hb23.out))
  have kVV4 := hid (show Kept [] V V4 from by
    have h1 : Kept [] V2 V4 := kv3.out.trans' kv4.out (fun x hx hm => by simp at hm; subst hm; have := HB3.out; omega)
    exact K2.out.trans h1)
  have hkd := hid (show Kept [b2] V4 V4.drew from (Kept.refl _ V4).drew)
  have hldy := hid (fun X (hX : Kept [b2] V4 X) => ref_st X b3 (.slice ra n rc) q k3 l3 flv' (hX.at hy4.out (by simp; exact fun e => hb23.out e.symm)))
  have hsto := hid (fun X (hX : Kept [b2] V4 X) (hz : X.heap[b2]? = some (.cells [.slice none 0 0, .int .i64 0, .int .i64 0, .int .i64 0, .slice none 0 0].toArray 35 (0, 0))) => run_storeVar_at (P := Try.prog) X b2 0 35 35 [.slice none 0 0, .int .i64 0, .int .i64 0, .int .i64 0, .slice none 0 0] [.slice ra n rc, .int .i64 q, .int .i64 k3, .int .i64 l3, flv'] hz (by kernel_rfl) (by simp) (one5 hfv2 _ _ _ _ _ _))
  have hzd := hid (show V4.drew.heap[b2]? = some (.cells [.slice none 0 0, .int .i64 0, .int .i64 0, .int .i64 0, .slice none 0 0].toArray 35 (0, 0)) from hz4.out)
  have hsn := hid (show Calls Try.prog 30 #[.slice la ln lc, .slice wa wm wc] V4.drew fun e w' => e = .returned (.bool true) ∧ Kept [] V4.drew w' from by
    have hwl : wm = ln := by rw [HWM.out, HLN.out, List.length_map]
    subst hwl
    have he : (gl.map (fun x => (⟨x, undef, []⟩ : Ent))).map nmV = gl.map encStr := by rw [List.map_map]; rfl
    have hd : Kept [] V4 V4.drew := (Kept.refl _ V4).drew
    have hgl : gl.length ≤ 4096 := by
      rw [HGL.out]
      have h1 := hse.out.length; have h2 := hbd.out; have h3 := HK.out
      unfold gotL; split
      · unfold namesL
        have := List.length_filter_le (fun x => Lib.hasPrefix x nm) (fs.map (·.name))
        rw [List.length_map] at this
        omega
      · simp
    exact same_names la wa lc wc W0.heap.size V.heap.size wm (gl.map (fun x => (⟨x, undef, []⟩ : Ent))) V4.drew (by rw [List.length_map, HLN.out]) (by rw [he]; exact (kVV4.out.trans hd).owns OL1.out (by simp)) (by rw [he]; exact ((kv3.out.trans' kv4.out (fun x hx hm => by simp at hm; subst hm; have := HB3.out; omega)).trans hd).owns OW.out (by simp)) (by have := HLN.out; omega))
  clear hV3 hV4 hb3
  go_wp2_with (refine wpList_store_at rfl 35 (.tmp 25) (.tmp 137) rfl V2.heap.size 0 [.slice ra n rc, .int .i64 q, .int .i64 k3, .int .i64 l3, flv'] rfl rfl 35 [.slice none 0 0, .int .i64 0, .int .i64 0, .int .i64 0, .slice none 0 0] (heap_alloc_at rfl) (by kernel_rfl) (by simp) (one5 hfv2 _ _ _ _ _ _) ?_; refine halt ?_)
  refine Halt.mk ?_
  rw [← HV3.out, ← HB3.out, ← HV4.out]
  go_wp2_with fail
  refine wp_region_held_drew (S := fun v => Kept [b2] V4 v) (by kernel_rfl) hkd.out (fun hH => ?_)
  refine takeH 0 (stR (.slice ra n rc) q k3 l3 flv') rfl (by kernel_rfl) (by kernel_rfl) (by kernel_rfl) (fun _ _ _ h => h) (by rfl) (fun v hv => by have h := hldy.out v hv; unfold execOp; simp [Instr.loadAt, Instr.sureAddr, Sem.run_bind, Sem.run_pure, Result.andThen_ok, Act.eval, h]) hH ?_
  simp only [Act.put, List.setIfInBounds_toArray, List.set_cons_succ, List.set_cons_zero]
  refine takeH 1 (.int .i64 oe) rfl (by kernel_rfl) (by kernel_rfl) (by kernel_rfl) (fun _ _ _ h => h) (by rfl) (fun v hv => by go_simp) hH ?_
  simp only [Act.put, List.setIfInBounds_toArray, List.set_cons_succ, List.set_cons_zero]
  refine takeH 2 (.int .i64 oe) rfl (by kernel_rfl) (by kernel_rfl) (by kernel_rfl) (fun _ _ _ h => h) (by rfl) (fun v hv => by go_simp) hH ?_
  simp only [Act.put, List.setIfInBounds_toArray, List.set_cons_succ, List.set_cons_zero]
  refine takeH 3 (.bool true) rfl (by kernel_rfl) (by kernel_rfl) (by kernel_rfl) (fun _ _ _ h => h) (by rfl) (fun v hv => by go_simp) hH ?_
  simp only [Act.put, List.setIfInBounds_toArray, List.set_cons_succ, List.set_cons_zero]
  refine takeH 4 (.bool true) rfl (by kernel_rfl) (by kernel_rfl) (by kernel_rfl) (fun _ _ _ h => h) (by rfl) (fun v hv => by go_simp) hH ?_
  simp only [Act.put, List.setIfInBounds_toArray, List.set_cons_succ, List.set_cons_zero]
  refine takeH 5 (.slice la ln lc) rfl (by kernel_rfl) (by kernel_rfl) (by kernel_rfl) (fun _ _ _ h => h) (by rfl) (fun v hv => by go_simp) hH ?_
  simp only [Act.put, List.setIfInBounds_toArray, List.set_cons_succ, List.set_cons_zero]
  refine takeH 6 (.slice wa wm wc) rfl (by kernel_rfl) (by kernel_rfl) (by kernel_rfl) (fun _ _ _ h => h) (by rfl) (fun v hv => by go_simp) hH ?_
  simp only [Act.put, List.setIfInBounds_toArray, List.set_cons_succ, List.set_cons_zero]
  refine callR 7 rfl (by kernel_rfl) (by rfl) 30 #[.slice la ln lc, .slice wa wm wc] (by go_simp) (.bool true) (fun v => Kept [] V4.drew v) (fun v h => hH.trans (h.wider (fun x _ hx => by simp at hx))) (hsn.out) ?_
  rintro v2 hv2
  simp only [Act.put, List.setIfInBounds_toArray, List.set_cons_succ, List.set_cons_zero]
  have hz6 := hid (hv2.at hzd.out (by simp))
  have kz := hid (show Kept [b2] V4 v2 from hkd.out.trans (hv2.wider (fun x _ hx => by simp at hx)))
  have ks := hid (show Kept [b2] v2 (v2.setRow b2 (splice [.slice none 0 0, .int .i64 0, .int .i64 0, .int .i64 0, .slice none 0 0] 0 [.slice ra n rc, .int .i64 q, .int .i64 k3, .int .i64 l3, flv']).toArray) from (Kept.refl _ _).setRow (fun _ => by simp) _)
  refine takeH 8 (.bool true) rfl (by kernel_rfl) (by kernel_rfl) (by kernel_rfl) (fun _ _ _ h => h) (by rfl) (fun v hv => by go_simp) kz.out ?_
  simp only [Act.put, List.setIfInBounds_toArray, List.set_cons_succ, List.set_cons_zero]
  refine writeH 9 rfl (by kernel_rfl) (by rfl) ((v2.setRow b2 (splice [.slice none 0 0, .int .i64 0, .int .i64 0, .int .i64 0, .slice none 0 0] 0 [.slice ra n rc, .int .i64 q, .int .i64 k3, .int .i64 l3, flv']).toArray)) (by have h := hsto.out v2 kz.out hz6.out; unfold execOp; simp [Act.eval, Instr.storeAt, Instr.sureAddr, Sem.run_bind, Sem.run_pure, Result.andThen_ok, stR, h]) ((kz.out.trans ks.out)) ?_
  simp only [Act.put, List.setIfInBounds_toArray, List.set_cons_succ, List.set_cons_zero]
  refine takeH 10 (.bool true) rfl (by kernel_rfl) (by kernel_rfl) (by kernel_rfl) (fun _ _ _ h => h) (by rfl) (fun v hv => by go_simp) (kz.out.trans ks.out) ?_
  simp only [Act.put, List.setIfInBounds_toArray, List.set_cons_succ, List.set_cons_zero]
  refine wpAnyH_done (by kernel_rfl) ?_ _
  have hld := hid (ref_st (v2.setRow b2 (splice [.slice none 0 0, .int .i64 0, .int .i64 0, .int .i64 0, .slice none 0 0] 0 [.slice ra n rc, .int .i64 q, .int .i64 k3, .int .i64 l3, flv']).toArray) b2 (.slice ra n rc) q k3 l3 flv' (setRow_heap _ _ _ _ _ _ hz6.out))
  obtain ⟨V5, hV5⟩ : ∃ V5, V5 = v2.setRow b2 (splice [.slice none 0 0, .int .i64 0, .int .i64 0, .int .i64 0, .slice none 0 0] 0 [.slice ra n rc, .int .i64 q, .int .i64 k3, .int .i64 l3, flv']).toArray := ⟨_, rfl⟩
  have kv5 := hid (kz.out.trans ks.out)
  rw [← hV5] at hld kv5 ⊢
  clear hv2 hz6 kz ks hH hldy hsto hzd hsn hV5
  go_wp2_with fail
  refine bodyPost_ret (v := .tuple #[stR (.slice ra n rc) q k3 l3 flv', .bool true]) (results_cell2 Try.results12 rfl rfl hld.out) rfl ?_
  have hb2n := hid (show ∀ x, x ∈ U → x ≠ b2 from fun x hx e => hou.out b2 (by have := HB2.out; omega) (by subst e; simp [hx]))
  have hb2f := hid (show f ≠ b2 from fun e => hou.out b2 (by have := HB2.out; omega) (by subst e; simp))
  have hkk : Kept [b2] V2 V5 := by
    have h1 : Kept [] V2 V4 := kv3.out.trans' kv4.out (fun x hx hm => by simp at hm; subst hm; have := HB3.out; omega)
    exact (h1.wider (fun x _ hx => by simp at hx)).trans kv5.out
  have kV : Hid (Kept [b2] V V5) := (kVV4.out.wider (fun x _ hx => by simp at hx)).trans kv5.out
  have hfm : ∀ x ∈ fs, x ∈ fs := fun _ h => h
  refine ⟨es, fs, U, fl.drop 1, k + 1, decL left, .slice ra n rc, flv', by rw [HK3.out, HL3.out]; rfl, ?_, fun x hx => Or.inl hx, ?_, Nat.le_refl _⟩
  · exact ((k0.out.wider (fun x _ hx => by simp at hx)).trans K1.out).trans' kV.out (fun x hx hm => by simp at hm; subst hm; have := HB2.out; omega)
  · refine PS.next (V := V) (row := .slice ra n rc) (by rw [HN.out]; exact H.out) (by have := hs0.out; have := K1.out.size; omega) kV.out (fun x hx => by simp at hx; subst hx; exact ⟨fun hm => hb2n.out _ hm rfl, hb2f.out.symm⟩) OB1.out FU1.out (fun x hx => Or.inl hx) ?_ (fun g hg => Or.inl hg) hth.out hse.out ?_ ?_
    · obtain ⟨b', h1⟩ := HR2.out
      refine ⟨b', h1.kept hkk (fun g hg hm => ?_) (fun e he hne g hg hm => ?_)⟩
      · simp at hm; subst hm
        obtain ⟨bb, h3⟩ := H.out.rf
        have h4 := (h3.row.lt _ (by rw [← HN.out]; exact hg)).2
        have := HB2.out; omega
      · simp at hm; subst hm
        have h2 := hth.out e he hne _ hg
        have := H.out.dl; have := HB2.out; omega
    · exact HF2.out.kept hkk (fun x hx hm => by simp at hm; subst hm; have := hT.out _ hx; have := HB2.out; omega)
    · have h1 := hbd.out
      omega
end Go.Proofs.Ytmholofhmpplcaa
