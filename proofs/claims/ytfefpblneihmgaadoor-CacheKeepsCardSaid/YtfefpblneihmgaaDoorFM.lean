import Derived.Test.YtfefpblneihmgaaDoorFL

/- CacheKeeps: the walk. -/
namespace Go.Proofs.YtfefpblneihmgaaDoor
open Go.RowKit Go.Lib Go.Maps
theorem putD_grow (lim : Int) (l : List (List UInt8 × List UInt8)) (ys : List UInt8) : szD (putD lim l ys) ≤ szD l + ys.length := by
  have h1 := szD_drop (Sha.sum ys) l
  unfold putD
  split
  · omega
  · have h2 := szD_evict lim ys.length (dropD (Sha.sum ys) l)
    rw [szD_app]
    simp [szD] at h1 h2 ⊢
    omega
theorem KW.next {w W W' : World} {U U' : List Nat} {mb p : Nat} {lm : Int} {i : Nat} {l : List (List UInt8 × List UInt8)} (hc : CS w W' U' p lm l) (h1 : (szD l : Int) ≤ lm) (h2 : l.length ≤ i + 1) (h3 : szD l ≤ 100 * (i + 1)) (hm : More W W' U U') (hU : mb ∉ U) (ht : TM W mb (i + 1)) (hk : Kept U W W') (hw : w.heap.size ≤ mb) (hb : mb < W.heap.size) : KW w W' mb p lm (i + 1) :=
  ⟨⟨U', l, hc, h1, h2, h3, fun h => by
    rcases hm.1 mb h with h | h
    · exact hU h
    · omega⟩, ht.kept hk hU, hw⟩
set_option maxRecDepth 100000 in
set_option maxHeartbeats 16000000 in
theorem keeps_do (lim : Int) (hl2 : lim ≤ 9223372036854775807) (a1 : Option Addr) (c1 : Nat) (ops : List OpK) (w : World) (ht : Tabs w) (hst : IsStepsK w a1 ops) (hm : ops.length ≤ 9223372036854775807) :
    Calls Tryd.prog 4 #[.int .i64 lim, .slice a1 ops.length c1] w fun e w' => e = .returned (.bool true) ∧ Kept [] w w' := by
  have hal := hid (alive14 w ht)
  have hstk : ∀ W, Kept [] w W → IsStepsK W a1 ops := fun W hk => ⟨hst.1, fun x hx i o ho => by
    obtain ⟨q0, q1, q2, q3, q4⟩ := hst.2 x hx i o ho
    exact ⟨(hk.cell (World.block_lt_of_cell? w _ q0) (by simp)).trans q0, (hk.cell (World.block_lt_of_cell? w _ q1) (by simp)).trans q1, (hk.cell (World.block_lt_of_cell? w _ q2) (by simp)).trans q2, q3.kept hk (by simp), q4⟩⟩
  have hfw := hid (fun W (hk : Kept [] w W) => few14 a1 c1 ops W (hstk W hk) hm)
  have HST := hid hst; have HT := hid ht
  obtain ⟨lm, hlm⟩ : ∃ lm : Int, lm = max lim 0 := ⟨_, rfl⟩
  have HLM := hid hlm
  obtain ⟨n, hn⟩ : ∃ n, n = ops.length := ⟨_, rfl⟩
  have HN := hid hn
  rw [← hn] at hfw ⊢
  clear ht hst hstk hm hlm
  by_cases hfew : FewK ops
  · rw [decide_eq_true hfew] at hfw
    have HF := hid hfew
    have n30 : n ≤ 30 := by rw [hn]; exact hfew.2
    have hmk : ∀ W : World, (Instr.makeMap 54 none).run Tryd.prog W = .ok (.map (some W.heap.size)) (W.alloc (.map #[] 0)) := fun _ => rfl
    obtain ⟨zv, hzv⟩ : ∃ zv, zv = (idz.map B).toArray := ⟨_, rfl⟩
    have hzz : ∀ W, (zeroValue 34).run Tryd.prog W = .ok (.agg zv) W := by rw [hzv]; exact zero_idN
    have hzs := hid (show zv.size = 32 from by rw [hzv]; simp [idz])
    clear hfew hn hzv
    go_enter Tryd.func4, Tryd.ntmps4
    go_wp2_with fail
    refine hal.out.mono ?_
    rintro e w1 ⟨rfl, k1⟩
    have hfw1 := hid (hfw.out w1 k1)
    have K1 := hid k1
    clear k1 hal hfw
    go_wp2_with fail
    refine hfw1.out.mono ?_
    rintro e w2 ⟨rfl, k2⟩
    have hnew := hid (cs_new w w2 (K1.out.trans k2) HT.out lim hl2)
    rw [← HLM.out] at hnew
    clear k2 hfw1
    go_wp2_with fail
    refine hnew.out.mono ?_
    rintro e w3 ⟨rfl, k3, cc3⟩
    obtain ⟨p, hp⟩ : ∃ p, p = w2.heap.size := ⟨_, rfl⟩
    rw [← hp] at cc3 ⊢
    obtain ⟨mb, hmb⟩ : ∃ mb, mb = w3.heap.size := ⟨_, rfl⟩
    obtain ⟨w4, hw4⟩ : ∃ w4, w4 = w3.alloc (.map #[] 0) := ⟨_, rfl⟩
    have hI0 := hid (show KW w w4 mb p lm 0 from by
      have hc4 := cc3.keep0 (show Kept [] w3 w4 from hw4 ▸ (Kept.refl [] w3).alloc _)
      refine ⟨⟨_, _, hc4, by simp [szD]; have := HLM.out; omega, by simp, by simp [szD], fun h => by have := (cc3.bound _ h).2; omega⟩, by rw [hw4, hmb]; exact tm_made w3, by have := cc3.kept.size; omega⟩)
    have HMB := hid hmb; have HW4 := hid hw4
    clear k3 cc3 hp hnew hmb hw4
    go_wp2_with fail
    rw [← HW4.out, ← HMB.out]
    go_loopw [26] (fun s wr => ∃ i : Nat, i ≤ n ∧ s = .int .i64 i ∧ Hid (KW w wr mb p lm i)) (fun s _ => n - (intOf s).toNat)
    case atStart => exact ⟨0, Nat.zero_le _, rfl, hI0⟩
    case round =>
      clear hI0
      obtain ⟨i, hi, rfl, hkw⟩ := hrel
      obtain ⟨U, l, hcs, hsz, hll, hs100, hmU⟩ := hkw.out.cs
      have HCS := hid hcs; have HSZ := hid hsz; have HLL := hid hll; have HS := hid hs100; have HMU := hid hmU
      clear hcs hsz hll hs100 hmU
      by_cases hlt : i < n
      · obtain ⟨o, ho⟩ : ∃ o, ops[i]? = some o := ⟨ops[i]'(by rw [← HN.out]; exact hlt), by simp⟩
        obtain ⟨x, rfl⟩ : ∃ x, a1 = some x := by
          cases a1 with
          | none => have h1 := HST.out.1 rfl; rw [h1] at ho; simp at ho
          | some x => exact ⟨x, rfl⟩
        obtain ⟨q0, q1, q2, hsrc, hbc1, hbc2, hb1, hb2⟩ := HST.out.2 x rfl i o ho
        have ho100 := HF.out.1 o (List.mem_of_getElem? ho)
        have hkx := HCS.out.kept
        have g0 := (hkx.cell (World.block_lt_of_cell? w _ q0) (by simp)).trans q0
        have g1 := (hkx.cell (World.block_lt_of_cell? w _ q1) (by simp)).trans q1
        have g2 := (hkx.cell (World.block_lt_of_cell? w _ q2) (by simp)).trans q2
        obtain ⟨hrd, hrn⟩ := reads_srcb hsrc
        have hsv := hid (fun W (hk : Kept [] w W) => hsrc.kept hk (by simp))
        have hrlt := hid (fun (hh : o.bs ≠ []) y (hy : o.ba = some y) => hrd.lt hh y hy)
        have hrds := hid (fun W (hk : Kept [] w W) => hrd.kept hk (fun _ _ _ => by simp))
        obtain ⟨K, B1, oa, oc, bs⟩ := o
        dsimp only at *
        obtain ⟨k, hk⟩ : ∃ k, k = bs.length := ⟨_, rfl⟩
        have HK := hid hk; have HRN := hid hrn; have HBC := hid (And.intro hbc1 hbc2); have HB := hid (And.intro hb1 hb2); have HLT := hid hlt; have H100 := hid ho100
        rw [← hk] at g2
        clear q0 q1 q2 ho hsrc hbc1 hbc2 hb1 hb2 ho100 hkx hrd hrn hk
        obtain ⟨W, hW⟩ : ∃ W, W = wr.alloc (.cells #[.int .i64 K, .int .i64 B1, .slice oa k oc] 32) := ⟨_, rfl⟩
        have HW := hid hW
        have hkW := hid (show Kept [] wr W from hW ▸ (Kept.refl [] wr).alloc _)
        obtain ⟨ob, hob⟩ : ∃ ob, ob = wr.heap.size := ⟨_, rfl⟩
        have HOB := hid hob
        have hop := hid (show W.heap[ob]? = some (.cells #[.int .i64 K, .int .i64 B1, .slice oa k oc] 32 (0, 0)) from by rw [hW, hob]; exact heap_alloc_at rfl)
        obtain ⟨id, hids⟩ : ∃ id, id = Sha.sum bs := ⟨_, rfl⟩
        have L32 := hid (show id.length = 32 from by rw [hids]; exact Sha.sum_len _)
        obtain ⟨ib, hib⟩ : ∃ i, i = (id.map B).toArray := ⟨_, rfl⟩
        have CW := hid (HCS.out.keep0 hkW.out)
        have hof := hid (refof_sum oa oc bs W (hrds.out W CW.out.kept) HRN.out (by have := H100.out; omega))
        rw [← hids, ← hib, ← HK.out] at hof
        have HID := hid hids; have HIB := hid hib
        clear hW hob hids hib
        go_wp2_with fail
        rw [← HOB.out, ← HW.out]
        refine hof.out.mono ?_
        rintro e W2 ⟨rfl, k2⟩
        obtain ⟨q, hq⟩ : ∃ q, q = W2.heap.size := ⟨_, rfl⟩
        obtain ⟨z3, hz3⟩ : ∃ z3, z3 = W2.alloc (.cells zv 34) := ⟨_, rfl⟩
        have r0 : z3.heap[q]? = some (.cells zv 34 (0, 0)) := by rw [hz3, hq]; exact heap_alloc_at rfl
        obtain ⟨W3, hW3⟩ : ∃ W3, W3 = z3.setRow q ib := ⟨_, rfl⟩
        have k34 : Kept [q] z3 W3 := by rw [hW3]; exact (Kept.refl _ z3).setRow (fun _ => by simp) _
        have t0 : W3.heap[q]? = some (.cells ib 34 (0, 0)) := by rw [hW3]; exact setRow_heap _ _ _ _ _ _ r0
        have k23 : Kept [q] W2 W3 := ((hz3 ▸ (Kept.refl [] W2).alloc (.cells zv 34)).wider (fun x _ h => by simp at h)).trans k34
        have C2 := CW.out.keep0 k2
        have C3 := hid (C2.keep k23 (fun v hv hm => by have := (C2.bound v hv).2; simp at hm; omega) (fun v hv => by have := C2.kept.size; simp at hv; omega))
        have hs1 := hkW.out.size
        have hs2 := k2.size
        have hobW := lt_of_block hop.out
        have hop3 := hid (k23.at (k2.at hop.out (by simp)) (by simp; omega))
        have hmbw := hkw.out.tm
        have hmlt : mb < wr.heap.size := by obtain ⟨D, hD⟩ := hmbw; exact hD.lt
        have hTM3 := hid (((hmbw.kept hkW.out (by simp)).kept k2 (by simp)).kept k23 (by simp; omega))
        have hqx := hid (show q ∉ U ∧ ob ∉ U ∧ mb ≠ q ∧ mb ≠ ob ∧ mb < W3.heap.size from ⟨fun hm => by have := (C2.bound _ hm).2; omega, fun hm => by have := (HCS.out.bound _ hm).2; have := HOB.out; omega, by omega, by have := HOB.out; omega, by have := k23.size; omega⟩)
        have ib32 : ib.size = 32 := by rw [HIB.out]; simp [L32.out]
        have SI := hid (show (Tryd.prog.info? 34).map (·.size) = some ib.size ∧ zv.size = ib.size ∧ ib.all (·.oneCell') = true from ⟨by rw [ib32]; kernel_rfl, by rw [ib32, hzs.out], by rw [HIB.out]; exact id_one id⟩)
        have R0 := hid r0; have T0 := hid t0; have HQ := hid hq; have HZ3 := hid hz3; have HW3 := hid hW3
        have LD3 := hid (show (loadVar 34 ⟨q, 0, none⟩).run Tryd.prog W3 = .ok (.agg ib) W3 from by have h1 := ld_idB W3 q id L32.out (by rw [← HIB.out]; exact T0.out); rw [← HIB.out] at h1; exact h1)
        obtain ⟨was, there, hlk⟩ := tm_look hTM3.out id L32.out
        rw [← HIB.out] at hlk
        have htx : (convert 30 9 (.slice oa k oc)).run Tryd.prog W3 = .ok (.string ⟨bs.toArray⟩) W3 := by
          have h1 := text_any W3 oa oc bs (hsv.out W3 C3.out.kept)
          rw [← HK.out] at h1
          exact h1
        obtain ⟨tx, htxe⟩ : ∃ tx : ByteArray, tx = ⟨bs.toArray⟩ := ⟨_, rfl⟩
        rw [← htxe] at htx
        obtain ⟨W4, hput, k4, hTM4⟩ := tm_put hTM3.out id L32.out tx (by omega)
        rw [← HIB.out] at hput
        have K4 := hid k4; have TM4 := hid hTM4
        have b0 : W3.cell? ⟨ob, 2, none⟩ = some (.slice oa k oc) := by rw [cell_of_row _ _ 2 _ _ _ hop3.out]; rfl
        have hkk := hid (show Kept [] wr W2 from hkW.out.trans k2)
        clear k2 hq hz3 hW3 r0 t0 k34 k23 C2 hs1 hs2 hobW hmbw hmlt ib32 k4 hTM4 htxe hof CW
        go_wp2_with (refine wpList_store_row rfl 34 (.tmp 9) (.tmp 32) rfl W2.heap.size ib rfl rfl _ _ (by rw [← HZ3.out, ← HQ.out]; exact R0.out) SI.out.1 SI.out.2.1 SI.out.2.2 ?_; refine halt ?_)
        refine Halt.mk ?_
        rw [← HZ3.out, ← HQ.out, ← HW3.out]
        go_wp2_with (refine wpList_ldv rfl 34 (.tmp 9) rfl ⟨q, 0, none⟩ rfl (.agg ib) LD3.out ?_; refine halt ?_)
        refine Halt.mk ?_
        go_upto_region 12 with fail
        go_cut [46] (fun s wx => ∃ c : Bool, s = .bool c ∧ W3 = wx)
        case first =>
          cases there
          · go_wp2_with fail
            go_meet
            exact ⟨_, rfl, rfl⟩
          · go_wp2_with fail
            go_meet
            exact ⟨_, rfl, rfl⟩
        case rest =>
          obtain ⟨c, rfl, rfl⟩ := hcut
          cases c
          · have hq4 := hid (K4.out.at T0.out (by simp; exact fun h => hqx.out.2.2.1 h.symm))
            have hop4 := hid (K4.out.at hop3.out (by simp; exact fun h => hqx.out.2.2.2.1 h.symm))
            have C4 := hid (C3.out.keep K4.out (fun v hv hm => by simp at hm; subst hm; exact HMU.out hv) (fun v hv => by simp at hv; subst hv; exact hkw.out.mw))
            have hm4 := hid (show mb < W4.heap.size from by obtain ⟨D, hD⟩ := TM4.out; exact hD.lt)
            have lq4 := hid (fun V (hV : Kept U W4 V) => (show (loadVar 34 ⟨q, 0, none⟩).run Tryd.prog V = .ok (.agg ib) V from by have h1 := ld_idB V q id L32.out (by rw [← HIB.out]; exact hV.at hq4.out hqx.out.1); rw [← HIB.out] at h1; exact h1))
            have lb4 := hid (fun V (hV : Kept U W4 V) => (show V.cell? ⟨ob, 2, none⟩ = some (.slice oa k oc) from by rw [cell_of_row _ _ 2 _ _ _ (hV.at hop4.out hqx.out.2.1)]; rfl))
            go_wp2_with (refine wpList_ldv rfl 34 (.tmp 9) rfl ⟨q, 0, none⟩ rfl (.agg ib) LD3.out ?_; refine halt ?_)
            refine Halt.mk ?_
            have kk0 : W4.cell? ⟨ob, 0, none⟩ = some (.int .i64 K) := by rw [cell_of_row _ _ 0 _ _ _ hop4.out]; rfl
            have kk1 : W4.cell? ⟨ob, 1, none⟩ = some (.int .i64 B1) := by rw [cell_of_row _ _ 1 _ _ _ hop4.out]; rfl
            have hsl := hid (show szD l ≤ 100000000 ∧ l.length ≤ 1000000 from ⟨by have := HS.out; omega, by have := HLL.out; omega⟩)
            clear hop3 SI R0 T0 HQ HZ3 HW3 HW hkW hop hkk LD3 hlk K4 hzs hmk hzz
            by_cases hK0 : K = 0
            · subst hK0
              go_upto_region 21 with fail
              have hH0 : Kept U W4 W4.drew := (Kept.refl U W4).drew
              have C4d := C4.out.keep0 ((Kept.refl [] W4).drew)
              have hpt := hid (cs_put C4d hsl.out.1 hsl.out.2 oa oc bs (hrds.out _ C4d.kept) (fun hh y hy hm => by have h1 := (C4d.bound _ hm).1; have h2 := hrlt.out hh y hy; omega) HRN.out HBC.out.1 HBC.out.2 (by have := H100.out; omega))
              rw [← HID.out, ← HIB.out, ← HK.out] at hpt
              have heq := hid (show ∀ v : World, (Op.equalIn 10000 34 (.agg ib) (.agg ib)).run Tryd.prog v = .ok true v from fun v => by rw [HIB.out, id_equal _ _ L32.out L32.out v]; simp)
              clear C4d htx hput b0 kk0 kk1
              refine wp_region_held_drew (S := fun v => Kept U W4 v) (by kernel_rfl) hH0 (fun hH => ?_)
              refine takeH 0 (.pointer (some ⟨p, 0, none⟩)) rfl (by kernel_rfl) (by kernel_rfl) (by kernel_rfl) (fun _ _ _ h => h) (by rfl) (fun v hv => by go_simp) hH ?_
              simp only [Act.put, List.setIfInBounds_toArray, List.set_cons_succ, List.set_cons_zero]
              refine takeH 1 (.pointer (some ⟨ob, 2, none⟩)) rfl (by kernel_rfl) (by kernel_rfl) (by kernel_rfl) (fun _ _ _ h => h) (by rfl) (fun v hv => by go_simp) hH ?_
              simp only [Act.put, List.setIfInBounds_toArray, List.set_cons_succ, List.set_cons_zero]
              refine takeH 2 (.slice oa k oc) rfl (by kernel_rfl) (by kernel_rfl) (by kernel_rfl) (fun _ _ _ h => h) (by rfl) (fun v hv => by have h := lb4.out v hv; go_simp) hH ?_
              simp only [Act.put, List.setIfInBounds_toArray, List.set_cons_succ, List.set_cons_zero]
              refine takeH 4 (.agg ib) rfl (by kernel_rfl) (by kernel_rfl) (by kernel_rfl) (fun _ _ _ h => h) (by rfl) (fun v hv => by have h := lq4.out v hv; unfold execOp; simp [Instr.loadAt, Instr.sureAddr, Sem.run_bind, Sem.run_pure, Result.andThen_ok, Act.eval, h]) hH ?_
              simp only [Act.put, List.setIfInBounds_toArray, List.set_cons_succ, List.set_cons_zero]
              refine callR 3 rfl (by kernel_rfl) (by rfl) 13 #[.pointer (some ⟨p, 0, none⟩), .slice oa k oc] (by go_simp) (.agg ib) (fun v => Kept U W4.drew v ∧ ∃ U', More W4.drew v U U' ∧ CS w v U' p lm (putD lm l bs)) (fun v h => hH0.trans h.1) (hpt.out) ?_
              rintro v1 ⟨k1, U5, m5, c5⟩
              simp only [Act.put, List.setIfInBounds_toArray, List.set_cons_succ, List.set_cons_zero]
              have hH1 : Kept U W4 v1 := hH0.trans k1
              refine takeH 5 (.bool false) rfl (by kernel_rfl) (by kernel_rfl) (by kernel_rfl) (fun _ _ _ h => h) (by rfl) (fun v hv => by have h := heq.out v; go_simp) hH1 ?_
              simp only [Act.put, List.setIfInBounds_toArray, List.set_cons_succ, List.set_cons_zero]
              refine wpAnyH_done (by kernel_rfl) ?_ _
              have hgp := hid (get_put lm l bs)
              obtain ⟨l1, hl1⟩ : ∃ l1, l1 = putD lm l bs := ⟨_, rfl⟩
              have hp1 := hid (show (szD l1 : Int) ≤ lm ∧ l1.length ≤ i + 1 ∧ szD l1 ≤ 100 * (i + 1) from by
                have h1 := putD_size bs HSZ.out
                have h2 := putD_len lm l bs
                have h3 := putD_grow lm l bs
                have h4 := HLL.out; have h5 := HS.out; have h6 := H100.out
                rw [hl1]
                omega)
              rw [← HID.out, ← hl1] at hgp
              rw [← hl1] at c5
              have C5 := hid c5
              have hq5 := hid (hH1.at hq4.out hqx.out.1); have hop5 := hid (hH1.at hop4.out hqx.out.2.1)
              have TM5 := hid (TM4.out.kept hH1 HMU.out)
              have sz4 := hH1.size
              have hU5 := hid (show q ∉ U5 ∧ ob ∉ U5 ∧ mb ∉ U5 from by
                have e4 : W4.drew.heap.size = W4.heap.size := rfl
                have t1 := lt_of_block hq4.out; have t2 := lt_of_block hop4.out; have t3 := hm4.out
                refine ⟨fun h => ?_, fun h => ?_, fun h => ?_⟩ <;> rcases m5.1 _ h with h | h
                · exact hqx.out.1 h
                · omega
                · exact hqx.out.2.1 h
                · omega
                · exact HMU.out h
                · omega)
              have LD5 := hid (show (loadVar 34 ⟨q, 0, none⟩).run Tryd.prog v1 = .ok (.agg ib) v1 from by have h1 := ld_idB v1 q id L32.out (by rw [← HIB.out]; exact hq5.out); rw [← HIB.out] at h1; exact h1)
              have hg5 := hid (cs_get C5.out (by have := hp1.out; omega) (by have := hp1.out; omega) id L32.out)
              rw [← HIB.out] at hg5
              clear hH0 hH1 k1 m5 c5 hl1 hpt heq lq4 lb4 sz4 hq4 hop4 TM4 C4
              go_wp2_with (refine wpList_ldv rfl 34 (.tmp 9) rfl ⟨q, 0, none⟩ rfl (.agg ib) LD5.out ?_; refine halt ?_)
              refine Halt.mk ?_
              go_wp2_with fail
              refine hg5.out.mono ?_
              rintro e YF ⟨v, UF, rfl, k6, m6, c6, ha⟩
              have CF := hid c6
              have hop6 := hid (k6.at hop5.out hU5.out.2.1)
              have TMF := hid (TM5.out.kept k6 hU5.out.2.2)
              have HMF := hid (show mb ∉ UF from fun h => by
                rcases m6.1 _ h with h | h
                · exact hU5.out.2.2 h
                · have h1 : mb < v1.heap.size := by obtain ⟨D, hD⟩ := TM5.out; exact hD.lt
                  omega)
              obtain ⟨lF, hlF⟩ : ∃ lF, lF = getL id l1 := ⟨_, rfl⟩
              have hgs := getL_size id l1
              rw [← hlF] at hgs CF
              have HZF := hid (show (szD lF : Int) ≤ lm from by have := hp1.out; omega)
              have HLF := hid (show lF.length ≤ i + 1 from by have := hp1.out; omega)
              have HSF := hid (show szD lF ≤ 100 * (i + 1) from by have := hp1.out; omega)
              have b6 : YF.cell? ⟨ob, 2, none⟩ = some (.slice oa k oc) := by rw [cell_of_row _ _ 2 _ _ _ hop6.out]; rfl
              have hml := HLM.out
              have hfit := hgp.out
              clear k6 m6 c6 hg5 LD5 hlF hgs C5 hq5 hop5 TM5 hU5
              by_cases hkl : (k : Int) ≤ lm
              · rw [if_pos (by have := HK.out; omega)] at hfit
                rw [hfit] at ha ⊢
                have OG := Out.of ha
                obtain ⟨ga1, gc1, rfl⟩ : ∃ a c, v = .slice a bs.length c := by obtain ⟨base, h1⟩ := OG.row; obtain ⟨a, c, e⟩ := owns_slice h1; exact ⟨a, c, e⟩
                have hsame := hid (same_deck ga1 oa gc1 oc bs bs YF (OG.src rfl) (hsv.out YF CF.out.kept))
                simp only [decide_true] at hsame
                rw [← HK.out] at hsame ⊢
                simp only [Option.isSome_some]
                clear ha hfit OG
                go_upto_region 24 with fail
                go_cut [104] (fun s wx => s = .bool false ∧ YF = wx)
                case first =>
                  rcases Int.lt_trichotomy lim 0 with hs | hs | hs
                  · obtain rfl : k = 0 := by omega
                    go_wp2_with fail
                    refine hsame.out.mono ?_
                    rintro e y ⟨rfl, rfl⟩
                    go_wp2_with fail
                    go_meet
                    exact ⟨rfl, rfl⟩
                  · subst hs
                    obtain rfl : k = 0 := by omega
                    go_wp2_with fail
                    refine hsame.out.mono ?_
                    rintro e y ⟨rfl, rfl⟩
                    go_wp2_with fail
                    go_meet
                    exact ⟨rfl, rfl⟩
                  · have f0 : decide ((k : Int) ≤ lim) = true := decide_eq_true (by omega)
                    go_wp2_with fail
                    refine hsame.out.mono ?_
                    rintro e y ⟨rfl, rfl⟩
                    go_wp2_with fail
                    go_meet
                    exact ⟨rfl, rfl⟩
                case rest =>
                  obtain ⟨rfl, rfl⟩ := hcut
                  clear hml hkl hsame b6
                  have hz := hid HZF.out
                  obtain ⟨z, hze⟩ : ∃ z, z = szD lF := ⟨_, rfl⟩
                  have hsi := hid (cs_size CF.out)
                  have hle := hid (cs_len CF.out)
                  have hal9 := hid (cs_all CF.out (by have := HLF.out; omega) 1000 (by decide) (by decide))
                  have htk : (lF.map (·.1)).take 1000 = lF.map (·.1) := List.take_of_length_le (by have h1 := HLF.out; simp; omega)
                  rw [htk, List.length_map] at hal9
                  obtain ⟨nl, hnl⟩ : ∃ nl, nl = lF.length := ⟨_, rfl⟩
                  rw [← hze] at hsi
                  rw [← hnl] at hle hal9
                  have hzl : (z : Int) ≤ lm := by rw [hze]; exact hz.out
                  have hml := HLM.out
                  clear htk hz hze
                  go_upto_region 28 with fail
                  go_cut [124] (fun s wx => s = .bool false ∧ Hid (Kept [] YF wx))
                  case first =>
                    go_wp2_with fail
                    refine hsi.out.mono ?_
                    rintro e y ⟨rfl, rfl⟩
                    rcases Int.lt_trichotomy lim 0 with hs | hs | hs
                    · have f0 : decide ((0 : Int) < (z : Int)) = false := decide_eq_false (by omega)
                      go_wp2_with fail
                      refine hle.out.mono ?_
                      rintro e y ⟨rfl, rfl⟩
                      go_wp2_with fail
                      refine hal9.out.mono ?_
                      rintro e y ⟨aa, ac, rfl, ka, _⟩
                      go_wp2_with fail
                      go_meet
                      exact ⟨rfl, hid ka⟩
                    · subst hs
                      have f0 : decide ((0 : Int) < (z : Int)) = false := decide_eq_false (by omega)
                      go_wp2_with fail
                      refine hle.out.mono ?_
                      rintro e y ⟨rfl, rfl⟩
                      go_wp2_with fail
                      refine hal9.out.mono ?_
                      rintro e y ⟨aa, ac, rfl, ka, _⟩
                      go_wp2_with fail
                      go_meet
                      exact ⟨rfl, hid ka⟩
                    · have f0 : decide (lim < (z : Int)) = false := decide_eq_false (by omega)
                      go_wp2_with fail
                      refine hle.out.mono ?_
                      rintro e y ⟨rfl, rfl⟩
                      go_wp2_with fail
                      refine hal9.out.mono ?_
                      rintro e y ⟨aa, ac, rfl, ka, _⟩
                      go_wp2_with fail
                      go_meet
                      exact ⟨rfl, hid ka⟩
                  case rest =>
                    obtain ⟨rfl, hkf⟩ := hcut
                    go_wp2
                    go_roundw
                    case rel => exact ⟨i + 1, HLT.out, by go_num, hid ⟨⟨UF, lF, CF.out.keep0 hkf.out, HZF.out, HLF.out, HSF.out, HMF.out⟩, TMF.out.kept hkf.out (by simp), hkw.out.mw⟩⟩
                    case measure => simp [intOf]; omega
              · rw [if_neg (by have := HK.out; omega)] at hfit
                rw [hfit] at ha ⊢
                have ha : v = .slice none 0 0 := ha
                subst ha
                simp only [Option.isSome_none]
                clear hfit
                go_upto_region 24 with fail
                go_cut [104] (fun s wx => s = .bool false ∧ YF = wx)
                case first =>
                  rcases Int.lt_trichotomy lim 0 with hs | hs | hs
                  · have f0 : decide ((k : Int) ≤ 0) = false := decide_eq_false (by omega)
                    go_wp2_with fail
                    go_meet
                    exact ⟨rfl, rfl⟩
                  · subst hs
                    have f0 : decide ((k : Int) ≤ 0) = false := decide_eq_false (by omega)
                    go_wp2_with fail
                    go_meet
                    exact ⟨rfl, rfl⟩
                  · have f0 : decide ((k : Int) ≤ lim) = false := decide_eq_false (by omega)
                    go_wp2_with fail
                    go_meet
                    exact ⟨rfl, rfl⟩
                case rest =>
                  obtain ⟨rfl, rfl⟩ := hcut
                  clear hml hkl b6
                  have hz := hid HZF.out
                  obtain ⟨z, hze⟩ : ∃ z, z = szD lF := ⟨_, rfl⟩
                  have hsi := hid (cs_size CF.out)
                  have hle := hid (cs_len CF.out)
                  have hal9 := hid (cs_all CF.out (by have := HLF.out; omega) 1000 (by decide) (by decide))
                  have htk : (lF.map (·.1)).take 1000 = lF.map (·.1) := List.take_of_length_le (by have h1 := HLF.out; simp; omega)
                  rw [htk, List.length_map] at hal9
                  obtain ⟨nl, hnl⟩ : ∃ nl, nl = lF.length := ⟨_, rfl⟩
                  rw [← hze] at hsi
                  rw [← hnl] at hle hal9
                  have hzl : (z : Int) ≤ lm := by rw [hze]; exact hz.out
                  have hml := HLM.out
                  clear htk hz hze
                  go_upto_region 28 with fail
                  go_cut [124] (fun s wx => s = .bool false ∧ Hid (Kept [] YF wx))
                  case first =>
                    go_wp2_with fail
                    refine hsi.out.mono ?_
                    rintro e y ⟨rfl, rfl⟩
                    rcases Int.lt_trichotomy lim 0 with hs | hs | hs
                    · have f0 : decide ((0 : Int) < (z : Int)) = false := decide_eq_false (by omega)
                      go_wp2_with fail
                      refine hle.out.mono ?_
                      rintro e y ⟨rfl, rfl⟩
                      go_wp2_with fail
                      refine hal9.out.mono ?_
                      rintro e y ⟨aa, ac, rfl, ka, _⟩
                      go_wp2_with fail
                      go_meet
                      exact ⟨rfl, hid ka⟩
                    · subst hs
                      have f0 : decide ((0 : Int) < (z : Int)) = false := decide_eq_false (by omega)
                      go_wp2_with fail
                      refine hle.out.mono ?_
                      rintro e y ⟨rfl, rfl⟩
                      go_wp2_with fail
                      refine hal9.out.mono ?_
                      rintro e y ⟨aa, ac, rfl, ka, _⟩
                      go_wp2_with fail
                      go_meet
                      exact ⟨rfl, hid ka⟩
                    · have f0 : decide (lim < (z : Int)) = false := decide_eq_false (by omega)
                      go_wp2_with fail
                      refine hle.out.mono ?_
                      rintro e y ⟨rfl, rfl⟩
                      go_wp2_with fail
                      refine hal9.out.mono ?_
                      rintro e y ⟨aa, ac, rfl, ka, _⟩
                      go_wp2_with fail
                      go_meet
                      exact ⟨rfl, hid ka⟩
                  case rest =>
                    obtain ⟨rfl, hkf⟩ := hcut
                    go_wp2
                    go_roundw
                    case rel => exact ⟨i + 1, HLT.out, by go_num, hid ⟨⟨UF, lF, CF.out.keep0 hkf.out, HZF.out, HLF.out, HSF.out, HMF.out⟩, TMF.out.kept hkf.out (by simp), hkw.out.mw⟩⟩
                    case measure => simp [intOf]; omega
            · have e0 : (K == 0) = false := by simpa using hK0
              by_cases hK1 : K = 1
              · subst hK1
                go_upto_region 21 with fail
                have hH0 : Kept U W4 W4.drew := (Kept.refl U W4).drew
                have C4d := C4.out.keep0 ((Kept.refl [] W4).drew)
                have hpt := hid (cs_put C4d hsl.out.1 hsl.out.2 oa oc bs (hrds.out _ C4d.kept) (fun hh y hy hm => by have h1 := (C4d.bound _ hm).1; have h2 := hrlt.out hh y hy; omega) HRN.out HBC.out.1 HBC.out.2 (by have := H100.out; omega))
                rw [← HID.out, ← HIB.out, ← HK.out] at hpt
                have heq := hid (show ∀ v : World, (Op.equalIn 10000 34 (.agg ib) (.agg ib)).run Tryd.prog v = .ok true v from fun v => by rw [HIB.out, id_equal _ _ L32.out L32.out v]; simp)
                clear C4d htx hput b0 kk0 kk1
                refine wp_region_held_drew (S := fun v => Kept U W4 v) (by kernel_rfl) hH0 (fun hH => ?_)
                refine takeH 0 (.pointer (some ⟨p, 0, none⟩)) rfl (by kernel_rfl) (by kernel_rfl) (by kernel_rfl) (fun _ _ _ h => h) (by rfl) (fun v hv => by go_simp) hH ?_
                simp only [Act.put, List.setIfInBounds_toArray, List.set_cons_succ, List.set_cons_zero]
                refine takeH 1 (.pointer (some ⟨ob, 2, none⟩)) rfl (by kernel_rfl) (by kernel_rfl) (by kernel_rfl) (fun _ _ _ h => h) (by rfl) (fun v hv => by go_simp) hH ?_
                simp only [Act.put, List.setIfInBounds_toArray, List.set_cons_succ, List.set_cons_zero]
                refine takeH 2 (.slice oa k oc) rfl (by kernel_rfl) (by kernel_rfl) (by kernel_rfl) (fun _ _ _ h => h) (by rfl) (fun v hv => by have h := lb4.out v hv; go_simp) hH ?_
                simp only [Act.put, List.setIfInBounds_toArray, List.set_cons_succ, List.set_cons_zero]
                refine takeH 4 (.agg ib) rfl (by kernel_rfl) (by kernel_rfl) (by kernel_rfl) (fun _ _ _ h => h) (by rfl) (fun v hv => by have h := lq4.out v hv; unfold execOp; simp [Instr.loadAt, Instr.sureAddr, Sem.run_bind, Sem.run_pure, Result.andThen_ok, Act.eval, h]) hH ?_
                simp only [Act.put, List.setIfInBounds_toArray, List.set_cons_succ, List.set_cons_zero]
                refine callR 3 rfl (by kernel_rfl) (by rfl) 13 #[.pointer (some ⟨p, 0, none⟩), .slice oa k oc] (by go_simp) (.agg ib) (fun v => Kept U W4.drew v ∧ ∃ U', More W4.drew v U U' ∧ CS w v U' p lm (putD lm l bs)) (fun v h => hH0.trans h.1) (hpt.out) ?_
                rintro v1 ⟨k1, U5, m5, c5⟩
                simp only [Act.put, List.setIfInBounds_toArray, List.set_cons_succ, List.set_cons_zero]
                have hH1 : Kept U W4 v1 := hH0.trans k1
                refine takeH 5 (.bool false) rfl (by kernel_rfl) (by kernel_rfl) (by kernel_rfl) (fun _ _ _ h => h) (by rfl) (fun v hv => by have h := heq.out v; go_simp) hH1 ?_
                simp only [Act.put, List.setIfInBounds_toArray, List.set_cons_succ, List.set_cons_zero]
                refine wpAnyH_done (by kernel_rfl) ?_ _
                have hgp := hid (get_put lm l bs)
                obtain ⟨l1, hl1⟩ : ∃ l1, l1 = putD lm l bs := ⟨_, rfl⟩
                have hp1 := hid (show (szD l1 : Int) ≤ lm ∧ l1.length ≤ i + 1 ∧ szD l1 ≤ 100 * (i + 1) from by
                  have h1 := putD_size bs HSZ.out
                  have h2 := putD_len lm l bs
                  have h3 := putD_grow lm l bs
                  have h4 := HLL.out; have h5 := HS.out; have h6 := H100.out
                  rw [hl1]
                  omega)
                rw [← HID.out, ← hl1] at hgp
                rw [← hl1] at c5
                have C5 := hid c5
                have hq5 := hid (hH1.at hq4.out hqx.out.1); have hop5 := hid (hH1.at hop4.out hqx.out.2.1)
                have TM5 := hid (TM4.out.kept hH1 HMU.out)
                have sz4 := hH1.size
                have hU5 := hid (show q ∉ U5 ∧ ob ∉ U5 ∧ mb ∉ U5 from by
                  have e4 : W4.drew.heap.size = W4.heap.size := rfl
                  have t1 := lt_of_block hq4.out; have t2 := lt_of_block hop4.out; have t3 := hm4.out
                  refine ⟨fun h => ?_, fun h => ?_, fun h => ?_⟩ <;> rcases m5.1 _ h with h | h
                  · exact hqx.out.1 h
                  · omega
                  · exact hqx.out.2.1 h
                  · omega
                  · exact HMU.out h
                  · omega)
                have LD5 := hid (show (loadVar 34 ⟨q, 0, none⟩).run Tryd.prog v1 = .ok (.agg ib) v1 from by have h1 := ld_idB v1 q id L32.out (by rw [← HIB.out]; exact hq5.out); rw [← HIB.out] at h1; exact h1)
                have hg5 := hid (cs_get C5.out (by have := hp1.out; omega) (by have := hp1.out; omega) id L32.out)
                rw [← HIB.out] at hg5
                clear hH0 hH1 k1 m5 c5 hl1 hpt heq lq4 lb4 sz4 hq4 hop4 TM4 C4
                go_wp2_with (refine wpList_ldv rfl 34 (.tmp 9) rfl ⟨q, 0, none⟩ rfl (.agg ib) LD5.out ?_; refine halt ?_)
                refine Halt.mk ?_
                go_wp2_with fail
                refine hg5.out.mono ?_
                rintro e YF ⟨v, UF, rfl, k6, m6, c6, ha⟩
                have CF := hid c6
                have hop6 := hid (k6.at hop5.out hU5.out.2.1)
                have TMF := hid (TM5.out.kept k6 hU5.out.2.2)
                have HMF := hid (show mb ∉ UF from fun h => by
                  rcases m6.1 _ h with h | h
                  · exact hU5.out.2.2 h
                  · have h1 : mb < v1.heap.size := by obtain ⟨D, hD⟩ := TM5.out; exact hD.lt
                    omega)
                obtain ⟨lF, hlF⟩ : ∃ lF, lF = getL id l1 := ⟨_, rfl⟩
                have hgs := getL_size id l1
                rw [← hlF] at hgs CF
                have HZF := hid (show (szD lF : Int) ≤ lm from by have := hp1.out; omega)
                have HLF := hid (show lF.length ≤ i + 1 from by have := hp1.out; omega)
                have HSF := hid (show szD lF ≤ 100 * (i + 1) from by have := hp1.out; omega)
                have b6 : YF.cell? ⟨ob, 2, none⟩ = some (.slice oa k oc) := by rw [cell_of_row _ _ 2 _ _ _ hop6.out]; rfl
                have hml := HLM.out
                have hfit := hgp.out
                clear k6 m6 c6 hg5 LD5 hlF hgs C5 hq5 hop5 TM5 hU5
                by_cases hkl : (k : Int) ≤ lm
                · rw [if_pos (by have := HK.out; omega)] at hfit
                  rw [hfit] at ha ⊢
                  have OG := Out.of ha
                  obtain ⟨ga1, gc1, rfl⟩ : ∃ a c, v = .slice a bs.length c := by obtain ⟨base, h1⟩ := OG.row; obtain ⟨a, c, e⟩ := owns_slice h1; exact ⟨a, c, e⟩
                  have hsame := hid (same_deck ga1 oa gc1 oc bs bs YF (OG.src rfl) (hsv.out YF CF.out.kept))
                  simp only [decide_true] at hsame
                  rw [← HK.out] at hsame ⊢
                  simp only [Option.isSome_some]
                  clear ha hfit OG
                  go_upto_region 24 with fail
                  go_cut [104] (fun s wx => s = .bool false ∧ YF = wx)
                  case first =>
                    rcases Int.lt_trichotomy lim 0 with hs | hs | hs
                    · obtain rfl : k = 0 := by omega
                      go_wp2_with fail
                      refine hsame.out.mono ?_
                      rintro e y ⟨rfl, rfl⟩
                      go_wp2_with fail
                      go_meet
                      exact ⟨rfl, rfl⟩
                    · subst hs
                      obtain rfl : k = 0 := by omega
                      go_wp2_with fail
                      refine hsame.out.mono ?_
                      rintro e y ⟨rfl, rfl⟩
                      go_wp2_with fail
                      go_meet
                      exact ⟨rfl, rfl⟩
                    · have f0 : decide ((k : Int) ≤ lim) = true := decide_eq_true (by omega)
                      go_wp2_with fail
                      refine hsame.out.mono ?_
                      rintro e y ⟨rfl, rfl⟩
                      go_wp2_with fail
                      go_meet
                      exact ⟨rfl, rfl⟩
                  case rest =>
                    obtain ⟨rfl, rfl⟩ := hcut
                    clear hml hkl hsame b6
                    have hz := hid HZF.out
                    obtain ⟨z, hze⟩ : ∃ z, z = szD lF := ⟨_, rfl⟩
                    have hsi := hid (cs_size CF.out)
                    have hle := hid (cs_len CF.out)
                    have hal9 := hid (cs_all CF.out (by have := HLF.out; omega) 1000 (by decide) (by decide))
                    have htk : (lF.map (·.1)).take 1000 = lF.map (·.1) := List.take_of_length_le (by have h1 := HLF.out; simp; omega)
                    rw [htk, List.length_map] at hal9
                    obtain ⟨nl, hnl⟩ : ∃ nl, nl = lF.length := ⟨_, rfl⟩
                    rw [← hze] at hsi
                    rw [← hnl] at hle hal9
                    have hzl : (z : Int) ≤ lm := by rw [hze]; exact hz.out
                    have hml := HLM.out
                    clear htk hz hze
                    go_upto_region 28 with fail
                    go_cut [124] (fun s wx => s = .bool false ∧ Hid (Kept [] YF wx))
                    case first =>
                      go_wp2_with fail
                      refine hsi.out.mono ?_
                      rintro e y ⟨rfl, rfl⟩
                      rcases Int.lt_trichotomy lim 0 with hs | hs | hs
                      · have f0 : decide ((0 : Int) < (z : Int)) = false := decide_eq_false (by omega)
                        go_wp2_with fail
                        refine hle.out.mono ?_
                        rintro e y ⟨rfl, rfl⟩
                        go_wp2_with fail
                        refine hal9.out.mono ?_
                        rintro e y ⟨aa, ac, rfl, ka, _⟩
                        go_wp2_with fail
                        go_meet
                        exact ⟨rfl, hid ka⟩
                      · subst hs
                        have f0 : decide ((0 : Int) < (z : Int)) = false := decide_eq_false (by omega)
                        go_wp2_with fail
                        refine hle.out.mono ?_
                        rintro e y ⟨rfl, rfl⟩
                        go_wp2_with fail
                        refine hal9.out.mono ?_
                        rintro e y ⟨aa, ac, rfl, ka, _⟩
                        go_wp2_with fail
                        go_meet
                        exact ⟨rfl, hid ka⟩
                      · have f0 : decide (lim < (z : Int)) = false := decide_eq_false (by omega)
                        go_wp2_with fail
                        refine hle.out.mono ?_
                        rintro e y ⟨rfl, rfl⟩
                        go_wp2_with fail
                        refine hal9.out.mono ?_
                        rintro e y ⟨aa, ac, rfl, ka, _⟩
                        go_wp2_with fail
                        go_meet
                        exact ⟨rfl, hid ka⟩
                    case rest =>
                      obtain ⟨rfl, hkf⟩ := hcut
                      go_wp2
                      go_roundw
                      case rel => exact ⟨i + 1, HLT.out, by go_num, hid ⟨⟨UF, lF, CF.out.keep0 hkf.out, HZF.out, HLF.out, HSF.out, HMF.out⟩, TMF.out.kept hkf.out (by simp), hkw.out.mw⟩⟩
                      case measure => simp [intOf]; omega
                · rw [if_neg (by have := HK.out; omega)] at hfit
                  rw [hfit] at ha ⊢
                  have ha : v = .slice none 0 0 := ha
                  subst ha
                  simp only [Option.isSome_none]
                  clear hfit
                  go_upto_region 24 with fail
                  go_cut [104] (fun s wx => s = .bool false ∧ YF = wx)
                  case first =>
                    rcases Int.lt_trichotomy lim 0 with hs | hs | hs
                    · have f0 : decide ((k : Int) ≤ 0) = false := decide_eq_false (by omega)
                      go_wp2_with fail
                      go_meet
                      exact ⟨rfl, rfl⟩
                    · subst hs
                      have f0 : decide ((k : Int) ≤ 0) = false := decide_eq_false (by omega)
                      go_wp2_with fail
                      go_meet
                      exact ⟨rfl, rfl⟩
                    · have f0 : decide ((k : Int) ≤ lim) = false := decide_eq_false (by omega)
                      go_wp2_with fail
                      go_meet
                      exact ⟨rfl, rfl⟩
                  case rest =>
                    obtain ⟨rfl, rfl⟩ := hcut
                    clear hml hkl b6
                    have hz := hid HZF.out
                    obtain ⟨z, hze⟩ : ∃ z, z = szD lF := ⟨_, rfl⟩
                    have hsi := hid (cs_size CF.out)
                    have hle := hid (cs_len CF.out)
                    have hal9 := hid (cs_all CF.out (by have := HLF.out; omega) 1000 (by decide) (by decide))
                    have htk : (lF.map (·.1)).take 1000 = lF.map (·.1) := List.take_of_length_le (by have h1 := HLF.out; simp; omega)
                    rw [htk, List.length_map] at hal9
                    obtain ⟨nl, hnl⟩ : ∃ nl, nl = lF.length := ⟨_, rfl⟩
                    rw [← hze] at hsi
                    rw [← hnl] at hle hal9
                    have hzl : (z : Int) ≤ lm := by rw [hze]; exact hz.out
                    have hml := HLM.out
                    clear htk hz hze
                    go_upto_region 28 with fail
                    go_cut [124] (fun s wx => s = .bool false ∧ Hid (Kept [] YF wx))
                    case first =>
                      go_wp2_with fail
                      refine hsi.out.mono ?_
                      rintro e y ⟨rfl, rfl⟩
                      rcases Int.lt_trichotomy lim 0 with hs | hs | hs
                      · have f0 : decide ((0 : Int) < (z : Int)) = false := decide_eq_false (by omega)
                        go_wp2_with fail
                        refine hle.out.mono ?_
                        rintro e y ⟨rfl, rfl⟩
                        go_wp2_with fail
                        refine hal9.out.mono ?_
                        rintro e y ⟨aa, ac, rfl, ka, _⟩
                        go_wp2_with fail
                        go_meet
                        exact ⟨rfl, hid ka⟩
                      · subst hs
                        have f0 : decide ((0 : Int) < (z : Int)) = false := decide_eq_false (by omega)
                        go_wp2_with fail
                        refine hle.out.mono ?_
                        rintro e y ⟨rfl, rfl⟩
                        go_wp2_with fail
                        refine hal9.out.mono ?_
                        rintro e y ⟨aa, ac, rfl, ka, _⟩
                        go_wp2_with fail
                        go_meet
                        exact ⟨rfl, hid ka⟩
                      · have f0 : decide (lim < (z : Int)) = false := decide_eq_false (by omega)
                        go_wp2_with fail
                        refine hle.out.mono ?_
                        rintro e y ⟨rfl, rfl⟩
                        go_wp2_with fail
                        refine hal9.out.mono ?_
                        rintro e y ⟨aa, ac, rfl, ka, _⟩
                        go_wp2_with fail
                        go_meet
                        exact ⟨rfl, hid ka⟩
                    case rest =>
                      obtain ⟨rfl, hkf⟩ := hcut
                      go_wp2
                      go_roundw
                      case rel => exact ⟨i + 1, HLT.out, by go_num, hid ⟨⟨UF, lF, CF.out.keep0 hkf.out, HZF.out, HLF.out, HSF.out, HMF.out⟩, TMF.out.kept hkf.out (by simp), hkw.out.mw⟩⟩
                      case measure => simp [intOf]; omega
              · have e1 : (K == 1) = false := by simpa using hK1
                by_cases hK4 : K = 4
                · subst hK4
                  have lq := hid (lq4.out W4 (Kept.refl U W4))
                  have hsp := hid (cs_spoil C4.out hsl.out.1 id L32.out B1 HB.out.1 HB.out.2)
                  rw [← HIB.out] at hsp
                  have hss := hid (spoil_size id B1 l)
                  go_wp2_with (refine wpList_ldv rfl 34 (.tmp 9) rfl ⟨q, 0, none⟩ rfl (.agg ib) lq.out ?_; refine halt ?_)
                  refine Halt.mk ?_
                  go_wp2_with fail
                  refine hsp.out.mono ?_
                  rintro e YF ⟨rfl, k6, c6⟩
                  have CF := hid c6
                  obtain ⟨lF, hlF⟩ : ∃ lF, lF = (spoilL id B1 l).getD l := ⟨_, rfl⟩
                  rw [← hlF] at CF
                  have hss := hss.out
                  rw [← hlF] at hss
                  have TMF := hid (TM4.out.kept k6 HMU.out)
                  obtain ⟨UF, hUF⟩ : ∃ UF, UF = U := ⟨_, rfl⟩
                  rw [← hUF] at CF
                  have HMF := hid (show mb ∉ UF from by rw [hUF]; exact HMU.out)
                  have HZF := hid (show (szD lF : Int) ≤ lm from by have := HSZ.out; omega)
                  have HLF := hid (show lF.length ≤ i + 1 from by have := HLL.out; omega)
                  have HSF := hid (show szD lF ≤ 100 * (i + 1) from by have := HS.out; omega)
                  clear k6 c6 hsp lq lq4 lb4 hlF hss hUF htx hput b0 kk0 kk1 TM4 C4 hsl
                  have hz := hid HZF.out
                  obtain ⟨z, hze⟩ : ∃ z, z = szD lF := ⟨_, rfl⟩
                  have hsi := hid (cs_size CF.out)
                  have hle := hid (cs_len CF.out)
                  have hal9 := hid (cs_all CF.out (by have := HLF.out; omega) 1000 (by decide) (by decide))
                  have htk : (lF.map (·.1)).take 1000 = lF.map (·.1) := List.take_of_length_le (by have h1 := HLF.out; simp; omega)
                  rw [htk, List.length_map] at hal9
                  obtain ⟨nl, hnl⟩ : ∃ nl, nl = lF.length := ⟨_, rfl⟩
                  rw [← hze] at hsi
                  rw [← hnl] at hle hal9
                  have hzl : (z : Int) ≤ lm := by rw [hze]; exact hz.out
                  have hml := HLM.out
                  clear htk hz hze
                  go_upto_region 28 with fail
                  go_cut [124] (fun s wx => s = .bool false ∧ Hid (Kept [] YF wx))
                  case first =>
                    go_wp2_with fail
                    refine hsi.out.mono ?_
                    rintro e y ⟨rfl, rfl⟩
                    rcases Int.lt_trichotomy lim 0 with hs | hs | hs
                    · have f0 : decide ((0 : Int) < (z : Int)) = false := decide_eq_false (by omega)
                      go_wp2_with fail
                      refine hle.out.mono ?_
                      rintro e y ⟨rfl, rfl⟩
                      go_wp2_with fail
                      refine hal9.out.mono ?_
                      rintro e y ⟨aa, ac, rfl, ka, _⟩
                      go_wp2_with fail
                      go_meet
                      exact ⟨rfl, hid ka⟩
                    · subst hs
                      have f0 : decide ((0 : Int) < (z : Int)) = false := decide_eq_false (by omega)
                      go_wp2_with fail
                      refine hle.out.mono ?_
                      rintro e y ⟨rfl, rfl⟩
                      go_wp2_with fail
                      refine hal9.out.mono ?_
                      rintro e y ⟨aa, ac, rfl, ka, _⟩
                      go_wp2_with fail
                      go_meet
                      exact ⟨rfl, hid ka⟩
                    · have f0 : decide (lim < (z : Int)) = false := decide_eq_false (by omega)
                      go_wp2_with fail
                      refine hle.out.mono ?_
                      rintro e y ⟨rfl, rfl⟩
                      go_wp2_with fail
                      refine hal9.out.mono ?_
                      rintro e y ⟨aa, ac, rfl, ka, _⟩
                      go_wp2_with fail
                      go_meet
                      exact ⟨rfl, hid ka⟩
                  case rest =>
                    obtain ⟨rfl, hkf⟩ := hcut
                    go_wp2
                    go_roundw
                    case rel => exact ⟨i + 1, HLT.out, by go_num, hid ⟨⟨UF, lF, CF.out.keep0 hkf.out, HZF.out, HLF.out, HSF.out, HMF.out⟩, TMF.out.kept hkf.out (by simp), hkw.out.mw⟩⟩
                    case measure => simp [intOf]; omega
                · have e4 : (K == 4) = false := by simpa using hK4
                  have lq := hid (lq4.out W4 (Kept.refl U W4))
                  have hg5 := hid (cs_get C4.out hsl.out.1 hsl.out.2 id L32.out)
                  rw [← HIB.out] at hg5
                  go_wp2_with (refine wpList_ldv rfl 34 (.tmp 9) rfl ⟨q, 0, none⟩ rfl (.agg ib) lq.out ?_; refine halt ?_)
                  refine Halt.mk ?_
                  go_wp2_with fail
                  refine hg5.out.mono ?_
                  rintro e YF ⟨v, UF, rfl, k6, m6, c6, ha⟩
                  have CF := hid c6
                  have hop6 := hid (k6.at hop4.out hqx.out.2.1)
                  have hq6 := hid (k6.at hq4.out hqx.out.1)
                  have TMF := hid (TM4.out.kept k6 HMU.out)
                  have HMF := hid (show mb ∉ UF from fun h => by
                    rcases m6.1 _ h with h | h
                    · exact HMU.out h
                    · have h1 := hm4.out
                      omega)
                  obtain ⟨lF, hlF⟩ : ∃ lF, lF = getL id l := ⟨_, rfl⟩
                  have hgs := getL_size id l
                  rw [← hlF] at hgs CF
                  have HZF := hid (show (szD lF : Int) ≤ lm from by have := HSZ.out; omega)
                  have HLF := hid (show lF.length ≤ i + 1 from by have := HLL.out; omega)
                  have HSF := hid (show szD lF ≤ 100 * (i + 1) from by have := HS.out; omega)
                  have b6 : YF.cell? ⟨ob, 2, none⟩ = some (.slice oa k oc) := by rw [cell_of_row _ _ 2 _ _ _ hop6.out]; rfl
                  obtain ⟨gv, hgv⟩ : ∃ g, g = getO id l := ⟨_, rfl⟩
                  rw [← hgv] at ha ⊢
                  have HGV := hid hgv
                  clear k6 m6 c6 hg5 lq lq4 lb4 hlF hgs TM4 C4 hsl htx hput b0 kk0 kk1 hgv
                  cases gv with
                  | none =>
                    have ha : v = .slice none 0 0 := ha
                    subst ha
                    simp only [Option.isSome_none]
                    go_upto_region 17 with fail
                    go_cut [67] (fun s wx => s = .bool false ∧ YF = wx)
                    case first =>
                      go_wp2_with fail
                      go_meet
                      exact ⟨rfl, rfl⟩
                    case rest =>
                      obtain ⟨rfl, rfl⟩ := hcut
                      clear b6
                      have hz := hid HZF.out
                      obtain ⟨z, hze⟩ : ∃ z, z = szD lF := ⟨_, rfl⟩
                      have hsi := hid (cs_size CF.out)
                      have hle := hid (cs_len CF.out)
                      have hal9 := hid (cs_all CF.out (by have := HLF.out; omega) 1000 (by decide) (by decide))
                      have htk : (lF.map (·.1)).take 1000 = lF.map (·.1) := List.take_of_length_le (by have h1 := HLF.out; simp; omega)
                      rw [htk, List.length_map] at hal9
                      obtain ⟨nl, hnl⟩ : ∃ nl, nl = lF.length := ⟨_, rfl⟩
                      rw [← hze] at hsi
                      rw [← hnl] at hle hal9
                      have hzl : (z : Int) ≤ lm := by rw [hze]; exact hz.out
                      have hml := HLM.out
                      clear htk hz hze
                      go_upto_region 28 with fail
                      go_cut [124] (fun s wx => s = .bool false ∧ Hid (Kept [] YF wx))
                      case first =>
                        go_wp2_with fail
                        refine hsi.out.mono ?_
                        rintro e y ⟨rfl, rfl⟩
                        rcases Int.lt_trichotomy lim 0 with hs | hs | hs
                        · have f0 : decide ((0 : Int) < (z : Int)) = false := decide_eq_false (by omega)
                          go_wp2_with fail
                          refine hle.out.mono ?_
                          rintro e y ⟨rfl, rfl⟩
                          go_wp2_with fail
                          refine hal9.out.mono ?_
                          rintro e y ⟨aa, ac, rfl, ka, _⟩
                          go_wp2_with fail
                          go_meet
                          exact ⟨rfl, hid ka⟩
                        · subst hs
                          have f0 : decide ((0 : Int) < (z : Int)) = false := decide_eq_false (by omega)
                          go_wp2_with fail
                          refine hle.out.mono ?_
                          rintro e y ⟨rfl, rfl⟩
                          go_wp2_with fail
                          refine hal9.out.mono ?_
                          rintro e y ⟨aa, ac, rfl, ka, _⟩
                          go_wp2_with fail
                          go_meet
                          exact ⟨rfl, hid ka⟩
                        · have f0 : decide (lim < (z : Int)) = false := decide_eq_false (by omega)
                          go_wp2_with fail
                          refine hle.out.mono ?_
                          rintro e y ⟨rfl, rfl⟩
                          go_wp2_with fail
                          refine hal9.out.mono ?_
                          rintro e y ⟨aa, ac, rfl, ka, _⟩
                          go_wp2_with fail
                          go_meet
                          exact ⟨rfl, hid ka⟩
                      case rest =>
                        obtain ⟨rfl, hkf⟩ := hcut
                        go_wp2
                        go_roundw
                        case rel => exact ⟨i + 1, HLT.out, by go_num, hid ⟨⟨UF, lF, CF.out.keep0 hkf.out, HZF.out, HLF.out, HSF.out, HMF.out⟩, TMF.out.kept hkf.out (by simp), hkw.out.mw⟩⟩
                        case measure => simp [intOf]; omega
                  | some xs =>
                    have OG := Out.of ha
                    obtain ⟨ga1, gc1, rfl⟩ : ∃ a c, v = .slice a xs.length c := by obtain ⟨base, h1⟩ := OG.row; obtain ⟨a, c, e⟩ := owns_slice h1; exact ⟨a, c, e⟩
                    have hsame := hid (same_deck ga1 oa gc1 oc xs bs YF (OG.src rfl) (hsv.out YF CF.out.kept))
                    rw [← HK.out] at hsame
                    simp only [Option.isSome_some]
                    go_upto_region 17 with fail
                    go_cut [67] (fun s wx => s = .bool (!decide (xs = bs)) ∧ YF = wx)
                    case first =>
                      go_wp2_with fail
                      refine hsame.out.mono ?_
                      rintro e y ⟨rfl, rfl⟩
                      go_wp2_with fail
                      go_meet
                      exact ⟨rfl, rfl⟩
                    case rest =>
                      obtain ⟨rfl, rfl⟩ := hcut
                      by_cases hxb : xs = bs
                      · simp only [hxb, decide_true, Bool.not_true]
                        clear b6 OG ha hsame hxb
                        have hz := hid HZF.out
                        obtain ⟨z, hze⟩ : ∃ z, z = szD lF := ⟨_, rfl⟩
                        have hsi := hid (cs_size CF.out)
                        have hle := hid (cs_len CF.out)
                        have hal9 := hid (cs_all CF.out (by have := HLF.out; omega) 1000 (by decide) (by decide))
                        have htk : (lF.map (·.1)).take 1000 = lF.map (·.1) := List.take_of_length_le (by have h1 := HLF.out; simp; omega)
                        rw [htk, List.length_map] at hal9
                        obtain ⟨nl, hnl⟩ : ∃ nl, nl = lF.length := ⟨_, rfl⟩
                        rw [← hze] at hsi
                        rw [← hnl] at hle hal9
                        have hzl : (z : Int) ≤ lm := by rw [hze]; exact hz.out
                        have hml := HLM.out
                        clear htk hz hze
                        go_upto_region 28 with fail
                        go_cut [124] (fun s wx => s = .bool false ∧ Hid (Kept [] YF wx))
                        case first =>
                          go_wp2_with fail
                          refine hsi.out.mono ?_
                          rintro e y ⟨rfl, rfl⟩
                          rcases Int.lt_trichotomy lim 0 with hs | hs | hs
                          · have f0 : decide ((0 : Int) < (z : Int)) = false := decide_eq_false (by omega)
                            go_wp2_with fail
                            refine hle.out.mono ?_
                            rintro e y ⟨rfl, rfl⟩
                            go_wp2_with fail
                            refine hal9.out.mono ?_
                            rintro e y ⟨aa, ac, rfl, ka, _⟩
                            go_wp2_with fail
                            go_meet
                            exact ⟨rfl, hid ka⟩
                          · subst hs
                            have f0 : decide ((0 : Int) < (z : Int)) = false := decide_eq_false (by omega)
                            go_wp2_with fail
                            refine hle.out.mono ?_
                            rintro e y ⟨rfl, rfl⟩
                            go_wp2_with fail
                            refine hal9.out.mono ?_
                            rintro e y ⟨aa, ac, rfl, ka, _⟩
                            go_wp2_with fail
                            go_meet
                            exact ⟨rfl, hid ka⟩
                          · have f0 : decide (lim < (z : Int)) = false := decide_eq_false (by omega)
                            go_wp2_with fail
                            refine hle.out.mono ?_
                            rintro e y ⟨rfl, rfl⟩
                            go_wp2_with fail
                            refine hal9.out.mono ?_
                            rintro e y ⟨aa, ac, rfl, ka, _⟩
                            go_wp2_with fail
                            go_meet
                            exact ⟨rfl, hid ka⟩
                        case rest =>
                          obtain ⟨rfl, hkf⟩ := hcut
                          go_wp2
                          go_roundw
                          case rel => exact ⟨i + 1, HLT.out, by go_num, hid ⟨⟨UF, lF, CF.out.keep0 hkf.out, HZF.out, HLF.out, HSF.out, HMF.out⟩, TMF.out.kept hkf.out (by simp), hkw.out.mw⟩⟩
                          case measure => simp [intOf]; omega
                      · simp only [hxb, decide_false, Bool.not_false]
                        clear hsame ha b6
                        have hgo := hid (getO_find HGV.out.symm)
                        have hxl := hid (show xs.length ≤ 1000000 from by have h1 := (find_drop hgo.out.1).1; have := HS.out; omega)
                        have ldx := hid (fun v (hv : Kept [] YF v) => (show (loadVar 34 ⟨q, 0, none⟩).run Tryd.prog v = .ok (.agg ib) v from by have h1 := ld_idB v q id L32.out (by rw [← HIB.out]; exact hv.at hq6.out (by simp)); rw [← HIB.out] at h1; exact h1))
                        have hof := hid (fun v (hv : Kept [] YF v) => (show Calls Tryd.prog 11 #[.slice ga1 xs.length gc1] v fun e w' => e = .returned (.agg ib) ∧ Kept [] v w' from by
                          obtain ⟨base, h1⟩ := OG.row
                          have h2 := reads_row (hv.owns h1 (by simp))
                          have h3 := refof_sum ga1 gc1 xs v h2.1 h2.2.2.2.2 hxl.out
                          rw [hgo.out.2, ← HIB.out] at h3
                          exact h3))
                        have heq := hid (show ∀ v : World, (Op.equalIn 10000 34 (.agg ib) (.agg ib)).run Tryd.prog v = .ok true v from fun v => by rw [HIB.out, id_equal _ _ L32.out L32.out v]; simp)
                        clear OG
                        go_upto_region 18 with fail
                        have hH0 : Kept [] YF YF.drew := (Kept.refl [] YF).drew
                        refine wp_region_held_drew (S := fun v => Kept [] YF v) (by kernel_rfl) hH0 (fun hH => ?_)
                        refine takeH 0 (.slice ga1 xs.length gc1) rfl (by kernel_rfl) (by kernel_rfl) (by kernel_rfl) (fun _ _ _ h => h) (by rfl) (fun v hv => by go_simp) hH ?_
                        simp only [Act.put, List.setIfInBounds_toArray, List.set_cons_succ, List.set_cons_zero]
                        refine takeH 2 (.agg ib) rfl (by kernel_rfl) (by kernel_rfl) (by kernel_rfl) (fun _ _ _ h => h) (by rfl) (fun v hv => by have h := ldx.out v hv; unfold execOp; simp [Instr.loadAt, Instr.sureAddr, Sem.run_bind, Sem.run_pure, Result.andThen_ok, Act.eval, h]) hH ?_
                        simp only [Act.put, List.setIfInBounds_toArray, List.set_cons_succ, List.set_cons_zero]
                        refine callR 1 rfl (by kernel_rfl) (by rfl) 11 #[.slice ga1 xs.length gc1] (by go_simp) (.agg ib) (fun v => Kept [] YF.drew v) (fun v h => hH0.trans h) (hof.out _ hH0) ?_
                        rintro v7 k7
                        simp only [Act.put, List.setIfInBounds_toArray, List.set_cons_succ, List.set_cons_zero]
                        have hH7 : Kept [] YF v7 := hH0.trans k7
                        refine takeH 3 (.bool true) rfl (by kernel_rfl) (by kernel_rfl) (by kernel_rfl) (fun _ _ _ h => h) (by rfl) (fun v hv => by have h := heq.out v; go_simp) hH7 ?_
                        simp only [Act.put, List.setIfInBounds_toArray, List.set_cons_succ, List.set_cons_zero]
                        refine takeH 4 (.bool true) rfl (by kernel_rfl) (by kernel_rfl) (by kernel_rfl) (fun _ _ _ h => h) (by rfl) (fun v hv => by go_simp) hH7 ?_
                        simp only [Act.put, List.setIfInBounds_toArray, List.set_cons_succ, List.set_cons_zero]
                        refine wpAnyH_done (by kernel_rfl) ?_ _
                        have H7 := hid hH7
                        clear hH7 k7 hH hH0 hof heq ldx
                        go_wp2
                        go_ret
                        exact ⟨rfl, CF.out.kept.trans H7.out⟩
          · go_wp2
            go_ret
            exact ⟨rfl, C3.out.kept⟩
      · go_wp2
        go_ret
        exact ⟨rfl, HCS.out.kept⟩
  · rw [decide_eq_false hfew] at hfw
    clear hfew hn
    go_enter Tryd.func4, Tryd.ntmps4
    go_wp2_with fail
    refine hal.out.mono ?_
    rintro e w1 ⟨rfl, k1⟩
    have hfw1 := hid (hfw.out w1 k1)
    have K1 := hid k1
    clear k1 hal hfw
    go_wp2_with fail
    refine hfw1.out.mono ?_
    rintro e w2 ⟨rfl, k2⟩
    go_wp2
    go_ret
    exact ⟨rfl, K1.out.trans k2⟩
end Go.Proofs.YtfefpblneihmgaaDoor
