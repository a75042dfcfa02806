
/- ColdJobs. -/
import Derived.Test.YtnkolgamnakegaaYF
namespace Go.Proofs.Ytnkolgamnakegaa
open Go.RowKit Go.Lib Go.Maps

def JI (w2 wr : World) (p hb : Nat) (q jobs life least : Int) (i : Nat) (now : Int) : Prop := ∃ Z es ss fl k, JS w2 wr Z p hb q es ss fl k jobs life least i i now
set_option maxRecDepth 100000 in
set_option maxHeartbeats 8000000 in
theorem cold_jobs (q jobs fuse life least : Int) (fa : Option Addr) (fc : Nat) (fl0 : List Bool) (a0 : Option Addr) (c0 : Nat) (ops : List OpC) (w : World)
    (hq1 : -9223372036854775808 ≤ q) (hq2 : q ≤ 9223372036854775807) (hfl : Src w (.slice fa fl0.length fc) fl0.length (fl0.map .bool)) (hfll : fl0.length ≤ 9223372036854775807)
    (h : IsStepsC w a0 ops) (hm : ops.length ≤ 9223372036854775807) :
    Calls Try.prog 4 #[.agg #[.int .i64 q, .int .i64 jobs, .int .i64 fuse, .int .i64 life, .int .i64 least, .slice fa fl0.length fc], .slice a0 ops.length c0] w fun e w' => e = .returned (.bool true) ∧ Kept [] w w' := by
  obtain ⟨W0, hW0⟩ : ∃ W0, W0 = w.alloc (.cells #[.int .i64 q, .int .i64 jobs, .int .i64 fuse, .int .i64 life, .int .i64 least, .slice fa fl0.length fc] 50) := ⟨_, rfl⟩
  have HW0 := hid hW0
  have k0 := hid (show Kept [] w W0 from hW0 ▸ (Kept.refl [] w).alloc _)
  obtain ⟨bx, hbx⟩ : ∃ bx, bx = w.heap.size := ⟨_, rfl⟩
  have HBE := hid hbx
  have hbx0 := hid (show W0.heap[bx]? = some (.cells #[.int .i64 q, .int .i64 jobs, .int .i64 fuse, .int .i64 life, .int .i64 least, .slice fa fl0.length fc] 50 (0, 0)) from by rw [hW0, hbx]; exact heap_alloc_at rfl)
  have HBC := hid (fun X (hX : Kept [] W0 X) => And.intro (show X.cell? ⟨bx, 0, none⟩ = some (.int .i64 q) from by rw [cell_of_row _ _ 0 _ _ _ (hX.at hbx0.out (by simp))]; rfl) (And.intro (show X.cell? ⟨bx, 1, none⟩ = some (.int .i64 jobs) from by rw [cell_of_row _ _ 1 _ _ _ (hX.at hbx0.out (by simp))]; rfl)
    (And.intro (show X.cell? ⟨bx, 3, none⟩ = some (.int .i64 life) from by rw [cell_of_row _ _ 3 _ _ _ (hX.at hbx0.out (by simp))]; rfl) (And.intro (show X.cell? ⟨bx, 4, none⟩ = some (.int .i64 least) from by rw [cell_of_row _ _ 4 _ _ _ (hX.at hbx0.out (by simp))]; rfl)
    (show X.cell? ⟨bx, 5, none⟩ = some (.slice fa fl0.length fc) from by rw [cell_of_row _ _ 5 _ _ _ (hX.at hbx0.out (by simp))]; rfl)))))
  have hal := hid (alive07 W0)
  have H := hid h; have HFL := hid hfl
  obtain ⟨n, hn⟩ : ∃ n, n = ops.length := ⟨_, rfl⟩
  obtain ⟨nf, hnf⟩ : ∃ nf, nf = fl0.length := ⟨_, rfl⟩
  have HN := hid hn; have HNF := hid hnf
  have hst0 : ∀ W, Kept [] w W → IsStepsC W a0 ops := fun W hk => ⟨h.1, fun x hx i o ho => by
    obtain ⟨c0, c1, c2, c3, c4, c5, hsrc, r⟩ := h.2 x hx i o ho
    exact ⟨(hk.cell (World.block_lt_of_cell? w _ c0) (by simp)).trans c0, (hk.cell (World.block_lt_of_cell? w _ c1) (by simp)).trans c1, (hk.cell (World.block_lt_of_cell? w _ c2) (by simp)).trans c2, (hk.cell (World.block_lt_of_cell? w _ c3) (by simp)).trans c3, (hk.cell (World.block_lt_of_cell? w _ c4) (by simp)).trans c4, (hk.cell (World.block_lt_of_cell? w _ c5) (by simp)).trans c5, hsrc.kept hk (by simp), r⟩⟩
  have HST0 := hid hst0
  rw [← hn, ← hnf]
  rw [← hn] at hm
  rw [← hnf] at hfll HBC hbx0 HW0
  clear h hfl hn hnf hst0 hW0 hbx
  go_enter Try.func4, Try.ntmps4
  go_wp2_with fail
  rw [← HW0.out, ← HBE.out]
  refine hal.out.mono ?_
  rintro e w1 ⟨rfl, k1⟩
  have K1 := hid (k0.out.trans k1)
  have K01 := hid k1
  have hfew := hid (few07 a0 c0 ops w1 (HST0.out w1 K1.out) (by rw [← HN.out]; exact hm))
  rw [← HN.out] at hfew
  clear hal k1
  by_cases hF : FewC ops
  · rw [decide_eq_true hF] at hfew
    have HF := hid hF
    clear hF
    go_wp2_with fail
    refine hfew.out.mono ?_
    rintro e w2 ⟨rfl, k2⟩
    have K2 := hid (K1.out.trans k2)
    have K02 := hid (K01.out.trans k2)
    obtain ⟨b0, b1, b3, b4, b5⟩ := HBC.out w2 K02.out
    clear k2 hfew
    by_cases hf60 : (60 : Int) < (nf : Int)
    · go_wp2
      go_ret
      exact ⟨rfl, K2.out⟩
    · have hrt := hid (right07 q jobs life least w2)
      have hnf : nf ≤ 60 := by omega
      by_cases hR : RightC q jobs life least
      · rw [decide_eq_true hR] at hrt
        have hnew := hid (cw_new q jobs life least w2 hR.1 hq2 hR.2.1 hR.2.2.1 hR.2.2.2.1 hR.2.2.2.2.1 hR.2.2.2.2.2.1 hR.2.2.2.2.2.2)
        have hj1 := hR.2.1
        clear hR
        go_wp2_with fail
        refine hrt.out.mono ?_
        rintro e w3 ⟨rfl, rfl⟩
        go_wp2_with fail
        refine hnew.out.mono ?_
        rintro e v3 ⟨p, rfl, c3⟩
        have C3 := hid c3
        have hkd := hid (show Kept [] v3 v3.drew from (Kept.refl [] v3).drew)
        have HBX := hid (fun X (hX : Kept [] w2 X) => (HBC.out X (K02.out.trans hX)).2)
        have har := hid (cw_arm_src (C3.out.keep hkd.out (by simp)) fa nf fc fl0 HNF.out (fun X hX => by
          have hx := ((K2.out.trans c3.kept).trans hkd.out).trans' hX (fun x hx hm => by simp at hm; subst hm; exfalso; have := (c3.low x (by simp)).1; have := K2.out.size; omega)
          rw [HNF.out]
          rcases HFL.out with g | ⟨y, c, g1, g2⟩
          · exact Or.inl g
          · exact Or.inr ⟨y, c, g1, fun j u hj => by
              have := g2 j u hj
              exact (hx.cell (World.block_lt_of_cell? w _ this) (by simp)).trans this⟩) (by have := HNF.out; omega))
        clear hrt hnew c3 b0 b1 b3 b4 b5 hf60
        go_wp2_with fail
        have hH0 : v3.drew.cell? ⟨bx, 5, none⟩ = some (.slice fa nf fc) := (HBX.out _ (C3.out.kept.trans hkd.out)).2.2.2
        refine wp_region_held_drew (S := fun v => v.cell? ⟨bx, 5, none⟩ = some (.slice fa nf fc)) (by kernel_rfl) hH0 (fun hH => ?_)
        refine takeH 0 (.pointer (some ⟨p, 0, none⟩)) rfl (by kernel_rfl) (by kernel_rfl) (by kernel_rfl) (fun _ _ _ h => h) (by rfl) (fun v hv => by go_simp) hH ?_
        simp only [Act.put, List.setIfInBounds_toArray, List.set_cons_succ, List.set_cons_zero]
        refine takeH 1 (.pointer (some ⟨p, 0, none⟩)) rfl (by kernel_rfl) (by kernel_rfl) (by kernel_rfl) (fun _ _ _ h => h) (by rfl) (fun v hv => by go_simp) hH ?_
        simp only [Act.put, List.setIfInBounds_toArray, List.set_cons_succ, List.set_cons_zero]
        refine takeH 2 (.pointer (some ⟨p, 0, none⟩)) rfl (by kernel_rfl) (by kernel_rfl) (by kernel_rfl) (fun _ _ _ h => h) (by rfl) (fun v hv => by go_simp) hH ?_
        simp only [Act.put, List.setIfInBounds_toArray, List.set_cons_succ, List.set_cons_zero]
        refine takeH 3 (.pointer (some ⟨bx, 5, none⟩)) rfl (by kernel_rfl) (by kernel_rfl) (by kernel_rfl) (fun _ _ _ h => h) (by rfl) (fun v hv => by go_simp) hH ?_
        simp only [Act.put, List.setIfInBounds_toArray, List.set_cons_succ, List.set_cons_zero]
        refine takeH 4 (.slice fa nf fc) rfl (by kernel_rfl) (by kernel_rfl) (by kernel_rfl) (fun _ _ _ h => h) (by rfl) (fun v hv => by have h := hv; go_simp) hH ?_
        simp only [Act.put, List.setIfInBounds_toArray, List.set_cons_succ, List.set_cons_zero]
        refine callR 5 rfl (by kernel_rfl) (by rfl) 11 #[.pointer (some ⟨p, 0, none⟩), .pointer none, .slice fa nf fc] (by go_simp) (.tuple #[]) (fun v => ∃ Z', (∀ x ∈ Z', x ∈ [p] ∨ v3.drew.heap.size ≤ x) ∧ Cw w2 v Z' p q [] [] fl0 0 jobs life least 0) (fun v h => by obtain ⟨Z9, _, c9⟩ := h; exact (HBX.out _ c9.kept).2.2.2) (har.out.mono fun e w' h => by obtain ⟨Z', h1, _, h3, h4⟩ := h; exact ⟨h1, Z', h3, h4⟩) ?_
        rintro v4 ⟨Z4, hZ4, c4⟩
        simp only [Act.put, List.setIfInBounds_toArray, List.set_cons_succ, List.set_cons_zero]
        refine wpAnyH_done (by kernel_rfl) ?_ _
        have ka := hid (show Kept [] v4 (v4.alloc (.map #[] 0)) from (Kept.refl [] v4).alloc _)
        have hJ0 := hid (show JI w2 (v4.alloc (.map #[] 0)) p v4.heap.size q jobs life least 0 0 from ⟨Z4, [], [], fl0, 0,
          ⟨c4.keep ka.out (by simp), mp_made v4 [v4.heap.size] (by simp), fun hm => by have := (c4.low _ hm).2; omega, c4.kept.size, Nat.le_refl _, by simp [sizeE], by simp [pendE]; omega, Int.le_refl _, by simp⟩⟩)
        have hmk : ∀ W : World, (Instr.makeMap 63 none).run Try.prog W = .ok (.map (some W.heap.size)) (W.alloc (.map #[] 0)) := fun _ => rfl
        clear har c4 hZ4 hH hH0 C3 hkd
        go_wp2_with fail
        clear hmk
        obtain ⟨hb, hhb⟩ : ∃ hb, hb = v4.heap.size := ⟨_, rfl⟩
        rw [← hhb] at hJ0 ⊢
        clear hhb
        go_loopw [8, 60] (fun s8 s60 wr => ∃ (i : Nat) (now : Int), i ≤ n ∧ s60 = .int .i64 i ∧ s8 = .int .i64 now ∧ Hid (JI w2 wr p hb q jobs life least i now)) (fun _ s60 _ => n - (intOf s60).toNat)
        case atStart => exact ⟨0, 0, Nat.zero_le _, rfl, rfl, hJ0⟩
        case round =>
          clear hJ0
          obtain ⟨i, now, hi, rfl, rfl, hst⟩ := hrel
          obtain ⟨Z, es, ss, fl, k, js⟩ := hst.out
          have JSH := hid js
          by_cases hlt : i < n
          · have hlt' : i < ops.length := by have := HN.out; omega
            obtain ⟨o, ho⟩ : ∃ o, ops[i]? = some o := ⟨ops[i], by simp⟩
            obtain ⟨x, rfl⟩ : ∃ x, a0 = some x := by
              cases a0 with
              | none => exact absurd (H.out.1 rfl) (fun e => by rw [e] at hlt'; simp at hlt')
              | some x => exact ⟨x, rfl⟩
            have hkw := hid (K2.out.trans js.cw.kept)
            obtain ⟨g0, g1, g2, g3, g4, g5, hsrc, hnl, hbl, hnb, hwb⟩ := (HST0.out wr hkw.out).2 x rfl i o ho
            have hofew := HF.out.1 o (List.mem_of_getElem? ho)
            have hsv := hid (show ∀ V, Kept [] wr V → Src V (.slice o.ba o.bs.length o.bc) o.bs.length (o.bs.map B) from fun V hk => hsrc.kept hk (by simp))
            have HOF := hid hofew
            have HLT := hid hlt
            have I50 := hid (show i ≤ 49 from by have := HF.out.2; have := HN.out; omega)
            obtain ⟨W, hW⟩ : ∃ W, W = wr.alloc (.cells #[.int .i64 o.kind, .string (S o.nm), .slice o.ba o.bs.length o.bc, .int .i64 o.now, .int .i64 o.wait, .bool o.force] 65) := ⟨_, rfl⟩
            have HW := hid hW
            have hkW := hid (show Kept [] wr W from hW ▸ (Kept.refl [] wr).alloc _)
            have hq := hid (show W.heap[wr.heap.size]? = some (.cells #[.int .i64 o.kind, .string (S o.nm), .slice o.ba o.bs.length o.bc, .int .i64 o.now, .int .i64 o.wait, .bool o.force] 65 (0, 0)) from hW ▸ heap_alloc_at rfl)
            have hand := i64_and255 o.now
            have hd0 : 0 ≤ o.now % 256 ∧ o.now % 256 ≤ 255 := by omega
            obtain ⟨d, hd⟩ : ∃ d, d = o.now % 256 := ⟨_, rfl⟩
            rw [← hd] at hand hd0
            obtain ⟨nw, hnw⟩ : ∃ nw, nw = now + d := ⟨_, rfl⟩
            have JW := hid ((js.keep hkW.out).time hd0.1 hd0.2)
            rw [← hnw] at JW
            have hwr : IntKind.i64.wrap (now + d) = nw := by rw [hnw, IntKind.wrap_i64]; have := js.n0; have := js.n1; have := I50.out; omega
            have hqZ := hid (show wr.heap.size ∉ Z from fun hm => by have := (js.cw.low _ hm).2; omega)
            have hK : W.cell? ⟨wr.heap.size, 0, none⟩ = some (.int .i64 o.kind) := by rw [cell_of_row _ _ 0 _ _ _ hq.out]; rfl
            have hcS : ∀ (V : World) (T : List Nat), Kept T W V → wr.heap.size ∉ T → V.cell? ⟨wr.heap.size, 1, none⟩ = some (.string (S o.nm)) ∧ V.cell? ⟨wr.heap.size, 2, none⟩ = some (.slice o.ba o.bs.length o.bc) ∧ V.cell? ⟨wr.heap.size, 3, none⟩ = some (.int .i64 o.now) ∧ V.cell? ⟨wr.heap.size, 4, none⟩ = some (.int .i64 o.wait) := fun V T hk hT =>
              ⟨by rw [cell_of_row _ _ 1 _ _ _ (hk.at hq.out hT)]; rfl, by rw [cell_of_row _ _ 2 _ _ _ (hk.at hq.out hT)]; rfl, by rw [cell_of_row _ _ 3 _ _ _ (hk.at hq.out hT)]; rfl, by rw [cell_of_row _ _ 4 _ _ _ (hk.at hq.out hT)]; rfl⟩
            have HCS := hid hcS
            obtain ⟨hc1, hc2, hc3, hc4⟩ := hcS W [] (Kept.refl [] W) (by simp)
            have hlk := mt_look_c JW.out.mp o.nm (by have := HOF.out.1; omega)
            rw [find_texted_c, Option.isSome_map] at hlk
            obtain ⟨lv, hlv⟩ : ∃ lv, lv = lookT_c o.nm (es.map texted_c) := ⟨_, rfl⟩
            rw [← hlv] at hlk
            clear hlv
            obtain ⟨th, hth⟩ : ∃ th, th = (findE o.nm es).isSome := ⟨_, rfl⟩
            rw [← hth] at hlk
            have HTH := hid hth
            have hsv2 := hid (fun V (hk : Kept [] w2 V) => (show Src V (.slice o.ba o.bs.length o.bc) o.bs.length (o.bs.map B) from by
              have h1 := (HST0.out V (K2.out.trans hk)).2 x rfl i o ho
              exact h1.2.2.2.2.2.2.1))
            clear hth hst hsrc hnl hbl hnb hwb ho hlt' hW js hofew hcS hd0 hd hnw hsv
            replace hsv := hsv2
            clear hsv2
            go_wp2_with fail
            rw [← HW.out]
            go_wp2_with fail
            rw [hlk]
            clear hlk
            by_cases hk0 : o.kind = 0
            · have e0 : (o.kind == 0) = true := by simp [hk0]
              clear hk0
              as_aux_lemma =>
                cases th
                · have hno : findE o.nm es = none := by simpa using HTH.out.symm
                  obtain ⟨er, her⟩ : ∃ er, er = putC q es fl o.nm o.bs := ⟨_, rfl⟩
                  have hpu := hid (cw_put JW.out.cw (by have := JW.out.hk; have := I50.out; omega) o.nm (by have := HOF.out.1; omega) o.ba o.bs.length o.bc o.bs rfl (fun V hk => hsv.out V (JW.out.cw.kept.trans' hk (fun x hx hm => by simp at hm; subst hm; have := (JW.out.cw.low _ JW.out.cw.mem).1; have := K2.out.size; omega))) (by have := JW.out.sz; have := HOF.out.2; have := I50.out; omega) nw (by have := JW.out.n0; omega) (by have := JW.out.n1; have := I50.out; omega) er her.symm)
                  rw [JW.out.left hno] at hpu
                  clear her hno
                  go_wp2_with fail
                  refine hpu.out.mono ?_
                  rintro e W3 ⟨v1, Z3, rfl, k3, hZ3, c3⟩
                  by_cases her0 : er = 0
                  · subst her0
                    obtain ⟨W5, hup, j5⟩ := JW.out.put k3 hZ3 o.nm o.bs v1 HOF.out.1 HOF.out.2 (by have h : Cw w2 W3 Z3 p q (putE ⟨o.nm, v1, o.bs⟩ es) (putE (stE o.nm ⟨momT nw, false, 0⟩) ss) (fl.drop 1) (k + 1) jobs life least (addT 0 0) := c3; rw [show addT 0 0 = 0 by decide] at h; exact h)
                    have JT := hid j5
                    have hd1 := (HCS.out W3 _ k3 hqZ.out).1
                    have hd2 := (HCS.out W3 _ k3 hqZ.out).2.1
                    have hcv := bytes_back2_c W3 o.ba o.bc o.bs (hsv.out W3 c3.kept)
                    clear k3 hZ3 c3 j5 hpu hc1 hc2 hc3 hc4
                    go_wp2_with fail
                    as_aux_lemma =>
                      have CT := hid JT.out.cw
                      have hkd := hid (show Kept [] W5 W5.drew from (Kept.refl [] W5).drew)
                      have hpc := hid (cw_pending (CT.out.keep hkd.out (by simp)) nw (by have := JT.out.n0; omega) (by have := JT.out.n1; have := I50.out; omega))
                      have hpl := JT.out.pend
                      obtain ⟨pn, hpn⟩ : ∃ pn, pn = pendT (putE (stE o.nm ⟨momT nw, false, 0⟩) ss) nw life := ⟨_, rfl⟩
                      rw [← hpn] at hpc hpl
                      have hgt : ¬ jobs < (pn : Int) := by omega
                      have hcj := hid (fun X (hX : Kept [] W5 X) => HBX.out X (CT.out.kept.trans hX))
                      have hlo := hid (fun X (hX : Kept [] W5 X) => cw_lost (CT.out.keep hX (by simp)))
                      have hle := hid (fun X (hX : Kept [] W5 X) => cw_len (CT.out.keep hX (by simp)))
                      have hml := hid (fun X (hX : Kept [] W5 X) ty => mt_len_c (JT.out.mp.kept hX (by simp)) ty)
                      obtain ⟨el, hel⟩ : ∃ el, el = (putE ⟨o.nm, v1, o.bs⟩ es).length := ⟨_, rfl⟩
                      rw [← hel] at hle
                      rw [List.length_map, ← hel] at hml
                      have hJI := hid (show JI w2 W5 p hb q jobs life least (i + 1) nw from ⟨_, _, _, _, _, JT.out⟩)
                      clear hpn hel hup hd1 hd2 hcv
                      go_wp2_with fail
                      have hH0 : Kept [] W5 W5.drew := hkd.out
                      refine wp_region_held_drew (S := fun v => Kept [] W5 v) (by kernel_rfl) hH0 (fun hH => ?_)
                      refine takeH 0 (.pointer (some ⟨p, 0, none⟩)) rfl (by kernel_rfl) (by kernel_rfl) (by kernel_rfl) (fun _ _ _ h => h) (by rfl) (fun v hv => by go_simp) hH ?_
                      simp only [Act.put, List.setIfInBounds_toArray, List.set_cons_succ, List.set_cons_zero]
                      refine takeH 1 (.int .i64 nw) rfl (by kernel_rfl) (by kernel_rfl) (by kernel_rfl) (fun _ _ _ h => h) (by rfl) (fun v hv => by go_simp) hH ?_
                      simp only [Act.put, List.setIfInBounds_toArray, List.set_cons_succ, List.set_cons_zero]
                      refine takeH 3 (.pointer (some ⟨bx, 1, none⟩)) rfl (by kernel_rfl) (by kernel_rfl) (by kernel_rfl) (fun _ _ _ h => h) (by rfl) (fun v hv => by go_simp) hH ?_
                      simp only [Act.put, List.setIfInBounds_toArray, List.set_cons_succ, List.set_cons_zero]
                      refine takeH 4 (.int .i64 jobs) rfl (by kernel_rfl) (by kernel_rfl) (by kernel_rfl) (fun _ _ _ h => h) (by rfl) (fun v hv => by have h := (hcj.out v hv).1; go_simp) hH ?_
                      simp only [Act.put, List.setIfInBounds_toArray, List.set_cons_succ, List.set_cons_zero]
                      refine callR 2 rfl (by kernel_rfl) (by rfl) 28 #[.pointer (some ⟨p, 0, none⟩), .int .i64 nw] (by go_simp) (.int .i64 (pn : Int)) (fun v => Kept [] W5.drew v) (fun v h => hkd.out.trans h) (hpc.out) ?_
                      rintro y1 hy1
                      simp only [Act.put, List.setIfInBounds_toArray, List.set_cons_succ, List.set_cons_zero]
                      refine takeH 5 (.bool false) rfl (by kernel_rfl) (by kernel_rfl) (by kernel_rfl) (fun _ _ _ h => h) (by rfl) (fun v hv => by have h := hgt; go_simp) (hkd.out.trans hy1) ?_
                      simp only [Act.put, List.setIfInBounds_toArray, List.set_cons_succ, List.set_cons_zero]
                      refine takeH 6 (.bool false) rfl (by kernel_rfl) (by kernel_rfl) (by kernel_rfl) (fun _ _ _ h => h) (by rfl) (fun v hv => by go_simp) (hkd.out.trans hy1) ?_
                      simp only [Act.put, List.setIfInBounds_toArray, List.set_cons_succ, List.set_cons_zero]
                      refine takeH 7 (.pointer (some ⟨p, 0, none⟩)) rfl (by kernel_rfl) (by kernel_rfl) (by kernel_rfl) (fun _ _ _ h => h) (by rfl) (fun v hv => by go_simp) (hkd.out.trans hy1) ?_
                      simp only [Act.put, List.setIfInBounds_toArray, List.set_cons_succ, List.set_cons_zero]
                      refine callR 8 rfl (by kernel_rfl) (by rfl) 29 #[.pointer (some ⟨p, 0, none⟩)] (by go_simp) (.int .i64 0) (fun v => y1 = v) (fun v h => h ▸ (hkd.out.trans hy1)) (hlo.out _ (hkd.out.trans hy1)) ?_
                      rintro y2 rfl
                      simp only [Act.put, List.setIfInBounds_toArray, List.set_cons_succ, List.set_cons_zero]
                      refine takeH 9 (.bool false) rfl (by kernel_rfl) (by kernel_rfl) (by kernel_rfl) (fun _ _ _ h => h) (by rfl) (fun v hv => by go_simp) (hkd.out.trans hy1) ?_
                      simp only [Act.put, List.setIfInBounds_toArray, List.set_cons_succ, List.set_cons_zero]
                      refine takeH 10 (.bool false) rfl (by kernel_rfl) (by kernel_rfl) (by kernel_rfl) (fun _ _ _ h => h) (by rfl) (fun v hv => by go_simp) (hkd.out.trans hy1) ?_
                      simp only [Act.put, List.setIfInBounds_toArray, List.set_cons_succ, List.set_cons_zero]
                      refine takeH 11 (.bool false) rfl (by kernel_rfl) (by kernel_rfl) (by kernel_rfl) (fun _ _ _ h => h) (by rfl) (fun v hv => by go_simp) (hkd.out.trans hy1) ?_
                      simp only [Act.put, List.setIfInBounds_toArray, List.set_cons_succ, List.set_cons_zero]
                      refine takeH 12 (.pointer (some ⟨p, 0, none⟩)) rfl (by kernel_rfl) (by kernel_rfl) (by kernel_rfl) (fun _ _ _ h => h) (by rfl) (fun v hv => by go_simp) (hkd.out.trans hy1) ?_
                      simp only [Act.put, List.setIfInBounds_toArray, List.set_cons_succ, List.set_cons_zero]
                      refine takeH 13 (.pointer (some ⟨p, 0, none⟩)) rfl (by kernel_rfl) (by kernel_rfl) (by kernel_rfl) (fun _ _ _ h => h) (by rfl) (fun v hv => by go_simp) (hkd.out.trans hy1) ?_
                      simp only [Act.put, List.setIfInBounds_toArray, List.set_cons_succ, List.set_cons_zero]
                      refine takeH 14 (.pointer (some ⟨p, 0, none⟩)) rfl (by kernel_rfl) (by kernel_rfl) (by kernel_rfl) (fun _ _ _ h => h) (by rfl) (fun v hv => by go_simp) (hkd.out.trans hy1) ?_
                      simp only [Act.put, List.setIfInBounds_toArray, List.set_cons_succ, List.set_cons_zero]
                      refine takeH 16 (.map (some hb)) rfl (by kernel_rfl) (by kernel_rfl) (by kernel_rfl) (fun _ _ _ h => h) (by rfl) (fun v hv => by go_simp) (hkd.out.trans hy1) ?_
                      simp only [Act.put, List.setIfInBounds_toArray, List.set_cons_succ, List.set_cons_zero]
                      refine callR 15 rfl (by kernel_rfl) (by rfl) 30 #[.pointer (some ⟨p, 0, none⟩)] (by go_simp) (.int .i64 (el : Int)) (fun v => y1 = v) (fun v h => h ▸ (hkd.out.trans hy1)) (hle.out _ (hkd.out.trans hy1)) ?_
                      rintro y2 rfl
                      simp only [Act.put, List.setIfInBounds_toArray, List.set_cons_succ, List.set_cons_zero]
                      have hml1 := hml.out _ (hkd.out.trans hy1)
                      refine runH 17 rfl (by kernel_rfl) (by rfl) (.int .i64 (el : Int)) (y1) (by go_simp) ((hkd.out.trans hy1)) ?_
                      simp only [Act.put, List.setIfInBounds_toArray, List.set_cons_succ, List.set_cons_zero]
                      refine takeH 18 (.bool false) rfl (by kernel_rfl) (by kernel_rfl) (by kernel_rfl) (fun _ _ _ h => h) (by rfl) (fun v hv => by go_simp) (hkd.out.trans hy1) ?_
                      simp only [Act.put, List.setIfInBounds_toArray, List.set_cons_succ, List.set_cons_zero]
                      refine takeH 19 (.bool false) rfl (by kernel_rfl) (by kernel_rfl) (by kernel_rfl) (fun _ _ _ h => h) (by rfl) (fun v hv => by go_simp) (hkd.out.trans hy1) ?_
                      simp only [Act.put, List.setIfInBounds_toArray, List.set_cons_succ, List.set_cons_zero]
                      refine wpAnyH_done (by kernel_rfl) ?_ _
                      have hJI2 := hid (show JI w2 y1 p hb q jobs life least (i + 1) nw from by
                        obtain ⟨Z9, es9, ss9, fl9, k9, j9⟩ := hJI.out
                        exact ⟨Z9, es9, ss9, fl9, k9, j9.keep (hkd.out.trans hy1)⟩)
                      clear hy1 hH0 hJI hml hml1 hle hlo hcj hgt hpl hpc hkd CT
                      go_wp2
                      go_roundw
                      case rel => exact ⟨i + 1, nw, HLT.out, by go_num, rfl, hJI2⟩
                      case measure => simp [intOf]; omega
                  · have hne : (er == 0) = false := by simpa using her0
                    have JT := hid (JW.out.turn (ss' := ss) (fl' := fl.drop 1) (k' := k + 1) k3 hZ3 (by have h := c3; unfold ifOK at h; simpa [her0] using h) (by have := JW.out.hk; have := I50.out; omega) JW.out.pn)
                    clear k3 hZ3 c3 hpu hc1 hc2 hc3 hc4 her0
                    go_wp2_with fail
                    as_aux_lemma =>
                      have CT := hid JT.out.cw
                      have hkd := hid (show Kept [] W3 W3.drew from (Kept.refl [] W3).drew)
                      have hpc := hid (cw_pending (CT.out.keep hkd.out (by simp)) nw (by have := JT.out.n0; omega) (by have := JT.out.n1; have := I50.out; omega))
                      have hpl := JT.out.pend
                      obtain ⟨pn, hpn⟩ : ∃ pn, pn = pendT ss nw life := ⟨_, rfl⟩
                      rw [← hpn] at hpc hpl
                      have hgt : ¬ jobs < (pn : Int) := by omega
                      have hcj := hid (fun X (hX : Kept [] W3 X) => HBX.out X (CT.out.kept.trans hX))
                      have hlo := hid (fun X (hX : Kept [] W3 X) => cw_lost (CT.out.keep hX (by simp)))
                      have hle := hid (fun X (hX : Kept [] W3 X) => cw_len (CT.out.keep hX (by simp)))
                      have hml := hid (fun X (hX : Kept [] W3 X) ty => mt_len_c (JT.out.mp.kept hX (by simp)) ty)
                      obtain ⟨el, hel⟩ : ∃ el, el = es.length := ⟨_, rfl⟩
                      rw [← hel] at hle
                      rw [List.length_map, ← hel] at hml
                      have hJI := hid (show JI w2 W3 p hb q jobs life least (i + 1) nw from ⟨_, _, _, _, _, JT.out⟩)
                      clear hpn hel
                      go_wp2_with fail
                      have hH0 : Kept [] W3 W3.drew := hkd.out
                      refine wp_region_held_drew (S := fun v => Kept [] W3 v) (by kernel_rfl) hH0 (fun hH => ?_)
                      refine takeH 0 (.pointer (some ⟨p, 0, none⟩)) rfl (by kernel_rfl) (by kernel_rfl) (by kernel_rfl) (fun _ _ _ h => h) (by rfl) (fun v hv => by go_simp) hH ?_
                      simp only [Act.put, List.setIfInBounds_toArray, List.set_cons_succ, List.set_cons_zero]
                      refine takeH 1 (.int .i64 nw) rfl (by kernel_rfl) (by kernel_rfl) (by kernel_rfl) (fun _ _ _ h => h) (by rfl) (fun v hv => by go_simp) hH ?_
                      simp only [Act.put, List.setIfInBounds_toArray, List.set_cons_succ, List.set_cons_zero]
                      refine takeH 3 (.pointer (some ⟨bx, 1, none⟩)) rfl (by kernel_rfl) (by kernel_rfl) (by kernel_rfl) (fun _ _ _ h => h) (by rfl) (fun v hv => by go_simp) hH ?_
                      simp only [Act.put, List.setIfInBounds_toArray, List.set_cons_succ, List.set_cons_zero]
                      refine takeH 4 (.int .i64 jobs) rfl (by kernel_rfl) (by kernel_rfl) (by kernel_rfl) (fun _ _ _ h => h) (by rfl) (fun v hv => by have h := (hcj.out v hv).1; go_simp) hH ?_
                      simp only [Act.put, List.setIfInBounds_toArray, List.set_cons_succ, List.set_cons_zero]
                      refine callR 2 rfl (by kernel_rfl) (by rfl) 28 #[.pointer (some ⟨p, 0, none⟩), .int .i64 nw] (by go_simp) (.int .i64 (pn : Int)) (fun v => Kept [] W3.drew v) (fun v h => hkd.out.trans h) (hpc.out) ?_
                      rintro y1 hy1
                      simp only [Act.put, List.setIfInBounds_toArray, List.set_cons_succ, List.set_cons_zero]
                      refine takeH 5 (.bool false) rfl (by kernel_rfl) (by kernel_rfl) (by kernel_rfl) (fun _ _ _ h => h) (by rfl) (fun v hv => by have h := hgt; go_simp) (hkd.out.trans hy1) ?_
                      simp only [Act.put, List.setIfInBounds_toArray, List.set_cons_succ, List.set_cons_zero]
                      refine takeH 6 (.bool false) rfl (by kernel_rfl) (by kernel_rfl) (by kernel_rfl) (fun _ _ _ h => h) (by rfl) (fun v hv => by go_simp) (hkd.out.trans hy1) ?_
                      simp only [Act.put, List.setIfInBounds_toArray, List.set_cons_succ, List.set_cons_zero]
                      refine takeH 7 (.pointer (some ⟨p, 0, none⟩)) rfl (by kernel_rfl) (by kernel_rfl) (by kernel_rfl) (fun _ _ _ h => h) (by rfl) (fun v hv => by go_simp) (hkd.out.trans hy1) ?_
                      simp only [Act.put, List.setIfInBounds_toArray, List.set_cons_succ, List.set_cons_zero]
                      refine callR 8 rfl (by kernel_rfl) (by rfl) 29 #[.pointer (some ⟨p, 0, none⟩)] (by go_simp) (.int .i64 0) (fun v => y1 = v) (fun v h => h ▸ (hkd.out.trans hy1)) (hlo.out _ (hkd.out.trans hy1)) ?_
                      rintro y2 rfl
                      simp only [Act.put, List.setIfInBounds_toArray, List.set_cons_succ, List.set_cons_zero]
                      refine takeH 9 (.bool false) rfl (by kernel_rfl) (by kernel_rfl) (by kernel_rfl) (fun _ _ _ h => h) (by rfl) (fun v hv => by go_simp) (hkd.out.trans hy1) ?_
                      simp only [Act.put, List.setIfInBounds_toArray, List.set_cons_succ, List.set_cons_zero]
                      refine takeH 10 (.bool false) rfl (by kernel_rfl) (by kernel_rfl) (by kernel_rfl) (fun _ _ _ h => h) (by rfl) (fun v hv => by go_simp) (hkd.out.trans hy1) ?_
                      simp only [Act.put, List.setIfInBounds_toArray, List.set_cons_succ, List.set_cons_zero]
                      refine takeH 11 (.bool false) rfl (by kernel_rfl) (by kernel_rfl) (by kernel_rfl) (fun _ _ _ h => h) (by rfl) (fun v hv => by go_simp) (hkd.out.trans hy1) ?_
                      simp only [Act.put, List.setIfInBounds_toArray, List.set_cons_succ, List.set_cons_zero]
                      refine takeH 12 (.pointer (some ⟨p, 0, none⟩)) rfl (by kernel_rfl) (by kernel_rfl) (by kernel_rfl) (fun _ _ _ h => h) (by rfl) (fun v hv => by go_simp) (hkd.out.trans hy1) ?_
                      simp only [Act.put, List.setIfInBounds_toArray, List.set_cons_succ, List.set_cons_zero]
                      refine takeH 13 (.pointer (some ⟨p, 0, none⟩)) rfl (by kernel_rfl) (by kernel_rfl) (by kernel_rfl) (fun _ _ _ h => h) (by rfl) (fun v hv => by go_simp) (hkd.out.trans hy1) ?_
                      simp only [Act.put, List.setIfInBounds_toArray, List.set_cons_succ, List.set_cons_zero]
                      refine takeH 14 (.pointer (some ⟨p, 0, none⟩)) rfl (by kernel_rfl) (by kernel_rfl) (by kernel_rfl) (fun _ _ _ h => h) (by rfl) (fun v hv => by go_simp) (hkd.out.trans hy1) ?_
                      simp only [Act.put, List.setIfInBounds_toArray, List.set_cons_succ, List.set_cons_zero]
                      refine takeH 16 (.map (some hb)) rfl (by kernel_rfl) (by kernel_rfl) (by kernel_rfl) (fun _ _ _ h => h) (by rfl) (fun v hv => by go_simp) (hkd.out.trans hy1) ?_
                      simp only [Act.put, List.setIfInBounds_toArray, List.set_cons_succ, List.set_cons_zero]
                      refine callR 15 rfl (by kernel_rfl) (by rfl) 30 #[.pointer (some ⟨p, 0, none⟩)] (by go_simp) (.int .i64 (el : Int)) (fun v => y1 = v) (fun v h => h ▸ (hkd.out.trans hy1)) (hle.out _ (hkd.out.trans hy1)) ?_
                      rintro y2 rfl
                      simp only [Act.put, List.setIfInBounds_toArray, List.set_cons_succ, List.set_cons_zero]
                      have hml1 := hml.out _ (hkd.out.trans hy1)
                      refine runH 17 rfl (by kernel_rfl) (by rfl) (.int .i64 (el : Int)) (y1) (by go_simp) ((hkd.out.trans hy1)) ?_
                      simp only [Act.put, List.setIfInBounds_toArray, List.set_cons_succ, List.set_cons_zero]
                      refine takeH 18 (.bool false) rfl (by kernel_rfl) (by kernel_rfl) (by kernel_rfl) (fun _ _ _ h => h) (by rfl) (fun v hv => by go_simp) (hkd.out.trans hy1) ?_
                      simp only [Act.put, List.setIfInBounds_toArray, List.set_cons_succ, List.set_cons_zero]
                      refine takeH 19 (.bool false) rfl (by kernel_rfl) (by kernel_rfl) (by kernel_rfl) (fun _ _ _ h => h) (by rfl) (fun v hv => by go_simp) (hkd.out.trans hy1) ?_
                      simp only [Act.put, List.setIfInBounds_toArray, List.set_cons_succ, List.set_cons_zero]
                      refine wpAnyH_done (by kernel_rfl) ?_ _
                      have hJI2 := hid (show JI w2 y1 p hb q jobs life least (i + 1) nw from by
                        obtain ⟨Z9, es9, ss9, fl9, k9, j9⟩ := hJI.out
                        exact ⟨Z9, es9, ss9, fl9, k9, j9.keep (hkd.out.trans hy1)⟩)
                      clear hy1 hH0 hJI hml hml1 hle hlo hcj hgt hpl hpc hkd CT
                      go_wp2
                      go_roundw
                      case rel => exact ⟨i + 1, nw, HLT.out, by go_num, rfl, hJI2⟩
                      case measure => simp [intOf]; omega
                · have JT := hid JW.out.more
                  clear hc1 hc2 hc3 hc4
                  go_wp2_with fail
                  as_aux_lemma =>
                    have CT := hid JT.out.cw
                    have hkd := hid (show Kept [] W W.drew from (Kept.refl [] W).drew)
                    have hpc := hid (cw_pending (CT.out.keep hkd.out (by simp)) nw (by have := JT.out.n0; omega) (by have := JT.out.n1; have := I50.out; omega))
                    have hpl := JT.out.pend
                    obtain ⟨pn, hpn⟩ : ∃ pn, pn = pendT ss nw life := ⟨_, rfl⟩
                    rw [← hpn] at hpc hpl
                    have hgt : ¬ jobs < (pn : Int) := by omega
                    have hcj := hid (fun X (hX : Kept [] W X) => HBX.out X (CT.out.kept.trans hX))
                    have hlo := hid (fun X (hX : Kept [] W X) => cw_lost (CT.out.keep hX (by simp)))
                    have hle := hid (fun X (hX : Kept [] W X) => cw_len (CT.out.keep hX (by simp)))
                    have hml := hid (fun X (hX : Kept [] W X) ty => mt_len_c (JT.out.mp.kept hX (by simp)) ty)
                    obtain ⟨el, hel⟩ : ∃ el, el = es.length := ⟨_, rfl⟩
                    rw [← hel] at hle
                    rw [List.length_map, ← hel] at hml
                    have hJI := hid (show JI w2 W p hb q jobs life least (i + 1) nw from ⟨_, _, _, _, _, JT.out⟩)
                    clear hpn hel
                    go_wp2_with fail
                    have hH0 : Kept [] W W.drew := hkd.out
                    refine wp_region_held_drew (S := fun v => Kept [] W v) (by kernel_rfl) hH0 (fun hH => ?_)
                    refine takeH 0 (.pointer (some ⟨p, 0, none⟩)) rfl (by kernel_rfl) (by kernel_rfl) (by kernel_rfl) (fun _ _ _ h => h) (by rfl) (fun v hv => by go_simp) hH ?_
                    simp only [Act.put, List.setIfInBounds_toArray, List.set_cons_succ, List.set_cons_zero]
                    refine takeH 1 (.int .i64 nw) rfl (by kernel_rfl) (by kernel_rfl) (by kernel_rfl) (fun _ _ _ h => h) (by rfl) (fun v hv => by go_simp) hH ?_
                    simp only [Act.put, List.setIfInBounds_toArray, List.set_cons_succ, List.set_cons_zero]
                    refine takeH 3 (.pointer (some ⟨bx, 1, none⟩)) rfl (by kernel_rfl) (by kernel_rfl) (by kernel_rfl) (fun _ _ _ h => h) (by rfl) (fun v hv => by go_simp) hH ?_
                    simp only [Act.put, List.setIfInBounds_toArray, List.set_cons_succ, List.set_cons_zero]
                    refine takeH 4 (.int .i64 jobs) rfl (by kernel_rfl) (by kernel_rfl) (by kernel_rfl) (fun _ _ _ h => h) (by rfl) (fun v hv => by have h := (hcj.out v hv).1; go_simp) hH ?_
                    simp only [Act.put, List.setIfInBounds_toArray, List.set_cons_succ, List.set_cons_zero]
                    refine callR 2 rfl (by kernel_rfl) (by rfl) 28 #[.pointer (some ⟨p, 0, none⟩), .int .i64 nw] (by go_simp) (.int .i64 (pn : Int)) (fun v => Kept [] W.drew v) (fun v h => hkd.out.trans h) (hpc.out) ?_
                    rintro y1 hy1
                    simp only [Act.put, List.setIfInBounds_toArray, List.set_cons_succ, List.set_cons_zero]
                    refine takeH 5 (.bool false) rfl (by kernel_rfl) (by kernel_rfl) (by kernel_rfl) (fun _ _ _ h => h) (by rfl) (fun v hv => by have h := hgt; go_simp) (hkd.out.trans hy1) ?_
                    simp only [Act.put, List.setIfInBounds_toArray, List.set_cons_succ, List.set_cons_zero]
                    refine takeH 6 (.bool false) rfl (by kernel_rfl) (by kernel_rfl) (by kernel_rfl) (fun _ _ _ h => h) (by rfl) (fun v hv => by go_simp) (hkd.out.trans hy1) ?_
                    simp only [Act.put, List.setIfInBounds_toArray, List.set_cons_succ, List.set_cons_zero]
                    refine takeH 7 (.pointer (some ⟨p, 0, none⟩)) rfl (by kernel_rfl) (by kernel_rfl) (by kernel_rfl) (fun _ _ _ h => h) (by rfl) (fun v hv => by go_simp) (hkd.out.trans hy1) ?_
                    simp only [Act.put, List.setIfInBounds_toArray, List.set_cons_succ, List.set_cons_zero]
                    refine callR 8 rfl (by kernel_rfl) (by rfl) 29 #[.pointer (some ⟨p, 0, none⟩)] (by go_simp) (.int .i64 0) (fun v => y1 = v) (fun v h => h ▸ (hkd.out.trans hy1)) (hlo.out _ (hkd.out.trans hy1)) ?_
                    rintro y2 rfl
                    simp only [Act.put, List.setIfInBounds_toArray, List.set_cons_succ, List.set_cons_zero]
                    refine takeH 9 (.bool false) rfl (by kernel_rfl) (by kernel_rfl) (by kernel_rfl) (fun _ _ _ h => h) (by rfl) (fun v hv => by go_simp) (hkd.out.trans hy1) ?_
                    simp only [Act.put, List.setIfInBounds_toArray, List.set_cons_succ, List.set_cons_zero]
                    refine takeH 10 (.bool false) rfl (by kernel_rfl) (by kernel_rfl) (by kernel_rfl) (fun _ _ _ h => h) (by rfl) (fun v hv => by go_simp) (hkd.out.trans hy1) ?_
                    simp only [Act.put, List.setIfInBounds_toArray, List.set_cons_succ, List.set_cons_zero]
                    refine takeH 11 (.bool false) rfl (by kernel_rfl) (by kernel_rfl) (by kernel_rfl) (fun _ _ _ h => h) (by rfl) (fun v hv => by go_simp) (hkd.out.trans hy1) ?_
                    simp only [Act.put, List.setIfInBounds_toArray, List.set_cons_succ, List.set_cons_zero]
                    refine takeH 12 (.pointer (some ⟨p, 0, none⟩)) rfl (by kernel_rfl) (by kernel_rfl) (by kernel_rfl) (fun _ _ _ h => h) (by rfl) (fun v hv => by go_simp) (hkd.out.trans hy1) ?_
                    simp only [Act.put, List.setIfInBounds_toArray, List.set_cons_succ, List.set_cons_zero]
                    refine takeH 13 (.pointer (some ⟨p, 0, none⟩)) rfl (by kernel_rfl) (by kernel_rfl) (by kernel_rfl) (fun _ _ _ h => h) (by rfl) (fun v hv => by go_simp) (hkd.out.trans hy1) ?_
                    simp only [Act.put, List.setIfInBounds_toArray, List.set_cons_succ, List.set_cons_zero]
                    refine takeH 14 (.pointer (some ⟨p, 0, none⟩)) rfl (by kernel_rfl) (by kernel_rfl) (by kernel_rfl) (fun _ _ _ h => h) (by rfl) (fun v hv => by go_simp) (hkd.out.trans hy1) ?_
                    simp only [Act.put, List.setIfInBounds_toArray, List.set_cons_succ, List.set_cons_zero]
                    refine takeH 16 (.map (some hb)) rfl (by kernel_rfl) (by kernel_rfl) (by kernel_rfl) (fun _ _ _ h => h) (by rfl) (fun v hv => by go_simp) (hkd.out.trans hy1) ?_
                    simp only [Act.put, List.setIfInBounds_toArray, List.set_cons_succ, List.set_cons_zero]
                    refine callR 15 rfl (by kernel_rfl) (by rfl) 30 #[.pointer (some ⟨p, 0, none⟩)] (by go_simp) (.int .i64 (el : Int)) (fun v => y1 = v) (fun v h => h ▸ (hkd.out.trans hy1)) (hle.out _ (hkd.out.trans hy1)) ?_
                    rintro y2 rfl
                    simp only [Act.put, List.setIfInBounds_toArray, List.set_cons_succ, List.set_cons_zero]
                    have hml1 := hml.out _ (hkd.out.trans hy1)
                    refine runH 17 rfl (by kernel_rfl) (by rfl) (.int .i64 (el : Int)) (y1) (by go_simp) ((hkd.out.trans hy1)) ?_
                    simp only [Act.put, List.setIfInBounds_toArray, List.set_cons_succ, List.set_cons_zero]
                    refine takeH 18 (.bool false) rfl (by kernel_rfl) (by kernel_rfl) (by kernel_rfl) (fun _ _ _ h => h) (by rfl) (fun v hv => by go_simp) (hkd.out.trans hy1) ?_
                    simp only [Act.put, List.setIfInBounds_toArray, List.set_cons_succ, List.set_cons_zero]
                    refine takeH 19 (.bool false) rfl (by kernel_rfl) (by kernel_rfl) (by kernel_rfl) (fun _ _ _ h => h) (by rfl) (fun v hv => by go_simp) (hkd.out.trans hy1) ?_
                    simp only [Act.put, List.setIfInBounds_toArray, List.set_cons_succ, List.set_cons_zero]
                    refine wpAnyH_done (by kernel_rfl) ?_ _
                    have hJI2 := hid (show JI w2 y1 p hb q jobs life least (i + 1) nw from by
                      obtain ⟨Z9, es9, ss9, fl9, k9, j9⟩ := hJI.out
                      exact ⟨Z9, es9, ss9, fl9, k9, j9.keep (hkd.out.trans hy1)⟩)
                    clear hy1 hH0 hJI hml hml1 hle hlo hcj hgt hpl hpc hkd CT
                    go_wp2
                    go_roundw
                    case rel => exact ⟨i + 1, nw, HLT.out, by go_num, rfl, hJI2⟩
                    case measure => simp [intOf]; omega
            · have e0 : (o.kind == 0) = false := by simp [hk0]
              by_cases hk1 : o.kind = 1
              · have e1 : (o.kind == 1) = true := by simp [hk1]
                clear hk1
                as_aux_lemma =>
                  cases th
                  · have hno : findE o.nm es = none := by simpa using HTH.out.symm
                    obtain ⟨er, her⟩ : ∃ er, er = putC q es fl o.nm o.bs := ⟨_, rfl⟩
                    have hpu := hid (cw_put JW.out.cw (by have := JW.out.hk; have := I50.out; omega) o.nm (by have := HOF.out.1; omega) o.ba o.bs.length o.bc o.bs rfl (fun V hk => hsv.out V (JW.out.cw.kept.trans' hk (fun x hx hm => by simp at hm; subst hm; have := (JW.out.cw.low _ JW.out.cw.mem).1; have := K2.out.size; omega))) (by have := JW.out.sz; have := HOF.out.2; have := I50.out; omega) nw (by have := JW.out.n0; omega) (by have := JW.out.n1; have := I50.out; omega) er her.symm)
                    rw [JW.out.left hno] at hpu
                    clear her hno
                    go_wp2_with fail
                    refine hpu.out.mono ?_
                    rintro e W3 ⟨v1, Z3, rfl, k3, hZ3, c3⟩
                    by_cases her0 : er = 0
                    · subst her0
                      obtain ⟨W5, hup, j5⟩ := JW.out.put k3 hZ3 o.nm o.bs v1 HOF.out.1 HOF.out.2 (by have h : Cw w2 W3 Z3 p q (putE ⟨o.nm, v1, o.bs⟩ es) (putE (stE o.nm ⟨momT nw, false, 0⟩) ss) (fl.drop 1) (k + 1) jobs life least (addT 0 0) := c3; rw [show addT 0 0 = 0 by decide] at h; exact h)
                      have JT := hid j5
                      have hd1 := (HCS.out W3 _ k3 hqZ.out).1
                      have hd2 := (HCS.out W3 _ k3 hqZ.out).2.1
                      have hcv := bytes_back2_c W3 o.ba o.bc o.bs (hsv.out W3 c3.kept)
                      clear k3 hZ3 c3 j5 hpu hc1 hc2 hc3 hc4
                      go_wp2_with fail
                      as_aux_lemma =>
                        have CT := hid JT.out.cw
                        have hkd := hid (show Kept [] W5 W5.drew from (Kept.refl [] W5).drew)
                        have hpc := hid (cw_pending (CT.out.keep hkd.out (by simp)) nw (by have := JT.out.n0; omega) (by have := JT.out.n1; have := I50.out; omega))
                        have hpl := JT.out.pend
                        obtain ⟨pn, hpn⟩ : ∃ pn, pn = pendT (putE (stE o.nm ⟨momT nw, false, 0⟩) ss) nw life := ⟨_, rfl⟩
                        rw [← hpn] at hpc hpl
                        have hgt : ¬ jobs < (pn : Int) := by omega
                        have hcj := hid (fun X (hX : Kept [] W5 X) => HBX.out X (CT.out.kept.trans hX))
                        have hlo := hid (fun X (hX : Kept [] W5 X) => cw_lost (CT.out.keep hX (by simp)))
                        have hle := hid (fun X (hX : Kept [] W5 X) => cw_len (CT.out.keep hX (by simp)))
                        have hml := hid (fun X (hX : Kept [] W5 X) ty => mt_len_c (JT.out.mp.kept hX (by simp)) ty)
                        obtain ⟨el, hel⟩ : ∃ el, el = (putE ⟨o.nm, v1, o.bs⟩ es).length := ⟨_, rfl⟩
                        rw [← hel] at hle
                        rw [List.length_map, ← hel] at hml
                        have hJI := hid (show JI w2 W5 p hb q jobs life least (i + 1) nw from ⟨_, _, _, _, _, JT.out⟩)
                        clear hpn hel hup hd1 hd2 hcv
                        go_wp2_with fail
                        have hH0 : Kept [] W5 W5.drew := hkd.out
                        refine wp_region_held_drew (S := fun v => Kept [] W5 v) (by kernel_rfl) hH0 (fun hH => ?_)
                        refine takeH 0 (.pointer (some ⟨p, 0, none⟩)) rfl (by kernel_rfl) (by kernel_rfl) (by kernel_rfl) (fun _ _ _ h => h) (by rfl) (fun v hv => by go_simp) hH ?_
                        simp only [Act.put, List.setIfInBounds_toArray, List.set_cons_succ, List.set_cons_zero]
                        refine takeH 1 (.int .i64 nw) rfl (by kernel_rfl) (by kernel_rfl) (by kernel_rfl) (fun _ _ _ h => h) (by rfl) (fun v hv => by go_simp) hH ?_
                        simp only [Act.put, List.setIfInBounds_toArray, List.set_cons_succ, List.set_cons_zero]
                        refine takeH 3 (.pointer (some ⟨bx, 1, none⟩)) rfl (by kernel_rfl) (by kernel_rfl) (by kernel_rfl) (fun _ _ _ h => h) (by rfl) (fun v hv => by go_simp) hH ?_
                        simp only [Act.put, List.setIfInBounds_toArray, List.set_cons_succ, List.set_cons_zero]
                        refine takeH 4 (.int .i64 jobs) rfl (by kernel_rfl) (by kernel_rfl) (by kernel_rfl) (fun _ _ _ h => h) (by rfl) (fun v hv => by have h := (hcj.out v hv).1; go_simp) hH ?_
                        simp only [Act.put, List.setIfInBounds_toArray, List.set_cons_succ, List.set_cons_zero]
                        refine callR 2 rfl (by kernel_rfl) (by rfl) 28 #[.pointer (some ⟨p, 0, none⟩), .int .i64 nw] (by go_simp) (.int .i64 (pn : Int)) (fun v => Kept [] W5.drew v) (fun v h => hkd.out.trans h) (hpc.out) ?_
                        rintro y1 hy1
                        simp only [Act.put, List.setIfInBounds_toArray, List.set_cons_succ, List.set_cons_zero]
                        refine takeH 5 (.bool false) rfl (by kernel_rfl) (by kernel_rfl) (by kernel_rfl) (fun _ _ _ h => h) (by rfl) (fun v hv => by have h := hgt; go_simp) (hkd.out.trans hy1) ?_
                        simp only [Act.put, List.setIfInBounds_toArray, List.set_cons_succ, List.set_cons_zero]
                        refine takeH 6 (.bool false) rfl (by kernel_rfl) (by kernel_rfl) (by kernel_rfl) (fun _ _ _ h => h) (by rfl) (fun v hv => by go_simp) (hkd.out.trans hy1) ?_
                        simp only [Act.put, List.setIfInBounds_toArray, List.set_cons_succ, List.set_cons_zero]
                        refine takeH 7 (.pointer (some ⟨p, 0, none⟩)) rfl (by kernel_rfl) (by kernel_rfl) (by kernel_rfl) (fun _ _ _ h => h) (by rfl) (fun v hv => by go_simp) (hkd.out.trans hy1) ?_
                        simp only [Act.put, List.setIfInBounds_toArray, List.set_cons_succ, List.set_cons_zero]
                        refine callR 8 rfl (by kernel_rfl) (by rfl) 29 #[.pointer (some ⟨p, 0, none⟩)] (by go_simp) (.int .i64 0) (fun v => y1 = v) (fun v h => h ▸ (hkd.out.trans hy1)) (hlo.out _ (hkd.out.trans hy1)) ?_
                        rintro y2 rfl
                        simp only [Act.put, List.setIfInBounds_toArray, List.set_cons_succ, List.set_cons_zero]
                        refine takeH 9 (.bool false) rfl (by kernel_rfl) (by kernel_rfl) (by kernel_rfl) (fun _ _ _ h => h) (by rfl) (fun v hv => by go_simp) (hkd.out.trans hy1) ?_
                        simp only [Act.put, List.setIfInBounds_toArray, List.set_cons_succ, List.set_cons_zero]
                        refine takeH 10 (.bool false) rfl (by kernel_rfl) (by kernel_rfl) (by kernel_rfl) (fun _ _ _ h => h) (by rfl) (fun v hv => by go_simp) (hkd.out.trans hy1) ?_
                        simp only [Act.put, List.setIfInBounds_toArray, List.set_cons_succ, List.set_cons_zero]
                        refine takeH 11 (.bool false) rfl (by kernel_rfl) (by kernel_rfl) (by kernel_rfl) (fun _ _ _ h => h) (by rfl) (fun v hv => by go_simp) (hkd.out.trans hy1) ?_
                        simp only [Act.put, List.setIfInBounds_toArray, List.set_cons_succ, List.set_cons_zero]
                        refine takeH 12 (.pointer (some ⟨p, 0, none⟩)) rfl (by kernel_rfl) (by kernel_rfl) (by kernel_rfl) (fun _ _ _ h => h) (by rfl) (fun v hv => by go_simp) (hkd.out.trans hy1) ?_
                        simp only [Act.put, List.setIfInBounds_toArray, List.set_cons_succ, List.set_cons_zero]
                        refine takeH 13 (.pointer (some ⟨p, 0, none⟩)) rfl (by kernel_rfl) (by kernel_rfl) (by kernel_rfl) (fun _ _ _ h => h) (by rfl) (fun v hv => by go_simp) (hkd.out.trans hy1) ?_
                        simp only [Act.put, List.setIfInBounds_toArray, List.set_cons_succ, List.set_cons_zero]
                        refine takeH 14 (.pointer (some ⟨p, 0, none⟩)) rfl (by kernel_rfl) (by kernel_rfl) (by kernel_rfl) (fun _ _ _ h => h) (by rfl) (fun v hv => by go_simp) (hkd.out.trans hy1) ?_
                        simp only [Act.put, List.setIfInBounds_toArray, List.set_cons_succ, List.set_cons_zero]
                        refine takeH 16 (.map (some hb)) rfl (by kernel_rfl) (by kernel_rfl) (by kernel_rfl) (fun _ _ _ h => h) (by rfl) (fun v hv => by go_simp) (hkd.out.trans hy1) ?_
                        simp only [Act.put, List.setIfInBounds_toArray, List.set_cons_succ, List.set_cons_zero]
                        refine callR 15 rfl (by kernel_rfl) (by rfl) 30 #[.pointer (some ⟨p, 0, none⟩)] (by go_simp) (.int .i64 (el : Int)) (fun v => y1 = v) (fun v h => h ▸ (hkd.out.trans hy1)) (hle.out _ (hkd.out.trans hy1)) ?_
                        rintro y2 rfl
                        simp only [Act.put, List.setIfInBounds_toArray, List.set_cons_succ, List.set_cons_zero]
                        have hml1 := hml.out _ (hkd.out.trans hy1)
                        refine runH 17 rfl (by kernel_rfl) (by rfl) (.int .i64 (el : Int)) (y1) (by go_simp) ((hkd.out.trans hy1)) ?_
                        simp only [Act.put, List.setIfInBounds_toArray, List.set_cons_succ, List.set_cons_zero]
                        refine takeH 18 (.bool false) rfl (by kernel_rfl) (by kernel_rfl) (by kernel_rfl) (fun _ _ _ h => h) (by rfl) (fun v hv => by go_simp) (hkd.out.trans hy1) ?_
                        simp only [Act.put, List.setIfInBounds_toArray, List.set_cons_succ, List.set_cons_zero]
                        refine takeH 19 (.bool false) rfl (by kernel_rfl) (by kernel_rfl) (by kernel_rfl) (fun _ _ _ h => h) (by rfl) (fun v hv => by go_simp) (hkd.out.trans hy1) ?_
                        simp only [Act.put, List.setIfInBounds_toArray, List.set_cons_succ, List.set_cons_zero]
                        refine wpAnyH_done (by kernel_rfl) ?_ _
                        have hJI2 := hid (show JI w2 y1 p hb q jobs life least (i + 1) nw from by
                          obtain ⟨Z9, es9, ss9, fl9, k9, j9⟩ := hJI.out
                          exact ⟨Z9, es9, ss9, fl9, k9, j9.keep (hkd.out.trans hy1)⟩)
                        clear hy1 hH0 hJI hml hml1 hle hlo hcj hgt hpl hpc hkd CT
                        go_wp2
                        go_roundw
                        case rel => exact ⟨i + 1, nw, HLT.out, by go_num, rfl, hJI2⟩
                        case measure => simp [intOf]; omega
                    · have hne : (er == 0) = false := by simpa using her0
                      have JT := hid (JW.out.turn (ss' := ss) (fl' := fl.drop 1) (k' := k + 1) k3 hZ3 (by have h := c3; unfold ifOK at h; simpa [her0] using h) (by have := JW.out.hk; have := I50.out; omega) JW.out.pn)
                      clear k3 hZ3 c3 hpu hc1 hc2 hc3 hc4 her0
                      go_wp2_with fail
                      as_aux_lemma =>
                        have CT := hid JT.out.cw
                        have hkd := hid (show Kept [] W3 W3.drew from (Kept.refl [] W3).drew)
                        have hpc := hid (cw_pending (CT.out.keep hkd.out (by simp)) nw (by have := JT.out.n0; omega) (by have := JT.out.n1; have := I50.out; omega))
                        have hpl := JT.out.pend
                        obtain ⟨pn, hpn⟩ : ∃ pn, pn = pendT ss nw life := ⟨_, rfl⟩
                        rw [← hpn] at hpc hpl
                        have hgt : ¬ jobs < (pn : Int) := by omega
                        have hcj := hid (fun X (hX : Kept [] W3 X) => HBX.out X (CT.out.kept.trans hX))
                        have hlo := hid (fun X (hX : Kept [] W3 X) => cw_lost (CT.out.keep hX (by simp)))
                        have hle := hid (fun X (hX : Kept [] W3 X) => cw_len (CT.out.keep hX (by simp)))
                        have hml := hid (fun X (hX : Kept [] W3 X) ty => mt_len_c (JT.out.mp.kept hX (by simp)) ty)
                        obtain ⟨el, hel⟩ : ∃ el, el = es.length := ⟨_, rfl⟩
                        rw [← hel] at hle
                        rw [List.length_map, ← hel] at hml
                        have hJI := hid (show JI w2 W3 p hb q jobs life least (i + 1) nw from ⟨_, _, _, _, _, JT.out⟩)
                        clear hpn hel
                        go_wp2_with fail
                        have hH0 : Kept [] W3 W3.drew := hkd.out
                        refine wp_region_held_drew (S := fun v => Kept [] W3 v) (by kernel_rfl) hH0 (fun hH => ?_)
                        refine takeH 0 (.pointer (some ⟨p, 0, none⟩)) rfl (by kernel_rfl) (by kernel_rfl) (by kernel_rfl) (fun _ _ _ h => h) (by rfl) (fun v hv => by go_simp) hH ?_
                        simp only [Act.put, List.setIfInBounds_toArray, List.set_cons_succ, List.set_cons_zero]
                        refine takeH 1 (.int .i64 nw) rfl (by kernel_rfl) (by kernel_rfl) (by kernel_rfl) (fun _ _ _ h => h) (by rfl) (fun v hv => by go_simp) hH ?_
                        simp only [Act.put, List.setIfInBounds_toArray, List.set_cons_succ, List.set_cons_zero]
                        refine takeH 3 (.pointer (some ⟨bx, 1, none⟩)) rfl (by kernel_rfl) (by kernel_rfl) (by kernel_rfl) (fun _ _ _ h => h) (by rfl) (fun v hv => by go_simp) hH ?_
                        simp only [Act.put, List.setIfInBounds_toArray, List.set_cons_succ, List.set_cons_zero]
                        refine takeH 4 (.int .i64 jobs) rfl (by kernel_rfl) (by kernel_rfl) (by kernel_rfl) (fun _ _ _ h => h) (by rfl) (fun v hv => by have h := (hcj.out v hv).1; go_simp) hH ?_
                        simp only [Act.put, List.setIfInBounds_toArray, List.set_cons_succ, List.set_cons_zero]
                        refine callR 2 rfl (by kernel_rfl) (by rfl) 28 #[.pointer (some ⟨p, 0, none⟩), .int .i64 nw] (by go_simp) (.int .i64 (pn : Int)) (fun v => Kept [] W3.drew v) (fun v h => hkd.out.trans h) (hpc.out) ?_
                        rintro y1 hy1
                        simp only [Act.put, List.setIfInBounds_toArray, List.set_cons_succ, List.set_cons_zero]
                        refine takeH 5 (.bool false) rfl (by kernel_rfl) (by kernel_rfl) (by kernel_rfl) (fun _ _ _ h => h) (by rfl) (fun v hv => by have h := hgt; go_simp) (hkd.out.trans hy1) ?_
                        simp only [Act.put, List.setIfInBounds_toArray, List.set_cons_succ, List.set_cons_zero]
                        refine takeH 6 (.bool false) rfl (by kernel_rfl) (by kernel_rfl) (by kernel_rfl) (fun _ _ _ h => h) (by rfl) (fun v hv => by go_simp) (hkd.out.trans hy1) ?_
                        simp only [Act.put, List.setIfInBounds_toArray, List.set_cons_succ, List.set_cons_zero]
                        refine takeH 7 (.pointer (some ⟨p, 0, none⟩)) rfl (by kernel_rfl) (by kernel_rfl) (by kernel_rfl) (fun _ _ _ h => h) (by rfl) (fun v hv => by go_simp) (hkd.out.trans hy1) ?_
                        simp only [Act.put, List.setIfInBounds_toArray, List.set_cons_succ, List.set_cons_zero]
                        refine callR 8 rfl (by kernel_rfl) (by rfl) 29 #[.pointer (some ⟨p, 0, none⟩)] (by go_simp) (.int .i64 0) (fun v => y1 = v) (fun v h => h ▸ (hkd.out.trans hy1)) (hlo.out _ (hkd.out.trans hy1)) ?_
                        rintro y2 rfl
                        simp only [Act.put, List.setIfInBounds_toArray, List.set_cons_succ, List.set_cons_zero]
                        refine takeH 9 (.bool false) rfl (by kernel_rfl) (by kernel_rfl) (by kernel_rfl) (fun _ _ _ h => h) (by rfl) (fun v hv => by go_simp) (hkd.out.trans hy1) ?_
                        simp only [Act.put, List.setIfInBounds_toArray, List.set_cons_succ, List.set_cons_zero]
                        refine takeH 10 (.bool false) rfl (by kernel_rfl) (by kernel_rfl) (by kernel_rfl) (fun _ _ _ h => h) (by rfl) (fun v hv => by go_simp) (hkd.out.trans hy1) ?_
                        simp only [Act.put, List.setIfInBounds_toArray, List.set_cons_succ, List.set_cons_zero]
                        refine takeH 11 (.bool false) rfl (by kernel_rfl) (by kernel_rfl) (by kernel_rfl) (fun _ _ _ h => h) (by rfl) (fun v hv => by go_simp) (hkd.out.trans hy1) ?_
                        simp only [Act.put, List.setIfInBounds_toArray, List.set_cons_succ, List.set_cons_zero]
                        refine takeH 12 (.pointer (some ⟨p, 0, none⟩)) rfl (by kernel_rfl) (by kernel_rfl) (by kernel_rfl) (fun _ _ _ h => h) (by rfl) (fun v hv => by go_simp) (hkd.out.trans hy1) ?_
                        simp only [Act.put, List.setIfInBounds_toArray, List.set_cons_succ, List.set_cons_zero]
                        refine takeH 13 (.pointer (some ⟨p, 0, none⟩)) rfl (by kernel_rfl) (by kernel_rfl) (by kernel_rfl) (fun _ _ _ h => h) (by rfl) (fun v hv => by go_simp) (hkd.out.trans hy1) ?_
                        simp only [Act.put, List.setIfInBounds_toArray, List.set_cons_succ, List.set_cons_zero]
                        refine takeH 14 (.pointer (some ⟨p, 0, none⟩)) rfl (by kernel_rfl) (by kernel_rfl) (by kernel_rfl) (fun _ _ _ h => h) (by rfl) (fun v hv => by go_simp) (hkd.out.trans hy1) ?_
                        simp only [Act.put, List.setIfInBounds_toArray, List.set_cons_succ, List.set_cons_zero]
                        refine takeH 16 (.map (some hb)) rfl (by kernel_rfl) (by kernel_rfl) (by kernel_rfl) (fun _ _ _ h => h) (by rfl) (fun v hv => by go_simp) (hkd.out.trans hy1) ?_
                        simp only [Act.put, List.setIfInBounds_toArray, List.set_cons_succ, List.set_cons_zero]
                        refine callR 15 rfl (by kernel_rfl) (by rfl) 30 #[.pointer (some ⟨p, 0, none⟩)] (by go_simp) (.int .i64 (el : Int)) (fun v => y1 = v) (fun v h => h ▸ (hkd.out.trans hy1)) (hle.out _ (hkd.out.trans hy1)) ?_
                        rintro y2 rfl
                        simp only [Act.put, List.setIfInBounds_toArray, List.set_cons_succ, List.set_cons_zero]
                        have hml1 := hml.out _ (hkd.out.trans hy1)
                        refine runH 17 rfl (by kernel_rfl) (by rfl) (.int .i64 (el : Int)) (y1) (by go_simp) ((hkd.out.trans hy1)) ?_
                        simp only [Act.put, List.setIfInBounds_toArray, List.set_cons_succ, List.set_cons_zero]
                        refine takeH 18 (.bool false) rfl (by kernel_rfl) (by kernel_rfl) (by kernel_rfl) (fun _ _ _ h => h) (by rfl) (fun v hv => by go_simp) (hkd.out.trans hy1) ?_
                        simp only [Act.put, List.setIfInBounds_toArray, List.set_cons_succ, List.set_cons_zero]
                        refine takeH 19 (.bool false) rfl (by kernel_rfl) (by kernel_rfl) (by kernel_rfl) (fun _ _ _ h => h) (by rfl) (fun v hv => by go_simp) (hkd.out.trans hy1) ?_
                        simp only [Act.put, List.setIfInBounds_toArray, List.set_cons_succ, List.set_cons_zero]
                        refine wpAnyH_done (by kernel_rfl) ?_ _
                        have hJI2 := hid (show JI w2 y1 p hb q jobs life least (i + 1) nw from by
                          obtain ⟨Z9, es9, ss9, fl9, k9, j9⟩ := hJI.out
                          exact ⟨Z9, es9, ss9, fl9, k9, j9.keep (hkd.out.trans hy1)⟩)
                        clear hy1 hH0 hJI hml hml1 hle hlo hcj hgt hpl hpc hkd CT
                        go_wp2
                        go_roundw
                        case rel => exact ⟨i + 1, nw, HLT.out, by go_num, rfl, hJI2⟩
                        case measure => simp [intOf]; omega
                  · have JT := hid JW.out.more
                    clear hc1 hc2 hc3 hc4
                    go_wp2_with fail
                    as_aux_lemma =>
                      have CT := hid JT.out.cw
                      have hkd := hid (show Kept [] W W.drew from (Kept.refl [] W).drew)
                      have hpc := hid (cw_pending (CT.out.keep hkd.out (by simp)) nw (by have := JT.out.n0; omega) (by have := JT.out.n1; have := I50.out; omega))
                      have hpl := JT.out.pend
                      obtain ⟨pn, hpn⟩ : ∃ pn, pn = pendT ss nw life := ⟨_, rfl⟩
                      rw [← hpn] at hpc hpl
                      have hgt : ¬ jobs < (pn : Int) := by omega
                      have hcj := hid (fun X (hX : Kept [] W X) => HBX.out X (CT.out.kept.trans hX))
                      have hlo := hid (fun X (hX : Kept [] W X) => cw_lost (CT.out.keep hX (by simp)))
                      have hle := hid (fun X (hX : Kept [] W X) => cw_len (CT.out.keep hX (by simp)))
                      have hml := hid (fun X (hX : Kept [] W X) ty => mt_len_c (JT.out.mp.kept hX (by simp)) ty)
                      obtain ⟨el, hel⟩ : ∃ el, el = es.length := ⟨_, rfl⟩
                      rw [← hel] at hle
                      rw [List.length_map, ← hel] at hml
                      have hJI := hid (show JI w2 W p hb q jobs life least (i + 1) nw from ⟨_, _, _, _, _, JT.out⟩)
                      clear hpn hel
                      go_wp2_with fail
                      have hH0 : Kept [] W W.drew := hkd.out
                      refine wp_region_held_drew (S := fun v => Kept [] W v) (by kernel_rfl) hH0 (fun hH => ?_)
                      refine takeH 0 (.pointer (some ⟨p, 0, none⟩)) rfl (by kernel_rfl) (by kernel_rfl) (by kernel_rfl) (fun _ _ _ h => h) (by rfl) (fun v hv => by go_simp) hH ?_
                      simp only [Act.put, List.setIfInBounds_toArray, List.set_cons_succ, List.set_cons_zero]
                      refine takeH 1 (.int .i64 nw) rfl (by kernel_rfl) (by kernel_rfl) (by kernel_rfl) (fun _ _ _ h => h) (by rfl) (fun v hv => by go_simp) hH ?_
                      simp only [Act.put, List.setIfInBounds_toArray, List.set_cons_succ, List.set_cons_zero]
                      refine takeH 3 (.pointer (some ⟨bx, 1, none⟩)) rfl (by kernel_rfl) (by kernel_rfl) (by kernel_rfl) (fun _ _ _ h => h) (by rfl) (fun v hv => by go_simp) hH ?_
                      simp only [Act.put, List.setIfInBounds_toArray, List.set_cons_succ, List.set_cons_zero]
                      refine takeH 4 (.int .i64 jobs) rfl (by kernel_rfl) (by kernel_rfl) (by kernel_rfl) (fun _ _ _ h => h) (by rfl) (fun v hv => by have h := (hcj.out v hv).1; go_simp) hH ?_
                      simp only [Act.put, List.setIfInBounds_toArray, List.set_cons_succ, List.set_cons_zero]
                      refine callR 2 rfl (by kernel_rfl) (by rfl) 28 #[.pointer (some ⟨p, 0, none⟩), .int .i64 nw] (by go_simp) (.int .i64 (pn : Int)) (fun v => Kept [] W.drew v) (fun v h => hkd.out.trans h) (hpc.out) ?_
                      rintro y1 hy1
                      simp only [Act.put, List.setIfInBounds_toArray, List.set_cons_succ, List.set_cons_zero]
                      refine takeH 5 (.bool false) rfl (by kernel_rfl) (by kernel_rfl) (by kernel_rfl) (fun _ _ _ h => h) (by rfl) (fun v hv => by have h := hgt; go_simp) (hkd.out.trans hy1) ?_
                      simp only [Act.put, List.setIfInBounds_toArray, List.set_cons_succ, List.set_cons_zero]
                      refine takeH 6 (.bool false) rfl (by kernel_rfl) (by kernel_rfl) (by kernel_rfl) (fun _ _ _ h => h) (by rfl) (fun v hv => by go_simp) (hkd.out.trans hy1) ?_
                      simp only [Act.put, List.setIfInBounds_toArray, List.set_cons_succ, List.set_cons_zero]
                      refine takeH 7 (.pointer (some ⟨p, 0, none⟩)) rfl (by kernel_rfl) (by kernel_rfl) (by kernel_rfl) (fun _ _ _ h => h) (by rfl) (fun v hv => by go_simp) (hkd.out.trans hy1) ?_
                      simp only [Act.put, List.setIfInBounds_toArray, List.set_cons_succ, List.set_cons_zero]
                      refine callR 8 rfl (by kernel_rfl) (by rfl) 29 #[.pointer (some ⟨p, 0, none⟩)] (by go_simp) (.int .i64 0) (fun v => y1 = v) (fun v h => h ▸ (hkd.out.trans hy1)) (hlo.out _ (hkd.out.trans hy1)) ?_
                      rintro y2 rfl
                      simp only [Act.put, List.setIfInBounds_toArray, List.set_cons_succ, List.set_cons_zero]
                      refine takeH 9 (.bool false) rfl (by kernel_rfl) (by kernel_rfl) (by kernel_rfl) (fun _ _ _ h => h) (by rfl) (fun v hv => by go_simp) (hkd.out.trans hy1) ?_
                      simp only [Act.put, List.setIfInBounds_toArray, List.set_cons_succ, List.set_cons_zero]
                      refine takeH 10 (.bool false) rfl (by kernel_rfl) (by kernel_rfl) (by kernel_rfl) (fun _ _ _ h => h) (by rfl) (fun v hv => by go_simp) (hkd.out.trans hy1) ?_
                      simp only [Act.put, List.setIfInBounds_toArray, List.set_cons_succ, List.set_cons_zero]
                      refine takeH 11 (.bool false) rfl (by kernel_rfl) (by kernel_rfl) (by kernel_rfl) (fun _ _ _ h => h) (by rfl) (fun v hv => by go_simp) (hkd.out.trans hy1) ?_
                      simp only [Act.put, List.setIfInBounds_toArray, List.set_cons_succ, List.set_cons_zero]
                      refine takeH 12 (.pointer (some ⟨p, 0, none⟩)) rfl (by kernel_rfl) (by kernel_rfl) (by kernel_rfl) (fun _ _ _ h => h) (by rfl) (fun v hv => by go_simp) (hkd.out.trans hy1) ?_
                      simp only [Act.put, List.setIfInBounds_toArray, List.set_cons_succ, List.set_cons_zero]
                      refine takeH 13 (.pointer (some ⟨p, 0, none⟩)) rfl (by kernel_rfl) (by kernel_rfl) (by kernel_rfl) (fun _ _ _ h => h) (by rfl) (fun v hv => by go_simp) (hkd.out.trans hy1) ?_
                      simp only [Act.put, List.setIfInBounds_toArray, List.set_cons_succ, List.set_cons_zero]
                      refine takeH 14 (.pointer (some ⟨p, 0, none⟩)) rfl (by kernel_rfl) (by kernel_rfl) (by kernel_rfl) (fun _ _ _ h => h) (by rfl) (fun v hv => by go_simp) (hkd.out.trans hy1) ?_
                      simp only [Act.put, List.setIfInBounds_toArray, List.set_cons_succ, List.set_cons_zero]
                      refine takeH 16 (.map (some hb)) rfl (by kernel_rfl) (by kernel_rfl) (by kernel_rfl) (fun _ _ _ h => h) (by rfl) (fun v hv => by go_simp) (hkd.out.trans hy1) ?_
                      simp only [Act.put, List.setIfInBounds_toArray, List.set_cons_succ, List.set_cons_zero]
                      refine callR 15 rfl (by kernel_rfl) (by rfl) 30 #[.pointer (some ⟨p, 0, none⟩)] (by go_simp) (.int .i64 (el : Int)) (fun v => y1 = v) (fun v h => h ▸ (hkd.out.trans hy1)) (hle.out _ (hkd.out.trans hy1)) ?_
                      rintro y2 rfl
                      simp only [Act.put, List.setIfInBounds_toArray, List.set_cons_succ, List.set_cons_zero]
                      have hml1 := hml.out _ (hkd.out.trans hy1)
                      refine runH 17 rfl (by kernel_rfl) (by rfl) (.int .i64 (el : Int)) (y1) (by go_simp) ((hkd.out.trans hy1)) ?_
                      simp only [Act.put, List.setIfInBounds_toArray, List.set_cons_succ, List.set_cons_zero]
                      refine takeH 18 (.bool false) rfl (by kernel_rfl) (by kernel_rfl) (by kernel_rfl) (fun _ _ _ h => h) (by rfl) (fun v hv => by go_simp) (hkd.out.trans hy1) ?_
                      simp only [Act.put, List.setIfInBounds_toArray, List.set_cons_succ, List.set_cons_zero]
                      refine takeH 19 (.bool false) rfl (by kernel_rfl) (by kernel_rfl) (by kernel_rfl) (fun _ _ _ h => h) (by rfl) (fun v hv => by go_simp) (hkd.out.trans hy1) ?_
                      simp only [Act.put, List.setIfInBounds_toArray, List.set_cons_succ, List.set_cons_zero]
                      refine wpAnyH_done (by kernel_rfl) ?_ _
                      have hJI2 := hid (show JI w2 y1 p hb q jobs life least (i + 1) nw from by
                        obtain ⟨Z9, es9, ss9, fl9, k9, j9⟩ := hJI.out
                        exact ⟨Z9, es9, ss9, fl9, k9, j9.keep (hkd.out.trans hy1)⟩)
                      clear hy1 hH0 hJI hml hml1 hle hlo hcj hgt hpl hpc hkd CT
                      go_wp2
                      go_roundw
                      case rel => exact ⟨i + 1, nw, HLT.out, by go_num, rfl, hJI2⟩
                      case measure => simp [intOf]; omega
              · have e1 : (o.kind == 1) = false := by simp [hk1]
                by_cases hk2 : o.kind = 2
                · have e2 : (o.kind == 2) = true := by simp [hk2]
                  clear hk2
                  as_aux_lemma =>
                    obtain ⟨er, her⟩ : ∃ er, er = dropC es ss fl o.nm nw least false := ⟨_, rfl⟩
                    have HER := hid her
                    have hdr := hid (cw_drop JW.out.cw (by have := JW.out.hk; have := I50.out; omega) o.nm (by have := HOF.out.1; omega) nw (by have := JW.out.n0; omega) (by have := JW.out.n1; have := I50.out; omega) false er her.symm)
                    clear her
                    go_wp2_with fail
                    refine hdr.out.mono ?_
                    rintro e W3 ⟨rfl, k3, c3⟩
                    by_cases her0 : er = 0
                    · subst her0
                      have hl0 : leftT ss o.nm nw least = 0 := by
                        have h1 := HER.out
                        unfold dropC at h1
                        have h2 := leftT_in ss o.nm nw least
                        by_cases h3 : 0 < leftT ss o.nm nw least
                        · rw [if_pos ⟨rfl, h3⟩] at h1
                          split at h1
                          · omega
                          · omega
                        · omega
                      rw [hl0] at c3
                      obtain ⟨W5, hde, j5⟩ := JW.out.del k3 o.nm HOF.out.1 (by have h : Cw w2 W3 Z p q (delE o.nm es) (delE o.nm ss) (fl.drop 1) (k + 1) jobs life least (addT 0 0) := c3; rw [show addT 0 0 = 0 by decide] at h; exact h)
                      have JT := hid j5
                      have hd1 := (HCS.out W3 _ k3 hqZ.out).1
                      clear k3 c3 j5 hdr hc1 hc2 hc3 hc4 hl0
                      go_wp2_with fail
                      as_aux_lemma =>
                        have CT := hid JT.out.cw
                        have hkd := hid (show Kept [] W5 W5.drew from (Kept.refl [] W5).drew)
                        have hpc := hid (cw_pending (CT.out.keep hkd.out (by simp)) nw (by have := JT.out.n0; omega) (by have := JT.out.n1; have := I50.out; omega))
                        have hpl := JT.out.pend
                        obtain ⟨pn, hpn⟩ : ∃ pn, pn = pendT (delE o.nm ss) nw life := ⟨_, rfl⟩
                        rw [← hpn] at hpc hpl
                        have hgt : ¬ jobs < (pn : Int) := by omega
                        have hcj := hid (fun X (hX : Kept [] W5 X) => HBX.out X (CT.out.kept.trans hX))
                        have hlo := hid (fun X (hX : Kept [] W5 X) => cw_lost (CT.out.keep hX (by simp)))
                        have hle := hid (fun X (hX : Kept [] W5 X) => cw_len (CT.out.keep hX (by simp)))
                        have hml := hid (fun X (hX : Kept [] W5 X) ty => mt_len_c (JT.out.mp.kept hX (by simp)) ty)
                        obtain ⟨el, hel⟩ : ∃ el, el = (delE o.nm es).length := ⟨_, rfl⟩
                        rw [← hel] at hle
                        rw [List.length_map, ← hel] at hml
                        have hJI := hid (show JI w2 W5 p hb q jobs life least (i + 1) nw from ⟨_, _, _, _, _, JT.out⟩)
                        clear hpn hel hde hd1
                        go_wp2_with fail
                        have hH0 : Kept [] W5 W5.drew := hkd.out
                        refine wp_region_held_drew (S := fun v => Kept [] W5 v) (by kernel_rfl) hH0 (fun hH => ?_)
                        refine takeH 0 (.pointer (some ⟨p, 0, none⟩)) rfl (by kernel_rfl) (by kernel_rfl) (by kernel_rfl) (fun _ _ _ h => h) (by rfl) (fun v hv => by go_simp) hH ?_
                        simp only [Act.put, List.setIfInBounds_toArray, List.set_cons_succ, List.set_cons_zero]
                        refine takeH 1 (.int .i64 nw) rfl (by kernel_rfl) (by kernel_rfl) (by kernel_rfl) (fun _ _ _ h => h) (by rfl) (fun v hv => by go_simp) hH ?_
                        simp only [Act.put, List.setIfInBounds_toArray, List.set_cons_succ, List.set_cons_zero]
                        refine takeH 3 (.pointer (some ⟨bx, 1, none⟩)) rfl (by kernel_rfl) (by kernel_rfl) (by kernel_rfl) (fun _ _ _ h => h) (by rfl) (fun v hv => by go_simp) hH ?_
                        simp only [Act.put, List.setIfInBounds_toArray, List.set_cons_succ, List.set_cons_zero]
                        refine takeH 4 (.int .i64 jobs) rfl (by kernel_rfl) (by kernel_rfl) (by kernel_rfl) (fun _ _ _ h => h) (by rfl) (fun v hv => by have h := (hcj.out v hv).1; go_simp) hH ?_
                        simp only [Act.put, List.setIfInBounds_toArray, List.set_cons_succ, List.set_cons_zero]
                        refine callR 2 rfl (by kernel_rfl) (by rfl) 28 #[.pointer (some ⟨p, 0, none⟩), .int .i64 nw] (by go_simp) (.int .i64 (pn : Int)) (fun v => Kept [] W5.drew v) (fun v h => hkd.out.trans h) (hpc.out) ?_
                        rintro y1 hy1
                        simp only [Act.put, List.setIfInBounds_toArray, List.set_cons_succ, List.set_cons_zero]
                        refine takeH 5 (.bool false) rfl (by kernel_rfl) (by kernel_rfl) (by kernel_rfl) (fun _ _ _ h => h) (by rfl) (fun v hv => by have h := hgt; go_simp) (hkd.out.trans hy1) ?_
                        simp only [Act.put, List.setIfInBounds_toArray, List.set_cons_succ, List.set_cons_zero]
                        refine takeH 6 (.bool false) rfl (by kernel_rfl) (by kernel_rfl) (by kernel_rfl) (fun _ _ _ h => h) (by rfl) (fun v hv => by go_simp) (hkd.out.trans hy1) ?_
                        simp only [Act.put, List.setIfInBounds_toArray, List.set_cons_succ, List.set_cons_zero]
                        refine takeH 7 (.pointer (some ⟨p, 0, none⟩)) rfl (by kernel_rfl) (by kernel_rfl) (by kernel_rfl) (fun _ _ _ h => h) (by rfl) (fun v hv => by go_simp) (hkd.out.trans hy1) ?_
                        simp only [Act.put, List.setIfInBounds_toArray, List.set_cons_succ, List.set_cons_zero]
                        refine callR 8 rfl (by kernel_rfl) (by rfl) 29 #[.pointer (some ⟨p, 0, none⟩)] (by go_simp) (.int .i64 0) (fun v => y1 = v) (fun v h => h ▸ (hkd.out.trans hy1)) (hlo.out _ (hkd.out.trans hy1)) ?_
                        rintro y2 rfl
                        simp only [Act.put, List.setIfInBounds_toArray, List.set_cons_succ, List.set_cons_zero]
                        refine takeH 9 (.bool false) rfl (by kernel_rfl) (by kernel_rfl) (by kernel_rfl) (fun _ _ _ h => h) (by rfl) (fun v hv => by go_simp) (hkd.out.trans hy1) ?_
                        simp only [Act.put, List.setIfInBounds_toArray, List.set_cons_succ, List.set_cons_zero]
                        refine takeH 10 (.bool false) rfl (by kernel_rfl) (by kernel_rfl) (by kernel_rfl) (fun _ _ _ h => h) (by rfl) (fun v hv => by go_simp) (hkd.out.trans hy1) ?_
                        simp only [Act.put, List.setIfInBounds_toArray, List.set_cons_succ, List.set_cons_zero]
                        refine takeH 11 (.bool false) rfl (by kernel_rfl) (by kernel_rfl) (by kernel_rfl) (fun _ _ _ h => h) (by rfl) (fun v hv => by go_simp) (hkd.out.trans hy1) ?_
                        simp only [Act.put, List.setIfInBounds_toArray, List.set_cons_succ, List.set_cons_zero]
                        refine takeH 12 (.pointer (some ⟨p, 0, none⟩)) rfl (by kernel_rfl) (by kernel_rfl) (by kernel_rfl) (fun _ _ _ h => h) (by rfl) (fun v hv => by go_simp) (hkd.out.trans hy1) ?_
                        simp only [Act.put, List.setIfInBounds_toArray, List.set_cons_succ, List.set_cons_zero]
                        refine takeH 13 (.pointer (some ⟨p, 0, none⟩)) rfl (by kernel_rfl) (by kernel_rfl) (by kernel_rfl) (fun _ _ _ h => h) (by rfl) (fun v hv => by go_simp) (hkd.out.trans hy1) ?_
                        simp only [Act.put, List.setIfInBounds_toArray, List.set_cons_succ, List.set_cons_zero]
                        refine takeH 14 (.pointer (some ⟨p, 0, none⟩)) rfl (by kernel_rfl) (by kernel_rfl) (by kernel_rfl) (fun _ _ _ h => h) (by rfl) (fun v hv => by go_simp) (hkd.out.trans hy1) ?_
                        simp only [Act.put, List.setIfInBounds_toArray, List.set_cons_succ, List.set_cons_zero]
                        refine takeH 16 (.map (some hb)) rfl (by kernel_rfl) (by kernel_rfl) (by kernel_rfl) (fun _ _ _ h => h) (by rfl) (fun v hv => by go_simp) (hkd.out.trans hy1) ?_
                        simp only [Act.put, List.setIfInBounds_toArray, List.set_cons_succ, List.set_cons_zero]
                        refine callR 15 rfl (by kernel_rfl) (by rfl) 30 #[.pointer (some ⟨p, 0, none⟩)] (by go_simp) (.int .i64 (el : Int)) (fun v => y1 = v) (fun v h => h ▸ (hkd.out.trans hy1)) (hle.out _ (hkd.out.trans hy1)) ?_
                        rintro y2 rfl
                        simp only [Act.put, List.setIfInBounds_toArray, List.set_cons_succ, List.set_cons_zero]
                        have hml1 := hml.out _ (hkd.out.trans hy1)
                        refine runH 17 rfl (by kernel_rfl) (by rfl) (.int .i64 (el : Int)) (y1) (by go_simp) ((hkd.out.trans hy1)) ?_
                        simp only [Act.put, List.setIfInBounds_toArray, List.set_cons_succ, List.set_cons_zero]
                        refine takeH 18 (.bool false) rfl (by kernel_rfl) (by kernel_rfl) (by kernel_rfl) (fun _ _ _ h => h) (by rfl) (fun v hv => by go_simp) (hkd.out.trans hy1) ?_
                        simp only [Act.put, List.setIfInBounds_toArray, List.set_cons_succ, List.set_cons_zero]
                        refine takeH 19 (.bool false) rfl (by kernel_rfl) (by kernel_rfl) (by kernel_rfl) (fun _ _ _ h => h) (by rfl) (fun v hv => by go_simp) (hkd.out.trans hy1) ?_
                        simp only [Act.put, List.setIfInBounds_toArray, List.set_cons_succ, List.set_cons_zero]
                        refine wpAnyH_done (by kernel_rfl) ?_ _
                        have hJI2 := hid (show JI w2 y1 p hb q jobs life least (i + 1) nw from by
                          obtain ⟨Z9, es9, ss9, fl9, k9, j9⟩ := hJI.out
                          exact ⟨Z9, es9, ss9, fl9, k9, j9.keep (hkd.out.trans hy1)⟩)
                        clear hy1 hH0 hJI hml hml1 hle hlo hcj hgt hpl hpc hkd CT
                        go_wp2
                        go_roundw
                        case rel => exact ⟨i + 1, nw, HLT.out, by go_num, rfl, hJI2⟩
                        case measure => simp [intOf]; omega
                    · have hne : (er == 0) = false := by simpa using her0
                      have JT := hid (JW.out.turn (Z' := Z) (ss' := ss) (fl' := fl.drop 1) (k' := k + 1) k3 (fun x hx => Or.inl hx) (by have h := c3; unfold ifOK at h; simpa [her0] using h) (by have := JW.out.hk; have := I50.out; omega) JW.out.pn)
                      clear k3 c3 hdr hc1 hc2 hc3 hc4 her0
                      go_wp2_with fail
                      as_aux_lemma =>
                        have CT := hid JT.out.cw
                        have hkd := hid (show Kept [] W3 W3.drew from (Kept.refl [] W3).drew)
                        have hpc := hid (cw_pending (CT.out.keep hkd.out (by simp)) nw (by have := JT.out.n0; omega) (by have := JT.out.n1; have := I50.out; omega))
                        have hpl := JT.out.pend
                        obtain ⟨pn, hpn⟩ : ∃ pn, pn = pendT ss nw life := ⟨_, rfl⟩
                        rw [← hpn] at hpc hpl
                        have hgt : ¬ jobs < (pn : Int) := by omega
                        have hcj := hid (fun X (hX : Kept [] W3 X) => HBX.out X (CT.out.kept.trans hX))
                        have hlo := hid (fun X (hX : Kept [] W3 X) => cw_lost (CT.out.keep hX (by simp)))
                        have hle := hid (fun X (hX : Kept [] W3 X) => cw_len (CT.out.keep hX (by simp)))
                        have hml := hid (fun X (hX : Kept [] W3 X) ty => mt_len_c (JT.out.mp.kept hX (by simp)) ty)
                        obtain ⟨el, hel⟩ : ∃ el, el = es.length := ⟨_, rfl⟩
                        rw [← hel] at hle
                        rw [List.length_map, ← hel] at hml
                        have hJI := hid (show JI w2 W3 p hb q jobs life least (i + 1) nw from ⟨_, _, _, _, _, JT.out⟩)
                        clear hpn hel
                        go_wp2_with fail
                        have hH0 : Kept [] W3 W3.drew := hkd.out
                        refine wp_region_held_drew (S := fun v => Kept [] W3 v) (by kernel_rfl) hH0 (fun hH => ?_)
                        refine takeH 0 (.pointer (some ⟨p, 0, none⟩)) rfl (by kernel_rfl) (by kernel_rfl) (by kernel_rfl) (fun _ _ _ h => h) (by rfl) (fun v hv => by go_simp) hH ?_
                        simp only [Act.put, List.setIfInBounds_toArray, List.set_cons_succ, List.set_cons_zero]
                        refine takeH 1 (.int .i64 nw) rfl (by kernel_rfl) (by kernel_rfl) (by kernel_rfl) (fun _ _ _ h => h) (by rfl) (fun v hv => by go_simp) hH ?_
                        simp only [Act.put, List.setIfInBounds_toArray, List.set_cons_succ, List.set_cons_zero]
                        refine takeH 3 (.pointer (some ⟨bx, 1, none⟩)) rfl (by kernel_rfl) (by kernel_rfl) (by kernel_rfl) (fun _ _ _ h => h) (by rfl) (fun v hv => by go_simp) hH ?_
                        simp only [Act.put, List.setIfInBounds_toArray, List.set_cons_succ, List.set_cons_zero]
                        refine takeH 4 (.int .i64 jobs) rfl (by kernel_rfl) (by kernel_rfl) (by kernel_rfl) (fun _ _ _ h => h) (by rfl) (fun v hv => by have h := (hcj.out v hv).1; go_simp) hH ?_
                        simp only [Act.put, List.setIfInBounds_toArray, List.set_cons_succ, List.set_cons_zero]
                        refine callR 2 rfl (by kernel_rfl) (by rfl) 28 #[.pointer (some ⟨p, 0, none⟩), .int .i64 nw] (by go_simp) (.int .i64 (pn : Int)) (fun v => Kept [] W3.drew v) (fun v h => hkd.out.trans h) (hpc.out) ?_
                        rintro y1 hy1
                        simp only [Act.put, List.setIfInBounds_toArray, List.set_cons_succ, List.set_cons_zero]
                        refine takeH 5 (.bool false) rfl (by kernel_rfl) (by kernel_rfl) (by kernel_rfl) (fun _ _ _ h => h) (by rfl) (fun v hv => by have h := hgt; go_simp) (hkd.out.trans hy1) ?_
                        simp only [Act.put, List.setIfInBounds_toArray, List.set_cons_succ, List.set_cons_zero]
                        refine takeH 6 (.bool false) rfl (by kernel_rfl) (by kernel_rfl) (by kernel_rfl) (fun _ _ _ h => h) (by rfl) (fun v hv => by go_simp) (hkd.out.trans hy1) ?_
                        simp only [Act.put, List.setIfInBounds_toArray, List.set_cons_succ, List.set_cons_zero]
                        refine takeH 7 (.pointer (some ⟨p, 0, none⟩)) rfl (by kernel_rfl) (by kernel_rfl) (by kernel_rfl) (fun _ _ _ h => h) (by rfl) (fun v hv => by go_simp) (hkd.out.trans hy1) ?_
                        simp only [Act.put, List.setIfInBounds_toArray, List.set_cons_succ, List.set_cons_zero]
                        refine callR 8 rfl (by kernel_rfl) (by rfl) 29 #[.pointer (some ⟨p, 0, none⟩)] (by go_simp) (.int .i64 0) (fun v => y1 = v) (fun v h => h ▸ (hkd.out.trans hy1)) (hlo.out _ (hkd.out.trans hy1)) ?_
                        rintro y2 rfl
                        simp only [Act.put, List.setIfInBounds_toArray, List.set_cons_succ, List.set_cons_zero]
                        refine takeH 9 (.bool false) rfl (by kernel_rfl) (by kernel_rfl) (by kernel_rfl) (fun _ _ _ h => h) (by rfl) (fun v hv => by go_simp) (hkd.out.trans hy1) ?_
                        simp only [Act.put, List.setIfInBounds_toArray, List.set_cons_succ, List.set_cons_zero]
                        refine takeH 10 (.bool false) rfl (by kernel_rfl) (by kernel_rfl) (by kernel_rfl) (fun _ _ _ h => h) (by rfl) (fun v hv => by go_simp) (hkd.out.trans hy1) ?_
                        simp only [Act.put, List.setIfInBounds_toArray, List.set_cons_succ, List.set_cons_zero]
                        refine takeH 11 (.bool false) rfl (by kernel_rfl) (by kernel_rfl) (by kernel_rfl) (fun _ _ _ h => h) (by rfl) (fun v hv => by go_simp) (hkd.out.trans hy1) ?_
                        simp only [Act.put, List.setIfInBounds_toArray, List.set_cons_succ, List.set_cons_zero]
                        refine takeH 12 (.pointer (some ⟨p, 0, none⟩)) rfl (by kernel_rfl) (by kernel_rfl) (by kernel_rfl) (fun _ _ _ h => h) (by rfl) (fun v hv => by go_simp) (hkd.out.trans hy1) ?_
                        simp only [Act.put, List.setIfInBounds_toArray, List.set_cons_succ, List.set_cons_zero]
                        refine takeH 13 (.pointer (some ⟨p, 0, none⟩)) rfl (by kernel_rfl) (by kernel_rfl) (by kernel_rfl) (fun _ _ _ h => h) (by rfl) (fun v hv => by go_simp) (hkd.out.trans hy1) ?_
                        simp only [Act.put, List.setIfInBounds_toArray, List.set_cons_succ, List.set_cons_zero]
                        refine takeH 14 (.pointer (some ⟨p, 0, none⟩)) rfl (by kernel_rfl) (by kernel_rfl) (by kernel_rfl) (fun _ _ _ h => h) (by rfl) (fun v hv => by go_simp) (hkd.out.trans hy1) ?_
                        simp only [Act.put, List.setIfInBounds_toArray, List.set_cons_succ, List.set_cons_zero]
                        refine takeH 16 (.map (some hb)) rfl (by kernel_rfl) (by kernel_rfl) (by kernel_rfl) (fun _ _ _ h => h) (by rfl) (fun v hv => by go_simp) (hkd.out.trans hy1) ?_
                        simp only [Act.put, List.setIfInBounds_toArray, List.set_cons_succ, List.set_cons_zero]
                        refine callR 15 rfl (by kernel_rfl) (by rfl) 30 #[.pointer (some ⟨p, 0, none⟩)] (by go_simp) (.int .i64 (el : Int)) (fun v => y1 = v) (fun v h => h ▸ (hkd.out.trans hy1)) (hle.out _ (hkd.out.trans hy1)) ?_
                        rintro y2 rfl
                        simp only [Act.put, List.setIfInBounds_toArray, List.set_cons_succ, List.set_cons_zero]
                        have hml1 := hml.out _ (hkd.out.trans hy1)
                        refine runH 17 rfl (by kernel_rfl) (by rfl) (.int .i64 (el : Int)) (y1) (by go_simp) ((hkd.out.trans hy1)) ?_
                        simp only [Act.put, List.setIfInBounds_toArray, List.set_cons_succ, List.set_cons_zero]
                        refine takeH 18 (.bool false) rfl (by kernel_rfl) (by kernel_rfl) (by kernel_rfl) (fun _ _ _ h => h) (by rfl) (fun v hv => by go_simp) (hkd.out.trans hy1) ?_
                        simp only [Act.put, List.setIfInBounds_toArray, List.set_cons_succ, List.set_cons_zero]
                        refine takeH 19 (.bool false) rfl (by kernel_rfl) (by kernel_rfl) (by kernel_rfl) (fun _ _ _ h => h) (by rfl) (fun v hv => by go_simp) (hkd.out.trans hy1) ?_
                        simp only [Act.put, List.setIfInBounds_toArray, List.set_cons_succ, List.set_cons_zero]
                        refine wpAnyH_done (by kernel_rfl) ?_ _
                        have hJI2 := hid (show JI w2 y1 p hb q jobs life least (i + 1) nw from by
                          obtain ⟨Z9, es9, ss9, fl9, k9, j9⟩ := hJI.out
                          exact ⟨Z9, es9, ss9, fl9, k9, j9.keep (hkd.out.trans hy1)⟩)
                        clear hy1 hH0 hJI hml hml1 hle hlo hcj hgt hpl hpc hkd CT
                        go_wp2
                        go_roundw
                        case rel => exact ⟨i + 1, nw, HLT.out, by go_num, rfl, hJI2⟩
                        case measure => simp [intOf]; omega
                · have e2 : (o.kind == 2) = false := by simp [hk2]
                  by_cases hk3 : o.kind = 3
                  · have e3 : (o.kind == 3) = true := by simp [hk3]
                    clear hk3
                    as_aux_lemma =>
                      have hw255 := i64_and255 o.wait
                      have hwb : 0 ≤ o.wait % 256 ∧ o.wait % 256 ≤ 255 := by omega
                      obtain ⟨wt, hwt⟩ : ∃ wt, wt = o.wait % 256 := ⟨_, rfl⟩
                      rw [← hwt] at hw255 hwb
                      have hrq := hid (cw_request JW.out.cw (by have := JW.out.hk; have := I50.out; omega) o.nm (by have := HOF.out.1; omega) nw wt (by have := JW.out.n0; omega) (by have := JW.out.n1; have := I50.out; omega) (by omega) (by omega))
                      clear hwt hwb
                      go_wp2_with fail
                      refine hrq.out.mono ?_
                      rintro e W3 ⟨er, ss3, rfl, rc3, k3, c3⟩
                      have JT := hid (JW.out.turn (Z' := Z) k3 (fun x hx => Or.inl hx) c3 (by have := JW.out.hk; have := I50.out; omega) (JW.out.req rc3))
                      clear k3 c3 hrq hc1 hc2 hc3 hc4 rc3 hw255
                      go_wp2_with fail
                      as_aux_lemma =>
                        have CT := hid JT.out.cw
                        have hkd := hid (show Kept [] W3 W3.drew from (Kept.refl [] W3).drew)
                        have hpc := hid (cw_pending (CT.out.keep hkd.out (by simp)) nw (by have := JT.out.n0; omega) (by have := JT.out.n1; have := I50.out; omega))
                        have hpl := JT.out.pend
                        obtain ⟨pn, hpn⟩ : ∃ pn, pn = pendT ss3 nw life := ⟨_, rfl⟩
                        rw [← hpn] at hpc hpl
                        have hgt : ¬ jobs < (pn : Int) := by omega
                        have hcj := hid (fun X (hX : Kept [] W3 X) => HBX.out X (CT.out.kept.trans hX))
                        have hlo := hid (fun X (hX : Kept [] W3 X) => cw_lost (CT.out.keep hX (by simp)))
                        have hle := hid (fun X (hX : Kept [] W3 X) => cw_len (CT.out.keep hX (by simp)))
                        have hml := hid (fun X (hX : Kept [] W3 X) ty => mt_len_c (JT.out.mp.kept hX (by simp)) ty)
                        obtain ⟨el, hel⟩ : ∃ el, el = es.length := ⟨_, rfl⟩
                        rw [← hel] at hle
                        rw [List.length_map, ← hel] at hml
                        have hJI := hid (show JI w2 W3 p hb q jobs life least (i + 1) nw from ⟨_, _, _, _, _, JT.out⟩)
                        clear hpn hel
                        go_wp2_with fail
                        have hH0 : Kept [] W3 W3.drew := hkd.out
                        refine wp_region_held_drew (S := fun v => Kept [] W3 v) (by kernel_rfl) hH0 (fun hH => ?_)
                        refine takeH 0 (.pointer (some ⟨p, 0, none⟩)) rfl (by kernel_rfl) (by kernel_rfl) (by kernel_rfl) (fun _ _ _ h => h) (by rfl) (fun v hv => by go_simp) hH ?_
                        simp only [Act.put, List.setIfInBounds_toArray, List.set_cons_succ, List.set_cons_zero]
                        refine takeH 1 (.int .i64 nw) rfl (by kernel_rfl) (by kernel_rfl) (by kernel_rfl) (fun _ _ _ h => h) (by rfl) (fun v hv => by go_simp) hH ?_
                        simp only [Act.put, List.setIfInBounds_toArray, List.set_cons_succ, List.set_cons_zero]
                        refine takeH 3 (.pointer (some ⟨bx, 1, none⟩)) rfl (by kernel_rfl) (by kernel_rfl) (by kernel_rfl) (fun _ _ _ h => h) (by rfl) (fun v hv => by go_simp) hH ?_
                        simp only [Act.put, List.setIfInBounds_toArray, List.set_cons_succ, List.set_cons_zero]
                        refine takeH 4 (.int .i64 jobs) rfl (by kernel_rfl) (by kernel_rfl) (by kernel_rfl) (fun _ _ _ h => h) (by rfl) (fun v hv => by have h := (hcj.out v hv).1; go_simp) hH ?_
                        simp only [Act.put, List.setIfInBounds_toArray, List.set_cons_succ, List.set_cons_zero]
                        refine callR 2 rfl (by kernel_rfl) (by rfl) 28 #[.pointer (some ⟨p, 0, none⟩), .int .i64 nw] (by go_simp) (.int .i64 (pn : Int)) (fun v => Kept [] W3.drew v) (fun v h => hkd.out.trans h) (hpc.out) ?_
                        rintro y1 hy1
                        simp only [Act.put, List.setIfInBounds_toArray, List.set_cons_succ, List.set_cons_zero]
                        refine takeH 5 (.bool false) rfl (by kernel_rfl) (by kernel_rfl) (by kernel_rfl) (fun _ _ _ h => h) (by rfl) (fun v hv => by have h := hgt; go_simp) (hkd.out.trans hy1) ?_
                        simp only [Act.put, List.setIfInBounds_toArray, List.set_cons_succ, List.set_cons_zero]
                        refine takeH 6 (.bool false) rfl (by kernel_rfl) (by kernel_rfl) (by kernel_rfl) (fun _ _ _ h => h) (by rfl) (fun v hv => by go_simp) (hkd.out.trans hy1) ?_
                        simp only [Act.put, List.setIfInBounds_toArray, List.set_cons_succ, List.set_cons_zero]
                        refine takeH 7 (.pointer (some ⟨p, 0, none⟩)) rfl (by kernel_rfl) (by kernel_rfl) (by kernel_rfl) (fun _ _ _ h => h) (by rfl) (fun v hv => by go_simp) (hkd.out.trans hy1) ?_
                        simp only [Act.put, List.setIfInBounds_toArray, List.set_cons_succ, List.set_cons_zero]
                        refine callR 8 rfl (by kernel_rfl) (by rfl) 29 #[.pointer (some ⟨p, 0, none⟩)] (by go_simp) (.int .i64 0) (fun v => y1 = v) (fun v h => h ▸ (hkd.out.trans hy1)) (hlo.out _ (hkd.out.trans hy1)) ?_
                        rintro y2 rfl
                        simp only [Act.put, List.setIfInBounds_toArray, List.set_cons_succ, List.set_cons_zero]
                        refine takeH 9 (.bool false) rfl (by kernel_rfl) (by kernel_rfl) (by kernel_rfl) (fun _ _ _ h => h) (by rfl) (fun v hv => by go_simp) (hkd.out.trans hy1) ?_
                        simp only [Act.put, List.setIfInBounds_toArray, List.set_cons_succ, List.set_cons_zero]
                        refine takeH 10 (.bool false) rfl (by kernel_rfl) (by kernel_rfl) (by kernel_rfl) (fun _ _ _ h => h) (by rfl) (fun v hv => by go_simp) (hkd.out.trans hy1) ?_
                        simp only [Act.put, List.setIfInBounds_toArray, List.set_cons_succ, List.set_cons_zero]
                        refine takeH 11 (.bool false) rfl (by kernel_rfl) (by kernel_rfl) (by kernel_rfl) (fun _ _ _ h => h) (by rfl) (fun v hv => by go_simp) (hkd.out.trans hy1) ?_
                        simp only [Act.put, List.setIfInBounds_toArray, List.set_cons_succ, List.set_cons_zero]
                        refine takeH 12 (.pointer (some ⟨p, 0, none⟩)) rfl (by kernel_rfl) (by kernel_rfl) (by kernel_rfl) (fun _ _ _ h => h) (by rfl) (fun v hv => by go_simp) (hkd.out.trans hy1) ?_
                        simp only [Act.put, List.setIfInBounds_toArray, List.set_cons_succ, List.set_cons_zero]
                        refine takeH 13 (.pointer (some ⟨p, 0, none⟩)) rfl (by kernel_rfl) (by kernel_rfl) (by kernel_rfl) (fun _ _ _ h => h) (by rfl) (fun v hv => by go_simp) (hkd.out.trans hy1) ?_
                        simp only [Act.put, List.setIfInBounds_toArray, List.set_cons_succ, List.set_cons_zero]
                        refine takeH 14 (.pointer (some ⟨p, 0, none⟩)) rfl (by kernel_rfl) (by kernel_rfl) (by kernel_rfl) (fun _ _ _ h => h) (by rfl) (fun v hv => by go_simp) (hkd.out.trans hy1) ?_
                        simp only [Act.put, List.setIfInBounds_toArray, List.set_cons_succ, List.set_cons_zero]
                        refine takeH 16 (.map (some hb)) rfl (by kernel_rfl) (by kernel_rfl) (by kernel_rfl) (fun _ _ _ h => h) (by rfl) (fun v hv => by go_simp) (hkd.out.trans hy1) ?_
                        simp only [Act.put, List.setIfInBounds_toArray, List.set_cons_succ, List.set_cons_zero]
                        refine callR 15 rfl (by kernel_rfl) (by rfl) 30 #[.pointer (some ⟨p, 0, none⟩)] (by go_simp) (.int .i64 (el : Int)) (fun v => y1 = v) (fun v h => h ▸ (hkd.out.trans hy1)) (hle.out _ (hkd.out.trans hy1)) ?_
                        rintro y2 rfl
                        simp only [Act.put, List.setIfInBounds_toArray, List.set_cons_succ, List.set_cons_zero]
                        have hml1 := hml.out _ (hkd.out.trans hy1)
                        refine runH 17 rfl (by kernel_rfl) (by rfl) (.int .i64 (el : Int)) (y1) (by go_simp) ((hkd.out.trans hy1)) ?_
                        simp only [Act.put, List.setIfInBounds_toArray, List.set_cons_succ, List.set_cons_zero]
                        refine takeH 18 (.bool false) rfl (by kernel_rfl) (by kernel_rfl) (by kernel_rfl) (fun _ _ _ h => h) (by rfl) (fun v hv => by go_simp) (hkd.out.trans hy1) ?_
                        simp only [Act.put, List.setIfInBounds_toArray, List.set_cons_succ, List.set_cons_zero]
                        refine takeH 19 (.bool false) rfl (by kernel_rfl) (by kernel_rfl) (by kernel_rfl) (fun _ _ _ h => h) (by rfl) (fun v hv => by go_simp) (hkd.out.trans hy1) ?_
                        simp only [Act.put, List.setIfInBounds_toArray, List.set_cons_succ, List.set_cons_zero]
                        refine wpAnyH_done (by kernel_rfl) ?_ _
                        have hJI2 := hid (show JI w2 y1 p hb q jobs life least (i + 1) nw from by
                          obtain ⟨Z9, es9, ss9, fl9, k9, j9⟩ := hJI.out
                          exact ⟨Z9, es9, ss9, fl9, k9, j9.keep (hkd.out.trans hy1)⟩)
                        clear hy1 hH0 hJI hml hml1 hle hlo hcj hgt hpl hpc hkd CT
                        go_wp2
                        go_roundw
                        case rel => exact ⟨i + 1, nw, HLT.out, by go_num, rfl, hJI2⟩
                        case measure => simp [intOf]; omega
                  · have e3 : (o.kind == 3) = false := by simp [hk3]
                    by_cases hk4 : o.kind = 4
                    · have e4 : (o.kind == 4) = true := by simp [hk4]
                      clear hk4
                      as_aux_lemma =>
                        have hst := hid (cw_state JW.out.cw o.nm (by have := HOF.out.1; omega) nw (by have := JW.out.n0; omega) (by have := JW.out.n1; have := I50.out; omega))
                        obtain ⟨st, hstv⟩ : ∃ st, st = stateT ss o.nm nw life := ⟨_, rfl⟩
                        rw [← hstv] at hst
                        go_wp2_with fail
                        refine hst.out.mono ?_
                        rintro e W2 ⟨rfl, k2⟩
                        have JW2 := hid (JW.out.keep k2)
                        have hge := hid (cw_get JW2.out.cw (by have := JW2.out.hk; have := I50.out; omega) o.nm (by have := HOF.out.1; omega) nw (by have := JW2.out.n0; omega) (by have := JW2.out.n1; have := I50.out; omega))
                        rw [← hstv] at hge
                        have hd1 := (HCS.out W2 _ k2 (by simp)).1
                        have hqZ2 := hid (show wr.heap.size ∉ Z from hqZ.out)
                        have HCS2 := hid (fun V (hk : Kept Z W2 V) => HCS.out V Z ((k2.wider (fun x _ hx => by simp at hx)).trans hk) hqZ2.out)
                        clear hst hc1 hc2 hc3 hc4 hstv k2
                        go_wp2_with fail
                        refine hge.out.mono ?_
                        rintro e W3 ⟨ga, gn, gc, er, gb, rfl, hgn, k3, c3, ns3, gc3⟩
                        have JT := hid (JW2.out.turn (Z' := Z) k3 (fun x hx => Or.inl hx) c3 (by have := JW2.out.hk; have := I50.out; omega) JW2.out.pn)
                        have hd3 := (HCS2.out W3 k3).1
                        have NS3 := hid ns3
                        clear k3 c3 hge hd1 ns3 hqZ2
                        rcases gc3 with ⟨g1, g2, rfl⟩ | ⟨g1, g2, rfl, rfl⟩ | ⟨g1, rfl, rfl, g4⟩
                        · rcases gotE_range fl es o.nm with g | g | g
                          · exact absurd g g1
                          · rw [g] at g2
                            subst g2
                            clear g1 g NS3 hgn
                            go_wp2_with fail
                            as_aux_lemma =>
                              have CT := hid JT.out.cw
                              have hkd := hid (show Kept [] W3 W3.drew from (Kept.refl [] W3).drew)
                              have hpc := hid (cw_pending (CT.out.keep hkd.out (by simp)) nw (by have := JT.out.n0; omega) (by have := JT.out.n1; have := I50.out; omega))
                              have hpl := JT.out.pend
                              obtain ⟨pn, hpn⟩ : ∃ pn, pn = pendT ss nw life := ⟨_, rfl⟩
                              rw [← hpn] at hpc hpl
                              have hgt : ¬ jobs < (pn : Int) := by omega
                              have hcj := hid (fun X (hX : Kept [] W3 X) => HBX.out X (CT.out.kept.trans hX))
                              have hlo := hid (fun X (hX : Kept [] W3 X) => cw_lost (CT.out.keep hX (by simp)))
                              have hle := hid (fun X (hX : Kept [] W3 X) => cw_len (CT.out.keep hX (by simp)))
                              have hml := hid (fun X (hX : Kept [] W3 X) ty => mt_len_c (JT.out.mp.kept hX (by simp)) ty)
                              obtain ⟨el, hel⟩ : ∃ el, el = es.length := ⟨_, rfl⟩
                              rw [← hel] at hle
                              rw [List.length_map, ← hel] at hml
                              have hJI := hid (show JI w2 W3 p hb q jobs life least (i + 1) nw from ⟨_, _, _, _, _, JT.out⟩)
                              clear hpn hel hd3
                              go_wp2_with fail
                              have hH0 : Kept [] W3 W3.drew := hkd.out
                              refine wp_region_held_drew (S := fun v => Kept [] W3 v) (by kernel_rfl) hH0 (fun hH => ?_)
                              refine takeH 0 (.pointer (some ⟨p, 0, none⟩)) rfl (by kernel_rfl) (by kernel_rfl) (by kernel_rfl) (fun _ _ _ h => h) (by rfl) (fun v hv => by go_simp) hH ?_
                              simp only [Act.put, List.setIfInBounds_toArray, List.set_cons_succ, List.set_cons_zero]
                              refine takeH 1 (.int .i64 nw) rfl (by kernel_rfl) (by kernel_rfl) (by kernel_rfl) (fun _ _ _ h => h) (by rfl) (fun v hv => by go_simp) hH ?_
                              simp only [Act.put, List.setIfInBounds_toArray, List.set_cons_succ, List.set_cons_zero]
                              refine takeH 3 (.pointer (some ⟨bx, 1, none⟩)) rfl (by kernel_rfl) (by kernel_rfl) (by kernel_rfl) (fun _ _ _ h => h) (by rfl) (fun v hv => by go_simp) hH ?_
                              simp only [Act.put, List.setIfInBounds_toArray, List.set_cons_succ, List.set_cons_zero]
                              refine takeH 4 (.int .i64 jobs) rfl (by kernel_rfl) (by kernel_rfl) (by kernel_rfl) (fun _ _ _ h => h) (by rfl) (fun v hv => by have h := (hcj.out v hv).1; go_simp) hH ?_
                              simp only [Act.put, List.setIfInBounds_toArray, List.set_cons_succ, List.set_cons_zero]
                              refine callR 2 rfl (by kernel_rfl) (by rfl) 28 #[.pointer (some ⟨p, 0, none⟩), .int .i64 nw] (by go_simp) (.int .i64 (pn : Int)) (fun v => Kept [] W3.drew v) (fun v h => hkd.out.trans h) (hpc.out) ?_
                              rintro y1 hy1
                              simp only [Act.put, List.setIfInBounds_toArray, List.set_cons_succ, List.set_cons_zero]
                              refine takeH 5 (.bool false) rfl (by kernel_rfl) (by kernel_rfl) (by kernel_rfl) (fun _ _ _ h => h) (by rfl) (fun v hv => by have h := hgt; go_simp) (hkd.out.trans hy1) ?_
                              simp only [Act.put, List.setIfInBounds_toArray, List.set_cons_succ, List.set_cons_zero]
                              refine takeH 6 (.bool false) rfl (by kernel_rfl) (by kernel_rfl) (by kernel_rfl) (fun _ _ _ h => h) (by rfl) (fun v hv => by go_simp) (hkd.out.trans hy1) ?_
                              simp only [Act.put, List.setIfInBounds_toArray, List.set_cons_succ, List.set_cons_zero]
                              refine takeH 7 (.pointer (some ⟨p, 0, none⟩)) rfl (by kernel_rfl) (by kernel_rfl) (by kernel_rfl) (fun _ _ _ h => h) (by rfl) (fun v hv => by go_simp) (hkd.out.trans hy1) ?_
                              simp only [Act.put, List.setIfInBounds_toArray, List.set_cons_succ, List.set_cons_zero]
                              refine callR 8 rfl (by kernel_rfl) (by rfl) 29 #[.pointer (some ⟨p, 0, none⟩)] (by go_simp) (.int .i64 0) (fun v => y1 = v) (fun v h => h ▸ (hkd.out.trans hy1)) (hlo.out _ (hkd.out.trans hy1)) ?_
                              rintro y2 rfl
                              simp only [Act.put, List.setIfInBounds_toArray, List.set_cons_succ, List.set_cons_zero]
                              refine takeH 9 (.bool false) rfl (by kernel_rfl) (by kernel_rfl) (by kernel_rfl) (fun _ _ _ h => h) (by rfl) (fun v hv => by go_simp) (hkd.out.trans hy1) ?_
                              simp only [Act.put, List.setIfInBounds_toArray, List.set_cons_succ, List.set_cons_zero]
                              refine takeH 10 (.bool false) rfl (by kernel_rfl) (by kernel_rfl) (by kernel_rfl) (fun _ _ _ h => h) (by rfl) (fun v hv => by go_simp) (hkd.out.trans hy1) ?_
                              simp only [Act.put, List.setIfInBounds_toArray, List.set_cons_succ, List.set_cons_zero]
                              refine takeH 11 (.bool false) rfl (by kernel_rfl) (by kernel_rfl) (by kernel_rfl) (fun _ _ _ h => h) (by rfl) (fun v hv => by go_simp) (hkd.out.trans hy1) ?_
                              simp only [Act.put, List.setIfInBounds_toArray, List.set_cons_succ, List.set_cons_zero]
                              refine takeH 12 (.pointer (some ⟨p, 0, none⟩)) rfl (by kernel_rfl) (by kernel_rfl) (by kernel_rfl) (fun _ _ _ h => h) (by rfl) (fun v hv => by go_simp) (hkd.out.trans hy1) ?_
                              simp only [Act.put, List.setIfInBounds_toArray, List.set_cons_succ, List.set_cons_zero]
                              refine takeH 13 (.pointer (some ⟨p, 0, none⟩)) rfl (by kernel_rfl) (by kernel_rfl) (by kernel_rfl) (fun _ _ _ h => h) (by rfl) (fun v hv => by go_simp) (hkd.out.trans hy1) ?_
                              simp only [Act.put, List.setIfInBounds_toArray, List.set_cons_succ, List.set_cons_zero]
                              refine takeH 14 (.pointer (some ⟨p, 0, none⟩)) rfl (by kernel_rfl) (by kernel_rfl) (by kernel_rfl) (fun _ _ _ h => h) (by rfl) (fun v hv => by go_simp) (hkd.out.trans hy1) ?_
                              simp only [Act.put, List.setIfInBounds_toArray, List.set_cons_succ, List.set_cons_zero]
                              refine takeH 16 (.map (some hb)) rfl (by kernel_rfl) (by kernel_rfl) (by kernel_rfl) (fun _ _ _ h => h) (by rfl) (fun v hv => by go_simp) (hkd.out.trans hy1) ?_
                              simp only [Act.put, List.setIfInBounds_toArray, List.set_cons_succ, List.set_cons_zero]
                              refine callR 15 rfl (by kernel_rfl) (by rfl) 30 #[.pointer (some ⟨p, 0, none⟩)] (by go_simp) (.int .i64 (el : Int)) (fun v => y1 = v) (fun v h => h ▸ (hkd.out.trans hy1)) (hle.out _ (hkd.out.trans hy1)) ?_
                              rintro y2 rfl
                              simp only [Act.put, List.setIfInBounds_toArray, List.set_cons_succ, List.set_cons_zero]
                              have hml1 := hml.out _ (hkd.out.trans hy1)
                              refine runH 17 rfl (by kernel_rfl) (by rfl) (.int .i64 (el : Int)) (y1) (by go_simp) ((hkd.out.trans hy1)) ?_
                              simp only [Act.put, List.setIfInBounds_toArray, List.set_cons_succ, List.set_cons_zero]
                              refine takeH 18 (.bool false) rfl (by kernel_rfl) (by kernel_rfl) (by kernel_rfl) (fun _ _ _ h => h) (by rfl) (fun v hv => by go_simp) (hkd.out.trans hy1) ?_
                              simp only [Act.put, List.setIfInBounds_toArray, List.set_cons_succ, List.set_cons_zero]
                              refine takeH 19 (.bool false) rfl (by kernel_rfl) (by kernel_rfl) (by kernel_rfl) (fun _ _ _ h => h) (by rfl) (fun v hv => by go_simp) (hkd.out.trans hy1) ?_
                              simp only [Act.put, List.setIfInBounds_toArray, List.set_cons_succ, List.set_cons_zero]
                              refine wpAnyH_done (by kernel_rfl) ?_ _
                              have hJI2 := hid (show JI w2 y1 p hb q jobs life least (i + 1) nw from by
                                obtain ⟨Z9, es9, ss9, fl9, k9, j9⟩ := hJI.out
                                exact ⟨Z9, es9, ss9, fl9, k9, j9.keep (hkd.out.trans hy1)⟩)
                              clear hy1 hH0 hJI hml hml1 hle hlo hcj hgt hpl hpc hkd CT
                              go_wp2
                              go_roundw
                              case rel => exact ⟨i + 1, nw, HLT.out, by go_num, rfl, hJI2⟩
                              case measure => simp [intOf]; omega
                          · rw [g] at g2
                            subst g2
                            clear g1 g NS3 hgn
                            go_wp2_with fail
                            as_aux_lemma =>
                              have CT := hid JT.out.cw
                              have hkd := hid (show Kept [] W3 W3.drew from (Kept.refl [] W3).drew)
                              have hpc := hid (cw_pending (CT.out.keep hkd.out (by simp)) nw (by have := JT.out.n0; omega) (by have := JT.out.n1; have := I50.out; omega))
                              have hpl := JT.out.pend
                              obtain ⟨pn, hpn⟩ : ∃ pn, pn = pendT ss nw life := ⟨_, rfl⟩
                              rw [← hpn] at hpc hpl
                              have hgt : ¬ jobs < (pn : Int) := by omega
                              have hcj := hid (fun X (hX : Kept [] W3 X) => HBX.out X (CT.out.kept.trans hX))
                              have hlo := hid (fun X (hX : Kept [] W3 X) => cw_lost (CT.out.keep hX (by simp)))
                              have hle := hid (fun X (hX : Kept [] W3 X) => cw_len (CT.out.keep hX (by simp)))
                              have hml := hid (fun X (hX : Kept [] W3 X) ty => mt_len_c (JT.out.mp.kept hX (by simp)) ty)
                              obtain ⟨el, hel⟩ : ∃ el, el = es.length := ⟨_, rfl⟩
                              rw [← hel] at hle
                              rw [List.length_map, ← hel] at hml
                              have hJI := hid (show JI w2 W3 p hb q jobs life least (i + 1) nw from ⟨_, _, _, _, _, JT.out⟩)
                              clear hpn hel hd3
                              go_wp2_with fail
                              have hH0 : Kept [] W3 W3.drew := hkd.out
                              refine wp_region_held_drew (S := fun v => Kept [] W3 v) (by kernel_rfl) hH0 (fun hH => ?_)
                              refine takeH 0 (.pointer (some ⟨p, 0, none⟩)) rfl (by kernel_rfl) (by kernel_rfl) (by kernel_rfl) (fun _ _ _ h => h) (by rfl) (fun v hv => by go_simp) hH ?_
                              simp only [Act.put, List.setIfInBounds_toArray, List.set_cons_succ, List.set_cons_zero]
                              refine takeH 1 (.int .i64 nw) rfl (by kernel_rfl) (by kernel_rfl) (by kernel_rfl) (fun _ _ _ h => h) (by rfl) (fun v hv => by go_simp) hH ?_
                              simp only [Act.put, List.setIfInBounds_toArray, List.set_cons_succ, List.set_cons_zero]
                              refine takeH 3 (.pointer (some ⟨bx, 1, none⟩)) rfl (by kernel_rfl) (by kernel_rfl) (by kernel_rfl) (fun _ _ _ h => h) (by rfl) (fun v hv => by go_simp) hH ?_
                              simp only [Act.put, List.setIfInBounds_toArray, List.set_cons_succ, List.set_cons_zero]
                              refine takeH 4 (.int .i64 jobs) rfl (by kernel_rfl) (by kernel_rfl) (by kernel_rfl) (fun _ _ _ h => h) (by rfl) (fun v hv => by have h := (hcj.out v hv).1; go_simp) hH ?_
                              simp only [Act.put, List.setIfInBounds_toArray, List.set_cons_succ, List.set_cons_zero]
                              refine callR 2 rfl (by kernel_rfl) (by rfl) 28 #[.pointer (some ⟨p, 0, none⟩), .int .i64 nw] (by go_simp) (.int .i64 (pn : Int)) (fun v => Kept [] W3.drew v) (fun v h => hkd.out.trans h) (hpc.out) ?_
                              rintro y1 hy1
                              simp only [Act.put, List.setIfInBounds_toArray, List.set_cons_succ, List.set_cons_zero]
                              refine takeH 5 (.bool false) rfl (by kernel_rfl) (by kernel_rfl) (by kernel_rfl) (fun _ _ _ h => h) (by rfl) (fun v hv => by have h := hgt; go_simp) (hkd.out.trans hy1) ?_
                              simp only [Act.put, List.setIfInBounds_toArray, List.set_cons_succ, List.set_cons_zero]
                              refine takeH 6 (.bool false) rfl (by kernel_rfl) (by kernel_rfl) (by kernel_rfl) (fun _ _ _ h => h) (by rfl) (fun v hv => by go_simp) (hkd.out.trans hy1) ?_
                              simp only [Act.put, List.setIfInBounds_toArray, List.set_cons_succ, List.set_cons_zero]
                              refine takeH 7 (.pointer (some ⟨p, 0, none⟩)) rfl (by kernel_rfl) (by kernel_rfl) (by kernel_rfl) (fun _ _ _ h => h) (by rfl) (fun v hv => by go_simp) (hkd.out.trans hy1) ?_
                              simp only [Act.put, List.setIfInBounds_toArray, List.set_cons_succ, List.set_cons_zero]
                              refine callR 8 rfl (by kernel_rfl) (by rfl) 29 #[.pointer (some ⟨p, 0, none⟩)] (by go_simp) (.int .i64 0) (fun v => y1 = v) (fun v h => h ▸ (hkd.out.trans hy1)) (hlo.out _ (hkd.out.trans hy1)) ?_
                              rintro y2 rfl
                              simp only [Act.put, List.setIfInBounds_toArray, List.set_cons_succ, List.set_cons_zero]
                              refine takeH 9 (.bool false) rfl (by kernel_rfl) (by kernel_rfl) (by kernel_rfl) (fun _ _ _ h => h) (by rfl) (fun v hv => by go_simp) (hkd.out.trans hy1) ?_
                              simp only [Act.put, List.setIfInBounds_toArray, List.set_cons_succ, List.set_cons_zero]
                              refine takeH 10 (.bool false) rfl (by kernel_rfl) (by kernel_rfl) (by kernel_rfl) (fun _ _ _ h => h) (by rfl) (fun v hv => by go_simp) (hkd.out.trans hy1) ?_
                              simp only [Act.put, List.setIfInBounds_toArray, List.set_cons_succ, List.set_cons_zero]
                              refine takeH 11 (.bool false) rfl (by kernel_rfl) (by kernel_rfl) (by kernel_rfl) (fun _ _ _ h => h) (by rfl) (fun v hv => by go_simp) (hkd.out.trans hy1) ?_
                              simp only [Act.put, List.setIfInBounds_toArray, List.set_cons_succ, List.set_cons_zero]
                              refine takeH 12 (.pointer (some ⟨p, 0, none⟩)) rfl (by kernel_rfl) (by kernel_rfl) (by kernel_rfl) (fun _ _ _ h => h) (by rfl) (fun v hv => by go_simp) (hkd.out.trans hy1) ?_
                              simp only [Act.put, List.setIfInBounds_toArray, List.set_cons_succ, List.set_cons_zero]
                              refine takeH 13 (.pointer (some ⟨p, 0, none⟩)) rfl (by kernel_rfl) (by kernel_rfl) (by kernel_rfl) (fun _ _ _ h => h) (by rfl) (fun v hv => by go_simp) (hkd.out.trans hy1) ?_
                              simp only [Act.put, List.setIfInBounds_toArray, List.set_cons_succ, List.set_cons_zero]
                              refine takeH 14 (.pointer (some ⟨p, 0, none⟩)) rfl (by kernel_rfl) (by kernel_rfl) (by kernel_rfl) (fun _ _ _ h => h) (by rfl) (fun v hv => by go_simp) (hkd.out.trans hy1) ?_
                              simp only [Act.put, List.setIfInBounds_toArray, List.set_cons_succ, List.set_cons_zero]
                              refine takeH 16 (.map (some hb)) rfl (by kernel_rfl) (by kernel_rfl) (by kernel_rfl) (fun _ _ _ h => h) (by rfl) (fun v hv => by go_simp) (hkd.out.trans hy1) ?_
                              simp only [Act.put, List.setIfInBounds_toArray, List.set_cons_succ, List.set_cons_zero]
                              refine callR 15 rfl (by kernel_rfl) (by rfl) 30 #[.pointer (some ⟨p, 0, none⟩)] (by go_simp) (.int .i64 (el : Int)) (fun v => y1 = v) (fun v h => h ▸ (hkd.out.trans hy1)) (hle.out _ (hkd.out.trans hy1)) ?_
                              rintro y2 rfl
                              simp only [Act.put, List.setIfInBounds_toArray, List.set_cons_succ, List.set_cons_zero]
                              have hml1 := hml.out _ (hkd.out.trans hy1)
                              refine runH 17 rfl (by kernel_rfl) (by rfl) (.int .i64 (el : Int)) (y1) (by go_simp) ((hkd.out.trans hy1)) ?_
                              simp only [Act.put, List.setIfInBounds_toArray, List.set_cons_succ, List.set_cons_zero]
                              refine takeH 18 (.bool false) rfl (by kernel_rfl) (by kernel_rfl) (by kernel_rfl) (fun _ _ _ h => h) (by rfl) (fun v hv => by go_simp) (hkd.out.trans hy1) ?_
                              simp only [Act.put, List.setIfInBounds_toArray, List.set_cons_succ, List.set_cons_zero]
                              refine takeH 19 (.bool false) rfl (by kernel_rfl) (by kernel_rfl) (by kernel_rfl) (fun _ _ _ h => h) (by rfl) (fun v hv => by go_simp) (hkd.out.trans hy1) ?_
                              simp only [Act.put, List.setIfInBounds_toArray, List.set_cons_succ, List.set_cons_zero]
                              refine wpAnyH_done (by kernel_rfl) ?_ _
                              have hJI2 := hid (show JI w2 y1 p hb q jobs life least (i + 1) nw from by
                                obtain ⟨Z9, es9, ss9, fl9, k9, j9⟩ := hJI.out
                                exact ⟨Z9, es9, ss9, fl9, k9, j9.keep (hkd.out.trans hy1)⟩)
                              clear hy1 hH0 hJI hml hml1 hle hlo hcj hgt hpl hpc hkd CT
                              go_wp2
                              go_roundw
                              case rel => exact ⟨i + 1, nw, HLT.out, by go_num, rfl, hJI2⟩
                              case measure => simp [intOf]; omega
                        · have hs2 : (st == 2) = false := by simpa using g2
                          have hs3 : (st != 2) = true := by simpa using g2
                          clear g1 g2 NS3 hgn
                          go_wp2_with fail
                          as_aux_lemma =>
                            have CT := hid JT.out.cw
                            have hkd := hid (show Kept [] W3 W3.drew from (Kept.refl [] W3).drew)
                            have hpc := hid (cw_pending (CT.out.keep hkd.out (by simp)) nw (by have := JT.out.n0; omega) (by have := JT.out.n1; have := I50.out; omega))
                            have hpl := JT.out.pend
                            obtain ⟨pn, hpn⟩ : ∃ pn, pn = pendT ss nw life := ⟨_, rfl⟩
                            rw [← hpn] at hpc hpl
                            have hgt : ¬ jobs < (pn : Int) := by omega
                            have hcj := hid (fun X (hX : Kept [] W3 X) => HBX.out X (CT.out.kept.trans hX))
                            have hlo := hid (fun X (hX : Kept [] W3 X) => cw_lost (CT.out.keep hX (by simp)))
                            have hle := hid (fun X (hX : Kept [] W3 X) => cw_len (CT.out.keep hX (by simp)))
                            have hml := hid (fun X (hX : Kept [] W3 X) ty => mt_len_c (JT.out.mp.kept hX (by simp)) ty)
                            obtain ⟨el, hel⟩ : ∃ el, el = es.length := ⟨_, rfl⟩
                            rw [← hel] at hle
                            rw [List.length_map, ← hel] at hml
                            have hJI := hid (show JI w2 W3 p hb q jobs life least (i + 1) nw from ⟨_, _, _, _, _, JT.out⟩)
                            clear hpn hel hd3 hs2 hs3
                            go_wp2_with fail
                            have hH0 : Kept [] W3 W3.drew := hkd.out
                            refine wp_region_held_drew (S := fun v => Kept [] W3 v) (by kernel_rfl) hH0 (fun hH => ?_)
                            refine takeH 0 (.pointer (some ⟨p, 0, none⟩)) rfl (by kernel_rfl) (by kernel_rfl) (by kernel_rfl) (fun _ _ _ h => h) (by rfl) (fun v hv => by go_simp) hH ?_
                            simp only [Act.put, List.setIfInBounds_toArray, List.set_cons_succ, List.set_cons_zero]
                            refine takeH 1 (.int .i64 nw) rfl (by kernel_rfl) (by kernel_rfl) (by kernel_rfl) (fun _ _ _ h => h) (by rfl) (fun v hv => by go_simp) hH ?_
                            simp only [Act.put, List.setIfInBounds_toArray, List.set_cons_succ, List.set_cons_zero]
                            refine takeH 3 (.pointer (some ⟨bx, 1, none⟩)) rfl (by kernel_rfl) (by kernel_rfl) (by kernel_rfl) (fun _ _ _ h => h) (by rfl) (fun v hv => by go_simp) hH ?_
                            simp only [Act.put, List.setIfInBounds_toArray, List.set_cons_succ, List.set_cons_zero]
                            refine takeH 4 (.int .i64 jobs) rfl (by kernel_rfl) (by kernel_rfl) (by kernel_rfl) (fun _ _ _ h => h) (by rfl) (fun v hv => by have h := (hcj.out v hv).1; go_simp) hH ?_
                            simp only [Act.put, List.setIfInBounds_toArray, List.set_cons_succ, List.set_cons_zero]
                            refine callR 2 rfl (by kernel_rfl) (by rfl) 28 #[.pointer (some ⟨p, 0, none⟩), .int .i64 nw] (by go_simp) (.int .i64 (pn : Int)) (fun v => Kept [] W3.drew v) (fun v h => hkd.out.trans h) (hpc.out) ?_
                            rintro y1 hy1
                            simp only [Act.put, List.setIfInBounds_toArray, List.set_cons_succ, List.set_cons_zero]
                            refine takeH 5 (.bool false) rfl (by kernel_rfl) (by kernel_rfl) (by kernel_rfl) (fun _ _ _ h => h) (by rfl) (fun v hv => by have h := hgt; go_simp) (hkd.out.trans hy1) ?_
                            simp only [Act.put, List.setIfInBounds_toArray, List.set_cons_succ, List.set_cons_zero]
                            refine takeH 6 (.bool false) rfl (by kernel_rfl) (by kernel_rfl) (by kernel_rfl) (fun _ _ _ h => h) (by rfl) (fun v hv => by go_simp) (hkd.out.trans hy1) ?_
                            simp only [Act.put, List.setIfInBounds_toArray, List.set_cons_succ, List.set_cons_zero]
                            refine takeH 7 (.pointer (some ⟨p, 0, none⟩)) rfl (by kernel_rfl) (by kernel_rfl) (by kernel_rfl) (fun _ _ _ h => h) (by rfl) (fun v hv => by go_simp) (hkd.out.trans hy1) ?_
                            simp only [Act.put, List.setIfInBounds_toArray, List.set_cons_succ, List.set_cons_zero]
                            refine callR 8 rfl (by kernel_rfl) (by rfl) 29 #[.pointer (some ⟨p, 0, none⟩)] (by go_simp) (.int .i64 0) (fun v => y1 = v) (fun v h => h ▸ (hkd.out.trans hy1)) (hlo.out _ (hkd.out.trans hy1)) ?_
                            rintro y2 rfl
                            simp only [Act.put, List.setIfInBounds_toArray, List.set_cons_succ, List.set_cons_zero]
                            refine takeH 9 (.bool false) rfl (by kernel_rfl) (by kernel_rfl) (by kernel_rfl) (fun _ _ _ h => h) (by rfl) (fun v hv => by go_simp) (hkd.out.trans hy1) ?_
                            simp only [Act.put, List.setIfInBounds_toArray, List.set_cons_succ, List.set_cons_zero]
                            refine takeH 10 (.bool false) rfl (by kernel_rfl) (by kernel_rfl) (by kernel_rfl) (fun _ _ _ h => h) (by rfl) (fun v hv => by go_simp) (hkd.out.trans hy1) ?_
                            simp only [Act.put, List.setIfInBounds_toArray, List.set_cons_succ, List.set_cons_zero]
                            refine takeH 11 (.bool false) rfl (by kernel_rfl) (by kernel_rfl) (by kernel_rfl) (fun _ _ _ h => h) (by rfl) (fun v hv => by go_simp) (hkd.out.trans hy1) ?_
                            simp only [Act.put, List.setIfInBounds_toArray, List.set_cons_succ, List.set_cons_zero]
                            refine takeH 12 (.pointer (some ⟨p, 0, none⟩)) rfl (by kernel_rfl) (by kernel_rfl) (by kernel_rfl) (fun _ _ _ h => h) (by rfl) (fun v hv => by go_simp) (hkd.out.trans hy1) ?_
                            simp only [Act.put, List.setIfInBounds_toArray, List.set_cons_succ, List.set_cons_zero]
                            refine takeH 13 (.pointer (some ⟨p, 0, none⟩)) rfl (by kernel_rfl) (by kernel_rfl) (by kernel_rfl) (fun _ _ _ h => h) (by rfl) (fun v hv => by go_simp) (hkd.out.trans hy1) ?_
                            simp only [Act.put, List.setIfInBounds_toArray, List.set_cons_succ, List.set_cons_zero]
                            refine takeH 14 (.pointer (some ⟨p, 0, none⟩)) rfl (by kernel_rfl) (by kernel_rfl) (by kernel_rfl) (fun _ _ _ h => h) (by rfl) (fun v hv => by go_simp) (hkd.out.trans hy1) ?_
                            simp only [Act.put, List.setIfInBounds_toArray, List.set_cons_succ, List.set_cons_zero]
                            refine takeH 16 (.map (some hb)) rfl (by kernel_rfl) (by kernel_rfl) (by kernel_rfl) (fun _ _ _ h => h) (by rfl) (fun v hv => by go_simp) (hkd.out.trans hy1) ?_
                            simp only [Act.put, List.setIfInBounds_toArray, List.set_cons_succ, List.set_cons_zero]
                            refine callR 15 rfl (by kernel_rfl) (by rfl) 30 #[.pointer (some ⟨p, 0, none⟩)] (by go_simp) (.int .i64 (el : Int)) (fun v => y1 = v) (fun v h => h ▸ (hkd.out.trans hy1)) (hle.out _ (hkd.out.trans hy1)) ?_
                            rintro y2 rfl
                            simp only [Act.put, List.setIfInBounds_toArray, List.set_cons_succ, List.set_cons_zero]
                            have hml1 := hml.out _ (hkd.out.trans hy1)
                            refine runH 17 rfl (by kernel_rfl) (by rfl) (.int .i64 (el : Int)) (y1) (by go_simp) ((hkd.out.trans hy1)) ?_
                            simp only [Act.put, List.setIfInBounds_toArray, List.set_cons_succ, List.set_cons_zero]
                            refine takeH 18 (.bool false) rfl (by kernel_rfl) (by kernel_rfl) (by kernel_rfl) (fun _ _ _ h => h) (by rfl) (fun v hv => by go_simp) (hkd.out.trans hy1) ?_
                            simp only [Act.put, List.setIfInBounds_toArray, List.set_cons_succ, List.set_cons_zero]
                            refine takeH 19 (.bool false) rfl (by kernel_rfl) (by kernel_rfl) (by kernel_rfl) (fun _ _ _ h => h) (by rfl) (fun v hv => by go_simp) (hkd.out.trans hy1) ?_
                            simp only [Act.put, List.setIfInBounds_toArray, List.set_cons_succ, List.set_cons_zero]
                            refine wpAnyH_done (by kernel_rfl) ?_ _
                            have hJI2 := hid (show JI w2 y1 p hb q jobs life least (i + 1) nw from by
                              obtain ⟨Z9, es9, ss9, fl9, k9, j9⟩ := hJI.out
                              exact ⟨Z9, es9, ss9, fl9, k9, j9.keep (hkd.out.trans hy1)⟩)
                            clear hy1 hH0 hJI hml hml1 hle hlo hcj hgt hpl hpc hkd CT
                            go_wp2
                            go_roundw
                            case rel => exact ⟨i + 1, nw, HLT.out, by go_num, rfl, hJI2⟩
                            case measure => simp [intOf]; omega
                        · obtain ⟨ee, he1, he2⟩ := got_found g1
                          have hcv := bytes_back2_c W3 ga gc gb (by have := NS3.out.src; rw [← hgn]; exact this)
                          rw [← hgn] at hcv
                          have hlk3 := mt_look1_c JT.out.mp o.nm (by have := HOF.out.1; omega)
                          rw [lookT_found he1] at hlk3
                          have hgb : gb = ee.b := by rw [g4, he2]
                          rw [← hgb] at hlk3
                          clear g1 g4 NS3 he1 he2 hgn hgb
                          go_wp2_with fail
                          as_aux_lemma =>
                            have CT := hid JT.out.cw
                            have hkd := hid (show Kept [] W3 W3.drew from (Kept.refl [] W3).drew)
                            have hpc := hid (cw_pending (CT.out.keep hkd.out (by simp)) nw (by have := JT.out.n0; omega) (by have := JT.out.n1; have := I50.out; omega))
                            have hpl := JT.out.pend
                            obtain ⟨pn, hpn⟩ : ∃ pn, pn = pendT ss nw life := ⟨_, rfl⟩
                            rw [← hpn] at hpc hpl
                            have hgt : ¬ jobs < (pn : Int) := by omega
                            have hcj := hid (fun X (hX : Kept [] W3 X) => HBX.out X (CT.out.kept.trans hX))
                            have hlo := hid (fun X (hX : Kept [] W3 X) => cw_lost (CT.out.keep hX (by simp)))
                            have hle := hid (fun X (hX : Kept [] W3 X) => cw_len (CT.out.keep hX (by simp)))
                            have hml := hid (fun X (hX : Kept [] W3 X) ty => mt_len_c (JT.out.mp.kept hX (by simp)) ty)
                            obtain ⟨el, hel⟩ : ∃ el, el = es.length := ⟨_, rfl⟩
                            rw [← hel] at hle
                            rw [List.length_map, ← hel] at hml
                            have hJI := hid (show JI w2 W3 p hb q jobs life least (i + 1) nw from ⟨_, _, _, _, _, JT.out⟩)
                            clear hpn hel hd3 hcv hlk3
                            go_wp2_with fail
                            have hH0 : Kept [] W3 W3.drew := hkd.out
                            refine wp_region_held_drew (S := fun v => Kept [] W3 v) (by kernel_rfl) hH0 (fun hH => ?_)
                            refine takeH 0 (.pointer (some ⟨p, 0, none⟩)) rfl (by kernel_rfl) (by kernel_rfl) (by kernel_rfl) (fun _ _ _ h => h) (by rfl) (fun v hv => by go_simp) hH ?_
                            simp only [Act.put, List.setIfInBounds_toArray, List.set_cons_succ, List.set_cons_zero]
                            refine takeH 1 (.int .i64 nw) rfl (by kernel_rfl) (by kernel_rfl) (by kernel_rfl) (fun _ _ _ h => h) (by rfl) (fun v hv => by go_simp) hH ?_
                            simp only [Act.put, List.setIfInBounds_toArray, List.set_cons_succ, List.set_cons_zero]
                            refine takeH 3 (.pointer (some ⟨bx, 1, none⟩)) rfl (by kernel_rfl) (by kernel_rfl) (by kernel_rfl) (fun _ _ _ h => h) (by rfl) (fun v hv => by go_simp) hH ?_
                            simp only [Act.put, List.setIfInBounds_toArray, List.set_cons_succ, List.set_cons_zero]
                            refine takeH 4 (.int .i64 jobs) rfl (by kernel_rfl) (by kernel_rfl) (by kernel_rfl) (fun _ _ _ h => h) (by rfl) (fun v hv => by have h := (hcj.out v hv).1; go_simp) hH ?_
                            simp only [Act.put, List.setIfInBounds_toArray, List.set_cons_succ, List.set_cons_zero]
                            refine callR 2 rfl (by kernel_rfl) (by rfl) 28 #[.pointer (some ⟨p, 0, none⟩), .int .i64 nw] (by go_simp) (.int .i64 (pn : Int)) (fun v => Kept [] W3.drew v) (fun v h => hkd.out.trans h) (hpc.out) ?_
                            rintro y1 hy1
                            simp only [Act.put, List.setIfInBounds_toArray, List.set_cons_succ, List.set_cons_zero]
                            refine takeH 5 (.bool false) rfl (by kernel_rfl) (by kernel_rfl) (by kernel_rfl) (fun _ _ _ h => h) (by rfl) (fun v hv => by have h := hgt; go_simp) (hkd.out.trans hy1) ?_
                            simp only [Act.put, List.setIfInBounds_toArray, List.set_cons_succ, List.set_cons_zero]
                            refine takeH 6 (.bool false) rfl (by kernel_rfl) (by kernel_rfl) (by kernel_rfl) (fun _ _ _ h => h) (by rfl) (fun v hv => by go_simp) (hkd.out.trans hy1) ?_
                            simp only [Act.put, List.setIfInBounds_toArray, List.set_cons_succ, List.set_cons_zero]
                            refine takeH 7 (.pointer (some ⟨p, 0, none⟩)) rfl (by kernel_rfl) (by kernel_rfl) (by kernel_rfl) (fun _ _ _ h => h) (by rfl) (fun v hv => by go_simp) (hkd.out.trans hy1) ?_
                            simp only [Act.put, List.setIfInBounds_toArray, List.set_cons_succ, List.set_cons_zero]
                            refine callR 8 rfl (by kernel_rfl) (by rfl) 29 #[.pointer (some ⟨p, 0, none⟩)] (by go_simp) (.int .i64 0) (fun v => y1 = v) (fun v h => h ▸ (hkd.out.trans hy1)) (hlo.out _ (hkd.out.trans hy1)) ?_
                            rintro y2 rfl
                            simp only [Act.put, List.setIfInBounds_toArray, List.set_cons_succ, List.set_cons_zero]
                            refine takeH 9 (.bool false) rfl (by kernel_rfl) (by kernel_rfl) (by kernel_rfl) (fun _ _ _ h => h) (by rfl) (fun v hv => by go_simp) (hkd.out.trans hy1) ?_
                            simp only [Act.put, List.setIfInBounds_toArray, List.set_cons_succ, List.set_cons_zero]
                            refine takeH 10 (.bool false) rfl (by kernel_rfl) (by kernel_rfl) (by kernel_rfl) (fun _ _ _ h => h) (by rfl) (fun v hv => by go_simp) (hkd.out.trans hy1) ?_
                            simp only [Act.put, List.setIfInBounds_toArray, List.set_cons_succ, List.set_cons_zero]
                            refine takeH 11 (.bool false) rfl (by kernel_rfl) (by kernel_rfl) (by kernel_rfl) (fun _ _ _ h => h) (by rfl) (fun v hv => by go_simp) (hkd.out.trans hy1) ?_
                            simp only [Act.put, List.setIfInBounds_toArray, List.set_cons_succ, List.set_cons_zero]
                            refine takeH 12 (.pointer (some ⟨p, 0, none⟩)) rfl (by kernel_rfl) (by kernel_rfl) (by kernel_rfl) (fun _ _ _ h => h) (by rfl) (fun v hv => by go_simp) (hkd.out.trans hy1) ?_
                            simp only [Act.put, List.setIfInBounds_toArray, List.set_cons_succ, List.set_cons_zero]
                            refine takeH 13 (.pointer (some ⟨p, 0, none⟩)) rfl (by kernel_rfl) (by kernel_rfl) (by kernel_rfl) (fun _ _ _ h => h) (by rfl) (fun v hv => by go_simp) (hkd.out.trans hy1) ?_
                            simp only [Act.put, List.setIfInBounds_toArray, List.set_cons_succ, List.set_cons_zero]
                            refine takeH 14 (.pointer (some ⟨p, 0, none⟩)) rfl (by kernel_rfl) (by kernel_rfl) (by kernel_rfl) (fun _ _ _ h => h) (by rfl) (fun v hv => by go_simp) (hkd.out.trans hy1) ?_
                            simp only [Act.put, List.setIfInBounds_toArray, List.set_cons_succ, List.set_cons_zero]
                            refine takeH 16 (.map (some hb)) rfl (by kernel_rfl) (by kernel_rfl) (by kernel_rfl) (fun _ _ _ h => h) (by rfl) (fun v hv => by go_simp) (hkd.out.trans hy1) ?_
                            simp only [Act.put, List.setIfInBounds_toArray, List.set_cons_succ, List.set_cons_zero]
                            refine callR 15 rfl (by kernel_rfl) (by rfl) 30 #[.pointer (some ⟨p, 0, none⟩)] (by go_simp) (.int .i64 (el : Int)) (fun v => y1 = v) (fun v h => h ▸ (hkd.out.trans hy1)) (hle.out _ (hkd.out.trans hy1)) ?_
                            rintro y2 rfl
                            simp only [Act.put, List.setIfInBounds_toArray, List.set_cons_succ, List.set_cons_zero]
                            have hml1 := hml.out _ (hkd.out.trans hy1)
                            refine runH 17 rfl (by kernel_rfl) (by rfl) (.int .i64 (el : Int)) (y1) (by go_simp) ((hkd.out.trans hy1)) ?_
                            simp only [Act.put, List.setIfInBounds_toArray, List.set_cons_succ, List.set_cons_zero]
                            refine takeH 18 (.bool false) rfl (by kernel_rfl) (by kernel_rfl) (by kernel_rfl) (fun _ _ _ h => h) (by rfl) (fun v hv => by go_simp) (hkd.out.trans hy1) ?_
                            simp only [Act.put, List.setIfInBounds_toArray, List.set_cons_succ, List.set_cons_zero]
                            refine takeH 19 (.bool false) rfl (by kernel_rfl) (by kernel_rfl) (by kernel_rfl) (fun _ _ _ h => h) (by rfl) (fun v hv => by go_simp) (hkd.out.trans hy1) ?_
                            simp only [Act.put, List.setIfInBounds_toArray, List.set_cons_succ, List.set_cons_zero]
                            refine wpAnyH_done (by kernel_rfl) ?_ _
                            have hJI2 := hid (show JI w2 y1 p hb q jobs life least (i + 1) nw from by
                              obtain ⟨Z9, es9, ss9, fl9, k9, j9⟩ := hJI.out
                              exact ⟨Z9, es9, ss9, fl9, k9, j9.keep (hkd.out.trans hy1)⟩)
                            clear hy1 hH0 hJI hml hml1 hle hlo hcj hgt hpl hpc hkd CT
                            go_wp2
                            go_roundw
                            case rel => exact ⟨i + 1, nw, HLT.out, by go_num, rfl, hJI2⟩
                            case measure => simp [intOf]; omega
                    · have e4 : (o.kind == 4) = false := by simp [hk4]
                      by_cases hk5 : o.kind = 5
                      · have e5 : (o.kind == 5) = true := by simp [hk5]
                        clear hk5
                        as_aux_lemma =>
                          have hfa := hid (cw_fail JW.out.cw o.nm (by have := HOF.out.1; omega) nw (by have := JW.out.n0; omega) (by have := JW.out.n1; have := I50.out; omega))
                          obtain ⟨fs, hfs⟩ : ∃ fs, fs = (if stateT ss o.nm nw life = 1 then failS ss o.nm else ss) := ⟨_, rfl⟩
                          rw [← hfs] at hfa
                          have hfp := hid (show (pendE fs nw life : Int) ≤ jobs from hfs ▸ JW.out.fail o.nm)
                          obtain ⟨fb, hfb⟩ : ∃ fb, fb = decide (stateT ss o.nm nw life = 1) := ⟨_, rfl⟩
                          rw [← hfb] at hfa
                          clear hfs hfb
                          go_wp2_with fail
                          refine hfa.out.mono ?_
                          rintro e W3 ⟨rfl, k3, c3⟩
                          have JT := hid (JW.out.turn (Z' := Z) k3 (fun x hx => Or.inl hx) c3 (by have := JW.out.hk; have := I50.out; omega) hfp.out)
                          clear k3 c3 hfa hc1 hc2 hc3 hc4 hfp
                          go_wp2_with fail
                          as_aux_lemma =>
                            have CT := hid JT.out.cw
                            have hkd := hid (show Kept [] W3 W3.drew from (Kept.refl [] W3).drew)
                            have hpc := hid (cw_pending (CT.out.keep hkd.out (by simp)) nw (by have := JT.out.n0; omega) (by have := JT.out.n1; have := I50.out; omega))
                            have hpl := JT.out.pend
                            obtain ⟨pn, hpn⟩ : ∃ pn, pn = pendT fs nw life := ⟨_, rfl⟩
                            rw [← hpn] at hpc hpl
                            have hgt : ¬ jobs < (pn : Int) := by omega
                            have hcj := hid (fun X (hX : Kept [] W3 X) => HBX.out X (CT.out.kept.trans hX))
                            have hlo := hid (fun X (hX : Kept [] W3 X) => cw_lost (CT.out.keep hX (by simp)))
                            have hle := hid (fun X (hX : Kept [] W3 X) => cw_len (CT.out.keep hX (by simp)))
                            have hml := hid (fun X (hX : Kept [] W3 X) ty => mt_len_c (JT.out.mp.kept hX (by simp)) ty)
                            obtain ⟨el, hel⟩ : ∃ el, el = es.length := ⟨_, rfl⟩
                            rw [← hel] at hle
                            rw [List.length_map, ← hel] at hml
                            have hJI := hid (show JI w2 W3 p hb q jobs life least (i + 1) nw from ⟨_, _, _, _, _, JT.out⟩)
                            clear hpn hel
                            go_wp2_with fail
                            have hH0 : Kept [] W3 W3.drew := hkd.out
                            refine wp_region_held_drew (S := fun v => Kept [] W3 v) (by kernel_rfl) hH0 (fun hH => ?_)
                            refine takeH 0 (.pointer (some ⟨p, 0, none⟩)) rfl (by kernel_rfl) (by kernel_rfl) (by kernel_rfl) (fun _ _ _ h => h) (by rfl) (fun v hv => by go_simp) hH ?_
                            simp only [Act.put, List.setIfInBounds_toArray, List.set_cons_succ, List.set_cons_zero]
                            refine takeH 1 (.int .i64 nw) rfl (by kernel_rfl) (by kernel_rfl) (by kernel_rfl) (fun _ _ _ h => h) (by rfl) (fun v hv => by go_simp) hH ?_
                            simp only [Act.put, List.setIfInBounds_toArray, List.set_cons_succ, List.set_cons_zero]
                            refine takeH 3 (.pointer (some ⟨bx, 1, none⟩)) rfl (by kernel_rfl) (by kernel_rfl) (by kernel_rfl) (fun _ _ _ h => h) (by rfl) (fun v hv => by go_simp) hH ?_
                            simp only [Act.put, List.setIfInBounds_toArray, List.set_cons_succ, List.set_cons_zero]
                            refine takeH 4 (.int .i64 jobs) rfl (by kernel_rfl) (by kernel_rfl) (by kernel_rfl) (fun _ _ _ h => h) (by rfl) (fun v hv => by have h := (hcj.out v hv).1; go_simp) hH ?_
                            simp only [Act.put, List.setIfInBounds_toArray, List.set_cons_succ, List.set_cons_zero]
                            refine callR 2 rfl (by kernel_rfl) (by rfl) 28 #[.pointer (some ⟨p, 0, none⟩), .int .i64 nw] (by go_simp) (.int .i64 (pn : Int)) (fun v => Kept [] W3.drew v) (fun v h => hkd.out.trans h) (hpc.out) ?_
                            rintro y1 hy1
                            simp only [Act.put, List.setIfInBounds_toArray, List.set_cons_succ, List.set_cons_zero]
                            refine takeH 5 (.bool false) rfl (by kernel_rfl) (by kernel_rfl) (by kernel_rfl) (fun _ _ _ h => h) (by rfl) (fun v hv => by have h := hgt; go_simp) (hkd.out.trans hy1) ?_
                            simp only [Act.put, List.setIfInBounds_toArray, List.set_cons_succ, List.set_cons_zero]
                            refine takeH 6 (.bool false) rfl (by kernel_rfl) (by kernel_rfl) (by kernel_rfl) (fun _ _ _ h => h) (by rfl) (fun v hv => by go_simp) (hkd.out.trans hy1) ?_
                            simp only [Act.put, List.setIfInBounds_toArray, List.set_cons_succ, List.set_cons_zero]
                            refine takeH 7 (.pointer (some ⟨p, 0, none⟩)) rfl (by kernel_rfl) (by kernel_rfl) (by kernel_rfl) (fun _ _ _ h => h) (by rfl) (fun v hv => by go_simp) (hkd.out.trans hy1) ?_
                            simp only [Act.put, List.setIfInBounds_toArray, List.set_cons_succ, List.set_cons_zero]
                            refine callR 8 rfl (by kernel_rfl) (by rfl) 29 #[.pointer (some ⟨p, 0, none⟩)] (by go_simp) (.int .i64 0) (fun v => y1 = v) (fun v h => h ▸ (hkd.out.trans hy1)) (hlo.out _ (hkd.out.trans hy1)) ?_
                            rintro y2 rfl
                            simp only [Act.put, List.setIfInBounds_toArray, List.set_cons_succ, List.set_cons_zero]
                            refine takeH 9 (.bool false) rfl (by kernel_rfl) (by kernel_rfl) (by kernel_rfl) (fun _ _ _ h => h) (by rfl) (fun v hv => by go_simp) (hkd.out.trans hy1) ?_
                            simp only [Act.put, List.setIfInBounds_toArray, List.set_cons_succ, List.set_cons_zero]
                            refine takeH 10 (.bool false) rfl (by kernel_rfl) (by kernel_rfl) (by kernel_rfl) (fun _ _ _ h => h) (by rfl) (fun v hv => by go_simp) (hkd.out.trans hy1) ?_
                            simp only [Act.put, List.setIfInBounds_toArray, List.set_cons_succ, List.set_cons_zero]
                            refine takeH 11 (.bool false) rfl (by kernel_rfl) (by kernel_rfl) (by kernel_rfl) (fun _ _ _ h => h) (by rfl) (fun v hv => by go_simp) (hkd.out.trans hy1) ?_
                            simp only [Act.put, List.setIfInBounds_toArray, List.set_cons_succ, List.set_cons_zero]
                            refine takeH 12 (.pointer (some ⟨p, 0, none⟩)) rfl (by kernel_rfl) (by kernel_rfl) (by kernel_rfl) (fun _ _ _ h => h) (by rfl) (fun v hv => by go_simp) (hkd.out.trans hy1) ?_
                            simp only [Act.put, List.setIfInBounds_toArray, List.set_cons_succ, List.set_cons_zero]
                            refine takeH 13 (.pointer (some ⟨p, 0, none⟩)) rfl (by kernel_rfl) (by kernel_rfl) (by kernel_rfl) (fun _ _ _ h => h) (by rfl) (fun v hv => by go_simp) (hkd.out.trans hy1) ?_
                            simp only [Act.put, List.setIfInBounds_toArray, List.set_cons_succ, List.set_cons_zero]
                            refine takeH 14 (.pointer (some ⟨p, 0, none⟩)) rfl (by kernel_rfl) (by kernel_rfl) (by kernel_rfl) (fun _ _ _ h => h) (by rfl) (fun v hv => by go_simp) (hkd.out.trans hy1) ?_
                            simp only [Act.put, List.setIfInBounds_toArray, List.set_cons_succ, List.set_cons_zero]
                            refine takeH 16 (.map (some hb)) rfl (by kernel_rfl) (by kernel_rfl) (by kernel_rfl) (fun _ _ _ h => h) (by rfl) (fun v hv => by go_simp) (hkd.out.trans hy1) ?_
                            simp only [Act.put, List.setIfInBounds_toArray, List.set_cons_succ, List.set_cons_zero]
                            refine callR 15 rfl (by kernel_rfl) (by rfl) 30 #[.pointer (some ⟨p, 0, none⟩)] (by go_simp) (.int .i64 (el : Int)) (fun v => y1 = v) (fun v h => h ▸ (hkd.out.trans hy1)) (hle.out _ (hkd.out.trans hy1)) ?_
                            rintro y2 rfl
                            simp only [Act.put, List.setIfInBounds_toArray, List.set_cons_succ, List.set_cons_zero]
                            have hml1 := hml.out _ (hkd.out.trans hy1)
                            refine runH 17 rfl (by kernel_rfl) (by rfl) (.int .i64 (el : Int)) (y1) (by go_simp) ((hkd.out.trans hy1)) ?_
                            simp only [Act.put, List.setIfInBounds_toArray, List.set_cons_succ, List.set_cons_zero]
                            refine takeH 18 (.bool false) rfl (by kernel_rfl) (by kernel_rfl) (by kernel_rfl) (fun _ _ _ h => h) (by rfl) (fun v hv => by go_simp) (hkd.out.trans hy1) ?_
                            simp only [Act.put, List.setIfInBounds_toArray, List.set_cons_succ, List.set_cons_zero]
                            refine takeH 19 (.bool false) rfl (by kernel_rfl) (by kernel_rfl) (by kernel_rfl) (fun _ _ _ h => h) (by rfl) (fun v hv => by go_simp) (hkd.out.trans hy1) ?_
                            simp only [Act.put, List.setIfInBounds_toArray, List.set_cons_succ, List.set_cons_zero]
                            refine wpAnyH_done (by kernel_rfl) ?_ _
                            have hJI2 := hid (show JI w2 y1 p hb q jobs life least (i + 1) nw from by
                              obtain ⟨Z9, es9, ss9, fl9, k9, j9⟩ := hJI.out
                              exact ⟨Z9, es9, ss9, fl9, k9, j9.keep (hkd.out.trans hy1)⟩)
                            clear hy1 hH0 hJI hml hml1 hle hlo hcj hgt hpl hpc hkd CT
                            go_wp2
                            go_roundw
                            case rel => exact ⟨i + 1, nw, HLT.out, by go_num, rfl, hJI2⟩
                            case measure => simp [intOf]; omega
                      · have e5 : (o.kind == 5) = false := by simp [hk5]
                        have JT := hid JW.out.more
                        clear hc1 hc2 hc3 hc4
                        go_wp2_with fail
                        as_aux_lemma =>
                          have CT := hid JT.out.cw
                          have hkd := hid (show Kept [] W W.drew from (Kept.refl [] W).drew)
                          have hpc := hid (cw_pending (CT.out.keep hkd.out (by simp)) nw (by have := JT.out.n0; omega) (by have := JT.out.n1; have := I50.out; omega))
                          have hpl := JT.out.pend
                          obtain ⟨pn, hpn⟩ : ∃ pn, pn = pendT ss nw life := ⟨_, rfl⟩
                          rw [← hpn] at hpc hpl
                          have hgt : ¬ jobs < (pn : Int) := by omega
                          have hcj := hid (fun X (hX : Kept [] W X) => HBX.out X (CT.out.kept.trans hX))
                          have hlo := hid (fun X (hX : Kept [] W X) => cw_lost (CT.out.keep hX (by simp)))
                          have hle := hid (fun X (hX : Kept [] W X) => cw_len (CT.out.keep hX (by simp)))
                          have hml := hid (fun X (hX : Kept [] W X) ty => mt_len_c (JT.out.mp.kept hX (by simp)) ty)
                          obtain ⟨el, hel⟩ : ∃ el, el = es.length := ⟨_, rfl⟩
                          rw [← hel] at hle
                          rw [List.length_map, ← hel] at hml
                          have hJI := hid (show JI w2 W p hb q jobs life least (i + 1) nw from ⟨_, _, _, _, _, JT.out⟩)
                          clear hpn hel
                          go_wp2_with fail
                          have hH0 : Kept [] W W.drew := hkd.out
                          refine wp_region_held_drew (S := fun v => Kept [] W v) (by kernel_rfl) hH0 (fun hH => ?_)
                          refine takeH 0 (.pointer (some ⟨p, 0, none⟩)) rfl (by kernel_rfl) (by kernel_rfl) (by kernel_rfl) (fun _ _ _ h => h) (by rfl) (fun v hv => by go_simp) hH ?_
                          simp only [Act.put, List.setIfInBounds_toArray, List.set_cons_succ, List.set_cons_zero]
                          refine takeH 1 (.int .i64 nw) rfl (by kernel_rfl) (by kernel_rfl) (by kernel_rfl) (fun _ _ _ h => h) (by rfl) (fun v hv => by go_simp) hH ?_
                          simp only [Act.put, List.setIfInBounds_toArray, List.set_cons_succ, List.set_cons_zero]
                          refine takeH 3 (.pointer (some ⟨bx, 1, none⟩)) rfl (by kernel_rfl) (by kernel_rfl) (by kernel_rfl) (fun _ _ _ h => h) (by rfl) (fun v hv => by go_simp) hH ?_
                          simp only [Act.put, List.setIfInBounds_toArray, List.set_cons_succ, List.set_cons_zero]
                          refine takeH 4 (.int .i64 jobs) rfl (by kernel_rfl) (by kernel_rfl) (by kernel_rfl) (fun _ _ _ h => h) (by rfl) (fun v hv => by have h := (hcj.out v hv).1; go_simp) hH ?_
                          simp only [Act.put, List.setIfInBounds_toArray, List.set_cons_succ, List.set_cons_zero]
                          refine callR 2 rfl (by kernel_rfl) (by rfl) 28 #[.pointer (some ⟨p, 0, none⟩), .int .i64 nw] (by go_simp) (.int .i64 (pn : Int)) (fun v => Kept [] W.drew v) (fun v h => hkd.out.trans h) (hpc.out) ?_
                          rintro y1 hy1
                          simp only [Act.put, List.setIfInBounds_toArray, List.set_cons_succ, List.set_cons_zero]
                          refine takeH 5 (.bool false) rfl (by kernel_rfl) (by kernel_rfl) (by kernel_rfl) (fun _ _ _ h => h) (by rfl) (fun v hv => by have h := hgt; go_simp) (hkd.out.trans hy1) ?_
                          simp only [Act.put, List.setIfInBounds_toArray, List.set_cons_succ, List.set_cons_zero]
                          refine takeH 6 (.bool false) rfl (by kernel_rfl) (by kernel_rfl) (by kernel_rfl) (fun _ _ _ h => h) (by rfl) (fun v hv => by go_simp) (hkd.out.trans hy1) ?_
                          simp only [Act.put, List.setIfInBounds_toArray, List.set_cons_succ, List.set_cons_zero]
                          refine takeH 7 (.pointer (some ⟨p, 0, none⟩)) rfl (by kernel_rfl) (by kernel_rfl) (by kernel_rfl) (fun _ _ _ h => h) (by rfl) (fun v hv => by go_simp) (hkd.out.trans hy1) ?_
                          simp only [Act.put, List.setIfInBounds_toArray, List.set_cons_succ, List.set_cons_zero]
                          refine callR 8 rfl (by kernel_rfl) (by rfl) 29 #[.pointer (some ⟨p, 0, none⟩)] (by go_simp) (.int .i64 0) (fun v => y1 = v) (fun v h => h ▸ (hkd.out.trans hy1)) (hlo.out _ (hkd.out.trans hy1)) ?_
                          rintro y2 rfl
                          simp only [Act.put, List.setIfInBounds_toArray, List.set_cons_succ, List.set_cons_zero]
                          refine takeH 9 (.bool false) rfl (by kernel_rfl) (by kernel_rfl) (by kernel_rfl) (fun _ _ _ h => h) (by rfl) (fun v hv => by go_simp) (hkd.out.trans hy1) ?_
                          simp only [Act.put, List.setIfInBounds_toArray, List.set_cons_succ, List.set_cons_zero]
                          refine takeH 10 (.bool false) rfl (by kernel_rfl) (by kernel_rfl) (by kernel_rfl) (fun _ _ _ h => h) (by rfl) (fun v hv => by go_simp) (hkd.out.trans hy1) ?_
                          simp only [Act.put, List.setIfInBounds_toArray, List.set_cons_succ, List.set_cons_zero]
                          refine takeH 11 (.bool false) rfl (by kernel_rfl) (by kernel_rfl) (by kernel_rfl) (fun _ _ _ h => h) (by rfl) (fun v hv => by go_simp) (hkd.out.trans hy1) ?_
                          simp only [Act.put, List.setIfInBounds_toArray, List.set_cons_succ, List.set_cons_zero]
                          refine takeH 12 (.pointer (some ⟨p, 0, none⟩)) rfl (by kernel_rfl) (by kernel_rfl) (by kernel_rfl) (fun _ _ _ h => h) (by rfl) (fun v hv => by go_simp) (hkd.out.trans hy1) ?_
                          simp only [Act.put, List.setIfInBounds_toArray, List.set_cons_succ, List.set_cons_zero]
                          refine takeH 13 (.pointer (some ⟨p, 0, none⟩)) rfl (by kernel_rfl) (by kernel_rfl) (by kernel_rfl) (fun _ _ _ h => h) (by rfl) (fun v hv => by go_simp) (hkd.out.trans hy1) ?_
                          simp only [Act.put, List.setIfInBounds_toArray, List.set_cons_succ, List.set_cons_zero]
                          refine takeH 14 (.pointer (some ⟨p, 0, none⟩)) rfl (by kernel_rfl) (by kernel_rfl) (by kernel_rfl) (fun _ _ _ h => h) (by rfl) (fun v hv => by go_simp) (hkd.out.trans hy1) ?_
                          simp only [Act.put, List.setIfInBounds_toArray, List.set_cons_succ, List.set_cons_zero]
                          refine takeH 16 (.map (some hb)) rfl (by kernel_rfl) (by kernel_rfl) (by kernel_rfl) (fun _ _ _ h => h) (by rfl) (fun v hv => by go_simp) (hkd.out.trans hy1) ?_
                          simp only [Act.put, List.setIfInBounds_toArray, List.set_cons_succ, List.set_cons_zero]
                          refine callR 15 rfl (by kernel_rfl) (by rfl) 30 #[.pointer (some ⟨p, 0, none⟩)] (by go_simp) (.int .i64 (el : Int)) (fun v => y1 = v) (fun v h => h ▸ (hkd.out.trans hy1)) (hle.out _ (hkd.out.trans hy1)) ?_
                          rintro y2 rfl
                          simp only [Act.put, List.setIfInBounds_toArray, List.set_cons_succ, List.set_cons_zero]
                          have hml1 := hml.out _ (hkd.out.trans hy1)
                          refine runH 17 rfl (by kernel_rfl) (by rfl) (.int .i64 (el : Int)) (y1) (by go_simp) ((hkd.out.trans hy1)) ?_
                          simp only [Act.put, List.setIfInBounds_toArray, List.set_cons_succ, List.set_cons_zero]
                          refine takeH 18 (.bool false) rfl (by kernel_rfl) (by kernel_rfl) (by kernel_rfl) (fun _ _ _ h => h) (by rfl) (fun v hv => by go_simp) (hkd.out.trans hy1) ?_
                          simp only [Act.put, List.setIfInBounds_toArray, List.set_cons_succ, List.set_cons_zero]
                          refine takeH 19 (.bool false) rfl (by kernel_rfl) (by kernel_rfl) (by kernel_rfl) (fun _ _ _ h => h) (by rfl) (fun v hv => by go_simp) (hkd.out.trans hy1) ?_
                          simp only [Act.put, List.setIfInBounds_toArray, List.set_cons_succ, List.set_cons_zero]
                          refine wpAnyH_done (by kernel_rfl) ?_ _
                          have hJI2 := hid (show JI w2 y1 p hb q jobs life least (i + 1) nw from by
                            obtain ⟨Z9, es9, ss9, fl9, k9, j9⟩ := hJI.out
                            exact ⟨Z9, es9, ss9, fl9, k9, j9.keep (hkd.out.trans hy1)⟩)
                          clear hy1 hH0 hJI hml hml1 hle hlo hcj hgt hpl hpc hkd CT
                          go_wp2
                          go_roundw
                          case rel => exact ⟨i + 1, nw, HLT.out, by go_num, rfl, hJI2⟩
                          case measure => simp [intOf]; omega
          · obtain rfl : i = n := by omega
            have hk := hid (K2.out.trans js.cw.kept)
            clear hst js hlt
            go_wp2
            go_ret
            exact ⟨rfl, hk.out⟩
      · rw [decide_eq_false hR] at hrt
        go_wp2_with fail
        refine hrt.out.mono ?_
        rintro e w3 ⟨rfl, rfl⟩
        go_wp2
        go_ret
        exact ⟨rfl, K2.out⟩
  · rw [decide_eq_false hF] at hfew
    go_wp2_with fail
    refine hfew.out.mono ?_
    rintro e w2 ⟨rfl, k2⟩
    have K2 := hid (K1.out.trans k2)
    clear k2 hfew
    go_wp2
    go_ret
    exact ⟨rfl, K2.out⟩
end Go.Proofs.Ytnkolgamnakegaa
