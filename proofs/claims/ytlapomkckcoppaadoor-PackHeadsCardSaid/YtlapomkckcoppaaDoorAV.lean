import Derived.Test.YtlapomkckcoppaaDoorAU

/- coldstorelaw12.PackBack. -/
namespace Go.Proofs.YtlapomkckcoppaaDoor
open Go.RowKit Go.Lib Go.Maps

/-- The blobs of the law's own, as they were handed in. -/
def OwnV (w : World) (vals : List Value) (bl : List (List UInt8)) : Prop :=
  vals.length = bl.length ∧ ∀ (i : Nat) (r : List UInt8), bl[i]? = some r → ∃ ar cr, vals[i]? = some (.slice ar r.length cr) ∧ SrcB w (.slice ar r.length cr) r
theorem OwnV.snoc {w : World} {vals : List Value} {bl : List (List UInt8)} (h : OwnV w vals bl) {ar : Option Addr} {cr : Nat} {r : List UInt8} (hs : SrcB w (.slice ar r.length cr) r) : OwnV w (vals ++ [.slice ar r.length cr]) (bl ++ [r]) := by
  refine ⟨by simp [h.1], fun i r' hi => ?_⟩
  rcases Nat.lt_or_ge i bl.length with hl | hl
  · rw [List.getElem?_append_left hl] at hi
    obtain ⟨a', c', h1, h2⟩ := h.2 i r' hi
    exact ⟨a', c', by rw [List.getElem?_append_left (by rw [h.1]; exact hl)]; exact h1, h2⟩
  · rw [List.getElem?_append_right hl] at hi
    have h0 : i - bl.length = 0 := by
      rcases Nat.eq_zero_or_pos (i - bl.length) with h0 | h0
      · exact h0
      · rw [List.getElem?_eq_none (by simp; omega)] at hi; cases hi
    rw [h0] at hi
    simp at hi
    subst hi
    exact ⟨ar, cr, by rw [List.getElem?_append_right (by rw [h.1]; exact hl), h.1, h0]; rfl, hs⟩
theorem isRows_of {v : World} {base : Nat} {a : Option Addr} {n c : Nat} {vals : List Value} {rows : List (List UInt8)} (ho : v.ownsRow base 29 1 (.slice a n c) n vals) (hn : rows.length = n)
    (hv : ∀ (i : Nat) (r : List UInt8), rows[i]? = some r → ∃ ar cr, vals[i]? = some (.slice ar r.length cr) ∧ SrcB v (.slice ar r.length cr) r) : IsRows v a rows := by
  refine ⟨fun h => ?_, fun x hx i r hr => ?_⟩
  · subst h
    rcases ho.2 with ⟨h1, h2⟩ | ⟨g, cap, cur, h1, _⟩
    · exact List.eq_nil_of_length_eq_zero (by omega)
    · simp at h1
  · subst hx
    obtain ⟨g, rfl⟩ : ∃ g, x = ⟨g, 0, none⟩ := by
      rcases ho.2 with ⟨h1, h2⟩ | ⟨g, cap, cur, h1, _⟩
      · simp at h1
      · simp at h1; exact ⟨g, h1.1⟩
    obtain ⟨ar, cr, h1, h2⟩ := hv i r hr
    exact ⟨ar, cr, ho.cells (g := g) rfl i _ h1, h2⟩
/-- Behind so many blobs. -/
structure BkI (w : World) (p : Nat) (bl : List (List UInt8)) (vp : Value) (S : List Nat) (wr : World) : Prop where
  kept : Kept [] w wr
  bw : Bw w wr S p bl
  row : ∃ vals, wr.ownsRow w.heap.size 29 1 vp bl.length vals ∧ OwnV w vals bl
  apart : ∀ g, vp.ownBlock = some g → g ∉ S
theorem flip0 {id : List UInt8} (h : id.length = 32) : ∃ b r, id = b :: r ∧ (b ^^^ 1) :: r ≠ id ∧ ((b ^^^ 1) :: r).length = 32 := by
  match id, h with
  | b :: r, h =>
    refine ⟨b, r, rfl, fun e => ?_, by simpa using h⟩
    have h1 : b ^^^ 1 = b := (List.cons.inj e).1
    have h2 : b ^^^ (b ^^^ 1) = b ^^^ b := by rw [h1]
    rw [← UInt8.xor_assoc, UInt8.xor_self, UInt8.zero_xor] at h2
    exact absurd h2 (by decide)
theorem packL_bad {bl : List (List UInt8)} {i : Nat} {b id : List UInt8} (h : bl[i]? = some b) (hid : id ≠ Sha.sum b) : blobErr (packL bl) id ((bl.take i).flatten.length : Int) (b.length : Int) = 35 := by
  obtain ⟨h1, h2, h3⟩ := packL_blob h
  unfold blobAt at h1
  unfold blobErr
  rw [if_neg (by omega), h1, if_pos (fun e => hid e.symm)]
theorem packL_more (bl : List (List UInt8)) (h : Good bl) (pre : List UInt8) : shErr (pre ++ packL bl) = 0 ∧ shOf (pre ++ packL bl) = sealed 80 (headB (ens bl)) := by
  unfold packL; rw [packB_eq, ← List.append_assoc]; exact sh_at _ _ (seal_lt (ens_ids bl) (by rw [ens_len]; exact h.size.2))
theorem packL_drop (bl : List (List UInt8)) (h : Good bl) : (shErr ((packL bl).drop 1) = 0 ∧ shOf ((packL bl).drop 1) = sealed 80 (headB (ens bl))) ∨ rdErr ((packL bl).drop 1) = 20 := by
  have hlt := seal_lt (ens_ids bl) (by rw [ens_len]; exact h.size.2)
  cases hf : bl.flatten with
  | nil =>
    right
    have e : packL bl = tailP (ens bl) := by unfold packL; rw [packB_eq, hf]; rfl
    rw [e]
    unfold rdErr
    have := sh_far (sealed 80 (headB (ens bl))) 1 hlt (by decide) (by rw [sealed_len]; omega)
    unfold tailP
    rw [this, if_neg (by decide)]
  | cons x r =>
    left
    have e : (packL bl).drop 1 = r ++ tailP (ens bl) := by unfold packL; rw [packB_eq, hf]; rfl
    rw [e]
    exact sh_at _ _ hlt
set_option maxRecDepth 100000 in
set_option maxHeartbeats 16000000 in
theorem pack_back (a : Option Addr) (c : Nat) (rows : List (List UInt8)) (mo : UInt8) (w : World) (ht : Tab w) (hts : Tabs w) (h : RowsC w a rows) (hm : rows.length ≤ 9223372036854775807) (hl : ∀ r ∈ rows, r.length ≤ 9223372036854775807) :
    Calls Tryd.prog 4 #[.slice a rows.length c, .int .u8 (mo.toNat : Int)] w fun e w' => e = .returned (.bool true) ∧ Kept [] w w' := by
  have Ht := hid ht; have Hts := hid hts; have H := hid h; have Hl := hid hl; have Hm := hid hm
  have hal := hid (alive12 w ht hts)
  have hzb := zero_bd
  have hzv := zero_en
  obtain ⟨i0, hi0, hz0, hz1, hz2⟩ := info_parts info_u8
  obtain ⟨j0, hj0, hy0, hy1, hy2⟩ := info_parts info_bb
  obtain ⟨n, hn⟩ : ∃ n, n = rows.length := ⟨_, rfl⟩
  have HN := hid hn
  rw [← hn]
  clear ht hts h hl hm hn
  go_enter Tryd.func4, Tryd.ntmps4
  go_wp2_with fail
  refine hal.out.mono ?_
  rintro e w1 ⟨rfl, k1⟩
  have K1 := hid k1
  have hfw := hid (few12 a c rows w1 (H.out.kept k1).is Hm.out Hl.out)
  rw [← HN.out] at hfw
  clear k1 hal
  go_wp2_with fail
  refine hfw.out.mono ?_
  rintro e w2 ⟨rfl, rfl⟩
  cases hfe : few12B rows
  · clear hfw
    go_wp2
    go_ret
    exact ⟨rfl, K1.out⟩
  have Hfe := hid hfe
  clear hfe hfw
  go_wp2_with fail
  obtain ⟨W3, hW3⟩ : ∃ W3, W3 = (w1.alloc (.cells zBd.toArray 31)).alloc (.cells #[] 29) := ⟨_, rfl⟩
  have K3 := hid (show Kept [] w W3 from hW3 ▸ ((K1.out).alloc _).alloc _)
  have hI0 := hid (show BkI w w1.heap.size (accAll (rows.take 0)) (.slice (some ⟨w1.heap.size + 1, 0, none⟩) 0 0) [w1.heap.size] W3 from
    ⟨K3.out, Bw.zero (hW3 ▸ heap_alloc_old (heap_alloc_at rfl)) K1.out.size, ⟨[], ⟨by simp [accAll], Or.inr ⟨w1.heap.size + 1, 0, #[], rfl, by have := K1.out.size; omega, hW3 ▸ heap_alloc_at (by simp), by simp [accAll], by unfold maxLen; omega, by simp, by simp [accAll]⟩⟩, by simp [accAll], fun i r hi => by simp [accAll] at hi⟩, fun g hg => by simp [Value.ownBlock] at hg; simp; omega⟩)
  rw [← hW3]
  obtain ⟨p, hp⟩ : ∃ p, p = w1.heap.size := ⟨_, rfl⟩
  obtain ⟨p2, hp2⟩ : ∃ p2, p2 = w1.heap.size + 1 := ⟨_, rfl⟩
  rw [← hp2, ← hp] at hI0
  rw [← hp2, ← hp]
  have hn20 : n ≤ 20 := by have h1 := (few12_spec Hfe.out).2; have h2 := HN.out; omega
  clear hW3 hp hp2 K1 K3
  go_loopw [6, 34] (fun s6 s wr => ∃ i : Nat, i ≤ n ∧ s = .int .i64 i ∧ ∃ S, Hid (BkI w p (accAll (rows.take i)) s6 S wr)) (fun _ s _ => n - (intOf s).toNat)
  case atStart => exact ⟨0, Nat.zero_le _, rfl, _, hI0⟩
  case round =>
    clear hI0
    obtain ⟨i, hi, rfl, S, hst⟩ := hrel
    by_cases hlt : i < n
    · have hlt' : i < rows.length := by have := HN.out; omega
      cases a with
      | none => exact absurd (H.out.1 rfl) (fun e => by rw [e] at hlt'; simp at hlt')
      | some x =>
        obtain ⟨ar, cr, g0', s0', c1, c2⟩ := H.out.2 x rfl i rows[i] (by simp [hlt'])
        have g0 := (hst.out.kept.cell (World.block_lt_of_cell? w _ g0') (by simp)).trans g0'
        have hok := (few12_spec Hfe.out).1 rows[i] (List.getElem_mem hlt')
        have htk := hid (accAll_take rows i hlt')
        have hbl20 := hid (show (accAll (rows.take i)).length ≤ 20 from by have := accAll_len (rows.take i); have := List.length_take_le i rows; have := HN.out; omega)
        generalize rows[i] = r at *
        generalize accAll (rows.take i) = bl at *
        obtain ⟨vp, hvp⟩ : ∃ v, v = u6 := ⟨_, rfl⟩
        rw [← hvp] at hst ⊢
        obtain ⟨vals, hrow, hown⟩ := hst.out.row
        obtain ⟨pa, pc, rfl⟩ := owns_slice hrow
        clear hvp
        have Hst := hid hst.out; have Hrow := hid hrow; have Hown := hid hown
        have hadd := hid (l_add w wr S p bl ar cr r Hst.out.kept Hst.out.bw Hts.out s0' (by have := hok.le; omega) c1 c2)
        have Hs0 := hid s0'
        have Hlt := hid hlt
        clear hst hrow hown s0' g0' hlt' hok hlt c1 c2
        go_wp2_with fail
        refine hadd.out.mono ?_
        rintro e w5 ⟨S5, k5, ks5, b5, n5, hr5⟩
        have K5 := hid k5; have KS5 := hid ks5; have B5 := hid b5; have N5 := hid n5
        have R5 := hid (ks5.owns Hrow.out Hst.out.apart)
        have hpS5 := hid (show ∀ g, (Value.slice pa bl.length pc).ownBlock = some g → g ∉ S5 ∧ g < wr.heap.size from fun g hg => ⟨fun hm => by
          rcases n5 g hm with h1 | h1
          · exact Hst.out.apart g hg h1
          · have := (Hrow.out.lt g hg).2; omega, (Hrow.out.lt g hg).2⟩)
        have hin := Hlt.out
        clear k5 ks5 b5 n5 hadd
        rcases hr5 with ⟨ht5, rfl⟩ | ⟨ht5, rfl⟩
        · obtain ⟨ce, hce⟩ : ∃ ce, ce = (addE (ens bl) (Sha.sum r) r.length).cells := ⟨_, rfl⟩
          rw [← hce]
          have lce := hid (show ce.length = 34 by rw [hce]; exact en_size (sum32 r))
          have ice := hid (show (Tryd.prog.info? 38).map (·.size) = some ce.length by rw [lce.out]; exact en_info)
          have fce := hid (show 0 + ce.length ≤ zEnC.length by rw [lce.out, zEnC_len]; decide)
          have sce := hid (splice36 zEnC ce (by rw [lce.out, zEnC_len]))
          have oce := hid (show ∀ v ∈ ce, v.oneCell' = true by rw [hce]; exact en_one _)
          clear hce
          go_wp2_with (refine wpList_store_at rfl 38 (.tmp 9) (.tmp 41) rfl w5.heap.size 0 ce rfl rfl 38 zEnC (heap_alloc_at rfl) ice.out fce.out oce.out ?_; refine halt ?_)
          rw [sce.out]
          refine Halt.mk ?_
          obtain ⟨W6, hW6⟩ : ∃ W6, W6 = (w5.alloc (.cells zEnC.toArray 38)).setRow w5.heap.size ce.toArray := ⟨_, rfl⟩
          have k6 := hid (show Kept [] w5 W6 from hW6 ▸ ((Kept.refl [] w5).alloc _).setRow (fun h => absurd h (Nat.lt_irrefl _)) _)
          rw [← hW6]
          clear hW6
          have R6 := hid (k6.out.owns R5.out (by simp))
          have hbb := build_bb ar r.length cr W6
          go_wp2_with (at_builtin; refine halt ?_)
          refine Halt.mk ?_
          have hb20 := hbl20.out
          refine wpList_append_k _ rfl _ _ _ rfl w.heap.size 29 j0 _ 1 24 Tryd.underlying22 hj0 hy0 hy1 hy2 rfl (by decide) (.slice pa bl.length pc) bl.length _ rfl (((Kept.refl [] W6).alloc (.cells #[.slice ar r.length cr] 29)).owns R6.out (by simp)) (.slice (some ⟨W6.heap.size, 0, none⟩) 1 1) 1 [.slice ar r.length cr] rfl (one_src (heap_alloc_at rfl)) rfl (by simp [Value.oneCell']) (by unfold maxLen; omega) (by omega) (by have h1 := K5.out.size; have h2 := k6.out.size; simp; omega) ?_
          intro v8 w8 o8 g8 _ f8
          obtain ⟨a8, c8, rfl⟩ := owns_slice o8
          have k67 := hid (show Kept [] W6 (W6.alloc (.cells #[.slice ar r.length cr] 29)) from (Kept.refl [] W6).alloc _)
          have k8 := hid (Kept.of_row g8)
          have hz6 := hid k6.out.size
          have hm2 := hid (show accAll (rows.take (i + 1)) = bl ++ [r] from by rw [htk.out]; unfold more1; rw [ht5]; rfl)
          have hI := hid (show BkI w p (bl ++ [r]) (.slice a8 (bl.length + 1) c8) S5 w8 from by
            have hm1 : more1 bl r = bl ++ [r] := by unfold more1; rw [ht5]; rfl
            have hb5 := B5.out
            rw [hm1] at hb5
            refine ⟨((K5.out.trans k6.out).trans k67.out).trans' k8.out (fun y hy hm => ?_), ((hb5.kept k6.out (by simp)).kept k67.out (by simp)).kept k8.out (fun y hy hm => ?_), ⟨_, by simpa using o8, Hown.out.snoc Hs0.out⟩, fun g hg hm => ?_⟩
            · simp at hm; have := (Hrow.out.lt y hm).1; omega
            · simp at hm; exact (hpS5.out y hm).1 hy
            · rcases f8 g hg with h1 | h1
              · exact (hpS5.out g h1).1 hm
              · have := (hb5.low g hm).2; have := hz6.out; simp at h1; omega)
          clear o8 g8 f8 hbb
          go_wp2
          go_roundw
          case rel => exact ⟨i + 1, hin, by go_num, S5, by rw [hm2.out]; exact hI⟩
          case measure => simp [intOf]; omega
        · have izz := hid (show (Tryd.prog.info? 38).map (·.size) = some zEnC.length by rw [zEnC_len]; exact en_info)
          obtain ⟨er, her⟩ : ∃ er, er = addErr (ens bl) (Sha.sum r) r.length := ⟨_, rfl⟩
          have hne : (er == 0) = false := by
            have h1 : addErr (ens bl) (Sha.sum r) r.length ≠ 0 := of_decide_eq_false ht5
            rw [← her] at h1; simpa using h1
          rw [← her]
          clear her
          go_wp2_with (refine wpList_store_at rfl 38 (.tmp 9) (.tmp 41) rfl w5.heap.size 0 zEnC rfl rfl 38 zEnC (heap_alloc_at rfl) izz.out (by omega) zEnC_one ?_; refine halt ?_)
          rw [splice36 zEnC zEnC rfl]
          refine Halt.mk ?_
          obtain ⟨W6, hW6⟩ : ∃ W6, W6 = (w5.alloc (.cells zEnC.toArray 38)).setRow w5.heap.size zEnC.toArray := ⟨_, rfl⟩
          have k6 := hid (show Kept [] w5 W6 from hW6 ▸ ((Kept.refl [] w5).alloc _).setRow (fun h => absurd h (Nat.lt_irrefl _)) _)
          rw [← hW6]
          clear hW6
          have hm1 : more1 bl r = bl := by unfold more1; rw [ht5]; rfl
          have hm2 := hid (show accAll (rows.take (i + 1)) = bl from by rw [htk.out, hm1])
          have hI := hid (show BkI w p bl (.slice pa bl.length pc) S5 W6 from by
            have hb5 := B5.out
            rw [hm1] at hb5
            exact ⟨K5.out.trans k6.out, hb5.kept k6.out (by simp), ⟨_, k6.out.owns R5.out (by simp), Hown.out⟩, fun g hg => (hpS5.out g hg).1⟩)
          clear hm1
          go_wp2
          go_roundw
          case rel => exact ⟨i + 1, hin, by go_num, S5, by rw [hm2.out]; exact hI⟩
          case measure => simp [intOf]; omega
    · obtain rfl : i = n := by omega
      rw [HN.out, List.take_length] at hst
      have hbl20 := hid (show (accAll rows).length ≤ 20 from (packL_small Hfe.out).2)
      generalize accAll rows = bl at *
      obtain ⟨vp, hvp⟩ : ∃ v, v = u6 := ⟨_, rfl⟩
      rw [← hvp] at hst ⊢
      obtain ⟨vals, hrow, hown⟩ := hst.out.row
      obtain ⟨pa, pc, rfl⟩ := owns_slice hrow
      clear hvp
      have Hst := hid hst.out; have Hrow := hid hrow; have Hown := hid hown
      have hd1 := hid (l_done w wr S p bl Hst.out.kept Hst.out.bw Ht.out)
      have hG := hid Hst.out.bw.good
      have hPl := hid hG.out.plen
      obtain ⟨pl, HPL⟩ : ∃ pl, Hid (pl = (packL bl).length) := ⟨_, hid rfl⟩
      obtain ⟨nn, HNN⟩ : ∃ nn, Hid (nn = bl.length) := ⟨_, hid rfl⟩
      have hnn20 : nn ≤ 20 := by have h1 := hbl20.out; have h2 := HNN.out; omega
      rw [← HNN.out]
      clear hst hlt hi hrow hown
      go_wp2_with fail
      refine hd1.out.mono ?_
      rintro e w4 ⟨a4, c4, rfl, k4, o4⟩
      have K4 := hid (Hst.out.kept.trans k4)
      have B4 := hid (Hst.out.bw.kept k4 (by simp))
      have RO := hid (show ∀ v, Kept [] w4 v → IsRows v pa bl from fun v hv => isRows_of ((k4.trans hv).owns Hrow.out (by simp)) rfl (fun i r hi => by
        obtain ⟨ar, cr, h1, h2⟩ := Hown.out.2 i r hi
        exact ⟨ar, cr, h1, srcB_old h2 (K4.out.trans hv)⟩))
      have O4 := hid (fun v (hv : Kept [] w4 v) => hv.owns o4 (by simp))
      have OS := hid (fun v (hv : Kept [] w4 v) => ownsRow_src (hv.owns o4 (by simp)))
      have hcp := hid (owns_caps o4)
      have hsh := packL_sh hG.out
      have TT := hid (fun v (hv : Kept [] w4 v) => Ht.out.kept (K4.out.trans hv) (by simp))
      have TS := hid (fun v (hv : Kept [] w4 v) => Hts.out.kept (K4.out.trans hv) (by simp) (by simp))
      have hrd := hid (p_read_good a4 c4 (packL bl) w4 (TT.out _ (Kept.refl _ _)) (OS.out _ (Kept.refl _ _)) hcp.out.1 hcp.out.2.2.1 (by have := hPl.out; omega) (ens bl) hsh.1 hsh.2 hG.out (by rw [ens_len]; exact hG.out.size.2))
      have hall := hid (fun v (hv : Kept [] w4 v) => all12 a4 c4 (packL bl) 1000 v (TT.out v hv) (TS.out v hv) (OS.out v hv) (by have := hPl.out; omega) (ens bl) hsh.1 hsh.2 hG.out (by rw [ens_len]; have := hbl20.out; omega) (by omega) (packL_len bl).symm (fun e he => by
        obtain ⟨i, hi⟩ := List.getElem?_of_mem he
        rw [ens_get] at hi
        obtain ⟨b, hb, rfl⟩ := Option.map_eq_some_iff.1 hi
        have h1 := packL_blob hb
        exact ⟨sum32 b, h1.2.1, h1.2.2⟩))
      rw [← HPL.out] at hrd hall ⊢
      clear k4 o4 hd1 hsh
      go_wp2_with fail
      refine hrd.out.mono ?_
      rintro e w5 ⟨k5, (⟨-, la, lc, rfl, o5⟩ | ⟨hbd, -⟩)⟩
      rotate_left
      · exact absurd (packL_len bl).symm hbd
      rw [ens_len, ← HNN.out] at o5 ⊢
      have K5 := hid k5
      have R5 := hid (fun v (hv : Kept [] w5 v) => hv.owns o5 (by simp))
      clear k5 o5 hrd
      go_wp2_with fail
      refine (hall.out w5 K5.out).mono ?_
      rintro e w6 ⟨vx, vy, ps, rfl, k6, hz, -, hy, hps⟩
      have hpl' : ps.length = bl.length := by have := congrArg List.length hz.1; rw [ens_len] at this; simpa using this
      obtain ⟨ya, yc, rfl⟩ := owns_slice hy
      have K6 := hid (K5.out.trans k6); have K56 := hid k6
      have hys := hid (show ∀ (i : Nat) (r : List UInt8), bl[i]? = some r → ∃ x, ps[i]? = some x ∧ x.ys = r from fun i r hi => by
        have hlt := (List.getElem?_eq_some_iff.1 hi).1
        have hx : ps[i]? = some (ps[i]'(by omega)) := by simp
        have h1 : (ps.map (·.en))[i]? = some (ps[i]'(by omega)).en := by rw [List.getElem?_map, hx]; rfl
        rw [hz.1, ens_get, hi] at h1
        simp only [Option.map_some, Option.some.injEq] at h1
        refine ⟨_, hx, ?_⟩
        rw [hz.2 _ (List.getElem_mem _), ← h1]
        exact (packL_blob hi).1)
      have RY := hid (show IsRows w6 ya bl from isRows_of hy hpl'.symm (fun i r hi => by
        obtain ⟨x, hx, rfl⟩ := hys.out i r hi
        exact ⟨x.a, x.c, by rw [List.getElem?_map, hx]; rfl, ownsRow_src (hps x (List.mem_of_getElem? hx))⟩))
      have hsame := hid (refsame_rowsC ya pa yc pc bl w6 RY.out (RO.out w6 K6.out) (by have := hbl20.out; omega))
      rw [hpl']
      rw [← HNN.out] at hsame ⊢
      clear hall k6 hz hy hps hpl'
      go_wp2_with fail
      refine hsame.out.mono ?_
      rintro e w7 ⟨rfl, k7⟩
      have K7 := hid (K6.out.trans k7); have K57 := hid (K56.out.trans k7)
      clear k7 hsame
      go_wp2_with fail
      go_loopw [78] (fun s wr => ∃ j : Nat, j ≤ nn ∧ s = .int .i64 j ∧ Hid (Kept [] w7 wr)) (fun s _ => nn - (intOf s).toNat)
      case atStart => exact ⟨0, Nat.zero_le _, rfl, hid (Kept.refl _ _)⟩
      case round =>
        obtain ⟨j, hj, rfl, hkj⟩ := hrel
        by_cases hlj : j < nn
        · have hlj' : j < bl.length := by have := HNN.out; omega
          obtain ⟨b, hbj⟩ : ∃ b, bl[j]? = some b := ⟨bl[j], by simp⟩
          obtain ⟨b0, br, hsb, hne0, hl0⟩ := flip0 (sum32 b)
          obtain ⟨en, hen⟩ : ∃ en : En, en = ⟨Sha.sum b, (bl.take j).flatten.length, b.length⟩ := ⟨_, rfl⟩
          have h32 : en.id.length = 32 := by rw [hen]; exact sum32 b
          have heg : (ens bl)[j]? = some en := by rw [ens_get, hbj, hen]; rfl
          obtain ⟨off, hoff⟩ : ∃ off, off = (bl.take j).flatten.length := ⟨_, rfl⟩
          obtain ⟨ce, hce⟩ : ∃ ce, ce = en.cells := ⟨_, rfl⟩
          obtain ⟨cf, hcf⟩ : ∃ cf, cf = plC ((b0 ^^^ 1) :: br) (off : Int) (b.length : Int) := ⟨_, rfl⟩
          have hpl' : (plC (Sha.sum b) (off : Int) (b.length : Int)).toArray = ce.toArray := by rw [hce, hen, hoff]; rfl
          obtain ⟨bx, hbx⟩ : ∃ bx, bx = (b0 ^^^ 1).toNat := ⟨_, rfl⟩
          have hset := hid (show ce.toArray.setIfInBounds 0 (.int .u8 (bx : Int)) = cf.toArray from by rw [← hpl', hcf, hsb, hbx]; simp [plC, B])
          have hc0 := hid (show ce.toArray[0]? = some (.int .u8 (b0.toNat : Int)) from by rw [← hpl', hsb]; rfl)
          have lce := hid (show ce.length = 34 by rw [hce]; exact en_size h32)
          have lcf := hid (show cf.length = 34 by rw [hcf]; exact plC_len hl0 _ _)
          have ice := hid (show (Tryd.prog.info? 38).map (·.size) = some ce.length by rw [lce.out]; exact en_info)
          have icf := hid (show (Tryd.prog.info? 38).map (·.size) = some cf.length by rw [lcf.out]; exact en_info)
          have fce := hid (show 0 + ce.length ≤ zEnC.length by rw [lce.out, zEnC_len]; decide)
          have sce := hid (splice36 zEnC ce (by rw [lce.out, zEnC_len]))
          have oce := hid (show ∀ v ∈ ce, v.oneCell' = true by rw [hce]; exact en_one _)
          obtain ⟨g, rfl⟩ : ∃ g, la = some ⟨g, 0, none⟩ := by
            rcases (R5.out w5 (Kept.refl _ _)).2 with ⟨h1, h2⟩ | ⟨g, cap, cur, h1, _⟩
            · exfalso; omega
            · simp at h1; exact ⟨g, h1.1⟩
          obtain ⟨xo, rfl⟩ : ∃ xo, pa = some xo := by
            cases pa with
            | none => have h1 := (RO.out w4 (Kept.refl _ _)).1 rfl; rw [h1] at hlj'; simp at hlj'
            | some xo => exact ⟨xo, rfl⟩
          have hreads := hid (show ∀ (k : Nat) v, ce[k]? = some v → wr.cell? ((⟨g, j * 34, none⟩ : Addr).add k) = some v from fun k v hk => by
            have hk34 : k < 34 := by have := (List.getElem?_eq_some_iff.1 hk).1; rw [lce.out] at this; exact this
            have hc := (R5.out wr (K57.out.trans hkj.out)).cells (g := g) rfl (j * 34 + k) v (by rw [flat_get c34 34 c34_len (ens bl) j k en heg hk34, c34_of h32, ← hce]; exact hk)
            rw [plain_add] at hc ⊢
            simpa using hc)
          have hB1 := packL_blob hbj
          have hB2 := packL_bad (id := (b0 ^^^ 1) :: br) hbj (by rw [hsb] at hne0 ⊢; exact hne0)
          rw [← hoff] at hB1 hB2
          have HB1 := hid hB1; have HB2 := hid hB2
          have K4j := hid (K7.out.trans hkj.out)
          have hcall1 := hid (fun v (hv : Kept [] wr v) => p_blob_near a4 c4 (packL bl) (Sha.sum b) off b.length v (TS.out v (K4j.out.trans hv)) (sum32 b) (by have := hPl.out; omega) HB1.out.2.2 hcp.out.1 hcp.out.2.1 hcp.out.2.2.1 (fun u hu => OS.out u (K4j.out.trans (hv.trans hu))))
          have hcall2 := hid (fun v (hv : Kept [] wr v) => p_blob_near a4 c4 (packL bl) ((b0 ^^^ 1) :: br) off b.length v (TS.out v (K4j.out.trans hv)) hl0 (by have := hPl.out; omega) HB1.out.2.2 hcp.out.1 hcp.out.2.1 hcp.out.2.2.1 (fun u hu => OS.out u (K4j.out.trans (hv.trans hu))))
          rw [hpl', ← HPL.out] at hcall1
          rw [← hcf, ← HPL.out] at hcall2
          have hsame2 := hid (fun v a c b' d (h1 : SrcB v (.slice a b.length c) b) (h2 : SrcB v (.slice b' b.length d) b) => same_src a b' c d b v h1 h2)
          have hown := hid (fun v (hv : Kept [] wr v) => (RO.out v (K4j.out.trans hv)).2 xo rfl j b hbj)
          have hxor : bits .xor .u8 (b0.toNat : Int) 1 = (bx : Int) := hbx ▸ xor_u8 b0 1
          have Hlj := hid hlj; have Hkj := hid hkj.out
          clear hB1 hB2 hpl' hce hen heg hbj hlj' h32 hoff hlj hkj hcf hsb hne0 hl0 hbx
          go_wp2_with (first | (refine wpList_load_cells rfl 38 (.tmp 81) rfl ⟨g, j * 34, none⟩ rfl ce _ Tryd.underlying38 rfl ice.out hreads.out ?_) | (refine wpList_store_at rfl 38 (.tmp 17) (.tmp 82) rfl wr.heap.size 0 ce rfl rfl 38 zEnC (heap_alloc_at rfl) ice.out fce.out oce.out ?_; refine halt ?_))
          rw [sce.out]
          refine Halt.mk ?_
          obtain ⟨wb, hwb⟩ : ∃ wb : World, wb = (wr.alloc (.cells zEnC.toArray 38)).setRow wr.heap.size ce.toArray := ⟨_, rfl⟩
          have kb := hid (show Kept [] wr wb by rw [hwb]; exact ((Kept.refl [] wr).alloc _).setRow (fun h => absurd h (Nat.lt_irrefl _)) _)
          have qb := hid (show wb.heap[wr.heap.size]? = some (.cells ce.toArray 38 (0, 0)) from by rw [hwb]; exact setRow_heap _ _ _ _ _ _ (heap_alloc_at rfl))
          rw [← hwb]
          clear hwb hreads
          go_wp2_with (refine wpList_load_cells rfl 38 (.tmp 17) rfl ⟨wr.heap.size, 0, none⟩ rfl ce _ Tryd.underlying38 rfl ice.out (ld_en qb.out) ?_)
          refine (hcall1.out wb kb.out).mono ?_
          rintro e wc ⟨kc, (⟨hbd, -⟩ | ⟨-, ba, bc, rfl, oc⟩)⟩
          · exact absurd HB1.out.2.1 hbd
          rw [HB1.out.1] at oc ⊢
          have Kc := hid (kb.out.trans kc)
          have qc := hid (kc.at qb.out (by simp))
          obtain ⟨ar, cr, g0, s0⟩ := hown.out wc Kc.out
          have hsm := hid (hsame2.out wc ba bc ar cr (ownsRow_src oc) s0)
          clear kc oc hcall1 s0 hown
          go_wp2_with fail
          refine hsm.out.mono ?_
          rintro e wd ⟨rfl, rfl⟩
          have c0 : wc.cell? ⟨wr.heap.size, 0, none⟩ = some (.int .u8 (b0.toNat : Int)) := by rw [cell_of_row wc _ 0 _ _ _ qc.out]; exact hc0.out
          have f0 : wc.frozen? ⟨wr.heap.size, 0, none⟩ = false := free_of_row qc.out
          obtain ⟨wd, hwd⟩ : ∃ wd, wd = wc.setCell ⟨wr.heap.size, 0, none⟩ (.int .u8 (bx : Int)) := ⟨_, rfl⟩
          have HWD := hid hwd
          have Kd := hid (show Kept [] wr wd from Kc.out.trans' (S := []) (T := [wr.heap.size]) (hwd ▸ (Kept.refl [wr.heap.size] wc).setCell (p := ⟨wr.heap.size, 0, none⟩) (fun _ => by simp) _) (fun x hx hm => by simp at hm; omega))
          have qd := hid (show wd.heap[wr.heap.size]? = some (.cells cf.toArray 38 (0, 0)) from by
            have h1 := Go.heap_setCell_same wc wr.heap.size 0 _ _ (.int .u8 (bx : Int)) qc.out
            rw [hset.out] at h1
            rw [hwd]; exact h1)
          clear hwd hsm
          go_wp2_with (first | (rw [← HWD.out]; refine wpList_load_cells rfl 38 (.tmp 17) rfl ⟨wr.heap.size, 0, none⟩ rfl cf _ Tryd.underlying38 rfl icf.out (ld_en qd.out) ?_))
          refine (hcall2.out wd Kd.out).mono ?_
          rintro e we ⟨ke, (⟨-, rfl⟩ | ⟨hbd, -⟩)⟩
          rotate_left
          · exact absurd (HB2.out.symm.trans hbd) (by decide)
          rw [HB2.out]
          have Ke := hid (Hkj.out.trans (Kd.out.trans ke))
          have hin := Hlj.out
          clear ke hcall2 c0 f0 g0
          go_wp2
          go_roundw
          case rel => exact ⟨j + 1, hin, by go_num, Ke⟩
          case measure => simp [intOf]; omega
        · obtain rfl : j = nn := by omega
          have K4j := hid (K7.out.trans hkj.out)
          clear hkj hlj
          go_wp2_with (at_builtin; refine halt ?_)
          refine Halt.mk ?_
          have hp2 := hPl.out
          have hplE := HPL.out
          have hVs := hid ((OS.out wr K4j.out).kept ((Kept.refl [] wr).alloc (.cells #[.int .u8 (mo.toNat : Int)] 5)) (by simp))
          have hsrc9 := hid (show Src (wr.alloc (.cells #[.int .u8 (mo.toNat : Int)] 5)) (.slice a4 pl c4) pl ((packL bl).map B) from by have h1 := hVs.out; unfold SrcB at h1; rw [← hplE] at h1; exact h1)
          refine wpList_append_src _ rfl _ _ _ rfl wr.heap.size 5 i0 _ 1 Tryd.underlying29 hi0 hz0 hz1 hz2 rfl (.slice (some ⟨wr.heap.size, 0, none⟩) 1 1) 1 [.int .u8 (mo.toNat : Int)] rfl ⟨rfl, Or.inr ⟨wr.heap.size, 1, #[.int .u8 (mo.toNat : Int)], rfl, Nat.le_refl _, heap_alloc_at rfl, Nat.le_refl _, by unfold maxLen; omega, rfl, rfl⟩⟩ (.slice a4 pl c4) pl ((packL bl).map B) rfl hsrc9.out (by simp; exact hplE.symm) (B_oneCell _) (by unfold maxLen; omega) (by omega) (by simp) ?_
          intro v8 w8 o8 g8 _ f8
          obtain ⟨a8, c8, rfl⟩ := owns_slice o8
          have k8 := hid (show Kept [] wr w8 from ((Kept.refl [] wr).alloc (.cells #[.int .u8 (mo.toNat : Int)] 5)).trans' (Kept.of_row g8) (fun y hy hm => by simp [Value.ownBlock] at hm; omega))
          have hml : ([mo] ++ packL bl).length = 1 + pl := by simp; omega
          have o9 := hid (show w8.ownsRow wr.heap.size 5 1 (.slice a8 ([mo] ++ packL bl).length c8) ([mo] ++ packL bl).length (([mo] ++ packL bl).map B) from by rw [hml]; simpa [B] using o8)
          have hc8 := owns_caps o9.out
          have hsh := packL_more bl hG.out [mo]
          have hrd8 := hid (p_read_good a8 c8 ([mo] ++ packL bl) w8 (TT.out w8 (K4j.out.trans k8.out)) (ownsRow_src o9.out) hc8.1 hc8.2.2.1 (by rw [hml]; omega) (ens bl) hsh.1 hsh.2 hG.out (by rw [ens_len]; exact hG.out.size.2))
          rw [hml] at hrd8
          have hsz8 := hid (show sizeP (ens bl) ≠ ([mo] ++ packL bl).length from by rw [hml, ← packL_len]; omega)
          have K8 := hid (K4j.out.trans k8.out)
          obtain ⟨sa, sc, hsl, hs1, hs2, hs3, hs4⟩ := slice_from a4 (packL bl) c4 1 (by rw [packL_len]; unfold sizeP; omega) hcp.out.1 hcp.out.2.2.1
          have hsl' : ∀ W, (Instr.sliceAt 29 (.slice a4 pl c4) (some (.int .i64 1)) none none).run Tryd.prog W = .ok (.slice sa (pl - 1) sc) W := by rw [hplE]; exact hsl
          obtain ⟨dl, HDL⟩ : ∃ dl, Hid (dl = pl - 1) := ⟨_, hid rfl⟩
          rw [← HDL.out] at hsl'
          have hdl : ((packL bl).drop 1).length = dl := by rw [List.length_drop, HDL.out, hplE]
          have hs1' : dl ≤ sc := by rw [← hdl]; simpa using hs1
          have hpos : 13 ≤ pl := by rw [hplE, packL_len]; unfold sizeP; omega
          have hrd9 := hid (show ∀ v, Kept [] w8 v → Calls Tryd.prog 20 #[.slice sa dl sc] v fun e w' => (∃ v1 er, e = .returned (.tuple #[v1, .int .i64 er]) ∧ (er == 0) = false) ∧ Kept [] v w' from fun v hv => by
            have hS := hs4 v (OS.out v (K8.out.trans hv))
            rcases packL_drop bl hG.out with ⟨h1, h2⟩ | h1
            · have h3 := p_read_good sa sc ((packL bl).drop 1) v (TT.out v (K8.out.trans hv)) hS (by rw [hdl]; exact hs1') hs3 (by rw [hdl]; have := HDL.out; omega) (ens bl) h1 h2 hG.out (by rw [ens_len]; exact hG.out.size.2)
              rw [hdl] at h3
              refine h3.mono ?_
              rintro e w' ⟨k, (⟨h4, -⟩ | ⟨-, rfl⟩)⟩
              · rw [← packL_len, hdl] at h4; have := HDL.out; omega
              · exact ⟨⟨_, _, rfl, by decide⟩, k⟩
            · have h3 := p_read_bad sa sc ((packL bl).drop 1) v (TT.out v (K8.out.trans hv)) hS (by rw [hdl]; exact hs1') hs3 (by rw [hdl]; have := HDL.out; omega) (by rw [h1]; decide)
              rw [hdl, h1] at h3
              refine h3.mono ?_
              rintro e w' ⟨rfl, k⟩
              exact ⟨⟨_, _, rfl, by decide⟩, k⟩)
          clear o8 g8 f8 hsl hs1 hs2 hs3 hs4 hc8 hsh hml hdl hs1' hp2 hplE hpos
          go_wp2_with fail
          refine hrd8.out.mono ?_
          rintro e w9 ⟨k9, (⟨hbd, -⟩ | ⟨-, rfl⟩)⟩
          · exact absurd hbd hsz8.out
          have K89 := hid k9
          clear k9 hrd8
          go_wp2_with fail
          refine (hrd9.out w9 K89.out).mono ?_
          rintro e w10 ⟨⟨v1, er, rfl, hne⟩, k10⟩
          have hne2 : (er != 0) = true := by simpa [bne] using hne
          have K10 := hid (K4.out.trans (K8.out.trans (K89.out.trans k10)))
          clear k10 hrd9
          go_wp2
          go_ret
          exact ⟨by simp, K10.out⟩
end Go.Proofs.YtlapomkckcoppaaDoor
