/- ChunkShifts, of numbers that are right. -/
import Derived.Test.YtllcfffpagogbaaDoorV0
namespace Go.Proofs.YtllcfffpagogbaaDoor
open Go.RowKit Go.Lib Go.Maps

theorem rows_rest (ad : Addr) (m c n : Nat) (h : n ≤ m) (hmc : m ≤ c) : ∃ ad' : Addr, (∀ W, (Instr.sliceAt 33 (.slice (some ad) m c) (some (.int .i64 (n : Int))) none none).run Tryd.prog W = .ok (.slice (some ad') (m - n) (c - n)) W) ∧ (n < m → ad' = ad.add n) := by
  refine ⟨if c = n then ad else ad.add n, fun W => ?_, fun h => by rw [if_neg (by omega)]⟩
  rw [run_sliceAt_slice W 33 _ _ _ _ (by simp [Program.elem, Tryd.underlying33])]
  have hs : (sizeOf 25).run Tryd.prog W = .ok 1 W := by kernel_rfl
  rw [run_slice_l W 33 _ _ _ (by simp [Program.elem, Tryd.underlying33]) .i64 (n : Int) (by omega) (by omega)]
  have he : Tryd.prog.elem 33 = 25 := by simp [Program.elem, Tryd.underlying33]
  rw [he, hs]
  simp [Result.andThen, sliced]
  split <;> rfl
theorem rows_from (ad : Addr) (m c n : Nat) (kk : Int) (hk : kk = (n : Int)) (h : n ≤ m) (hmc : m ≤ c) : ∃ ad' : Addr, (∀ W, (Instr.sliceAt 33 (.slice (some ad) m c) (some (.int .i64 kk)) none none).run Tryd.prog W = .ok (.slice (some ad') (m - n) (c - n)) W) ∧ (n < m → ad' = ad.add n) := by
  subst hk; exact rows_rest ad m c n h hmc
theorem src_of_sl {w : World} {a : Option Addr} {c : Nat} {ys : List UInt8} (h : Sl w a c ys) : Src w (.slice a ys.length c) ys.length (ys.map B) := by
  cases a with
  | none => have h1 := h.nil rfl; have h2 := h.reads.1 rfl; subst h2; subst h1; exact .inl ⟨rfl, rfl, rfl⟩
  | some z => exact .inr ⟨z, c, rfl, fun j u hj => h.reads.2 z rfl j u hj⟩
theorem RV.rest {w : World} {ad ad' : Addr} {rows : List (List UInt8)} {n : Nat} (h : RV w (some ad) rows) (hn : n < rows.length → ad' = ad.add n) : RV w (some ad') (rows.drop n) := by
  by_cases hl : n < rows.length
  · rw [hn hl]; exact h.drop n
  · rw [List.drop_eq_nil_of_le (by omega)]
    exact fun i r hr => by simp at hr

set_option maxRecDepth 100000 in
set_option maxHeartbeats 8000000 in
theorem chunk_shifts_ok (P : Chunk.Par) (s : Int) (hok : ParOk P) (hs0 : 0 ≤ s) (hs1 : s < 18446744073709551616) (aa : Option Addr) (acap : Nat) (xa : List UInt8) (ba : Option Addr) (cap : Nat) (ys : List UInt8) (w : World) (hdb : DB w) (ha : Sl w aa acap xa) (hb : Sl w ba cap ys) (hla : ¬ 300 < xa.length) (hl : ¬ 300 < ys.length) :
    Calls Tryd.prog 4 #[parV P.min P.max P.bits P.width s, .slice aa xa.length acap, .slice ba ys.length cap] w fun e w' => e = .returned (.bool true) ∧ Kept [] w w' := by
  obtain ⟨w0, hw0⟩ : ∃ w0, w0 = w.alloc (.cells #[.int .i64 (P.min : Int), .int .i64 (P.max : Int), .int .i64 (P.bits : Int), .int .i64 (P.width : Int), .int .u64 s] 24) := ⟨_, rfl⟩
  have k0 : Kept [] w w0 := hw0 ▸ (Kept.refl _ _).alloc _
  have hal := hid (alive09 w0 (hdb.kept k0 (by simp)))
  have hp0 : ParAt w0 w.heap.size P.min P.max P.bits P.width s := by rw [hw0]; exact heap_alloc_at rfl
  have hmax := hb.max; have hle := hb.le; have hamax := ha.max; have hale := ha.le
  have hmm := @run_makeMap Tryd.prog
  obtain ⟨i0, hi0, hz0, hz1, hz2⟩ := info_parts qinfo8
  have hn := hid (fun W (hd : DB W) => new_ok P s hok hs0 hs1 W hd)
  obtain ⟨T, hT⟩ : ∃ T, T = num s := ⟨_, rfl⟩
  rw [← hT] at hn
  have hbnd := hid (fun i x hx => spl_bounds hok.min1 hok.minmax T ys.length ys (Nat.le_refl _) i x hx)
  have hmeet := hid (fun i k h => spl_meet (P := P) (T := T) xa ys i k h)
  obtain ⟨R, hR⟩ : ∃ R, R = spl P T ys := ⟨_, rfl⟩
  obtain ⟨Z, hZ⟩ : ∃ Z, Z = spl P T (xa ++ ys) := ⟨_, rfl⟩
  have hRn := hid (show ∀ x ∈ R, x ≠ [] from fun x hx => (Chunk.split_ne _ ys (Nat.le_refl _) x (by rw [hR] at hx; exact hx)).1)
  have hZn := hid (show ∀ x ∈ Z, x ≠ [] from fun x hx => (Chunk.split_ne _ (xa ++ ys) (Nat.le_refl _) x (by rw [hZ] at hx; exact hx)).1)
  have hRf : R.flatten = ys := by rw [hR]; exact Chunk.split_join _ ys (Nat.le_refl _)
  have hZf : Z.flatten = xa ++ ys := by rw [hZ]; exact Chunk.split_join _ (xa ++ ys) (Nat.le_refl _)
  have hRl : R.length ≤ ys.length := by rw [hR]; exact split_le P T ys
  have hZl : Z.length ≤ (xa ++ ys).length := by rw [hZ]; exact split_le P T (xa ++ ys)
  rw [List.length_append] at hZl
  obtain ⟨N, hN⟩ : ∃ N, N = R.length := ⟨_, rfl⟩
  obtain ⟨N2, hN2⟩ : ∃ N, N = Z.length := ⟨_, rfl⟩
  rw [← hN] at hRl; rw [← hN2] at hZl
  rw [← hR] at hbnd hmeet
  rw [← hZ] at hmeet
  have hgetR := hid (fun j (hj : j < N) => (⟨R[j]'(hN ▸ hj), List.getElem?_eq_getElem _⟩ : ∃ x, R[j]? = some x))
  have hgetZ := hid (fun j (hj : j < N2) => (⟨Z[j]'(hN2 ▸ hj), List.getElem?_eq_getElem _⟩ : ∃ x, Z[j]? = some x))
  have hposR := hid (fun k => pos_le hRf k)
  have hposZ := hid (fun k => pos_le hZf k)
  have hend := hid (show pos R N = ys.length ∧ pos Z N2 = xa.length + ys.length from ⟨by rw [hN]; exact pos_all hRf, by rw [hN2, pos_all hZf, List.length_append]⟩)
  have hne := hid (show ys ≠ [] → 1 ≤ N ∧ 1 ≤ N2 from fun h => by
    constructor
    · rw [hN]; refine List.length_pos_iff.2 fun e => h ?_
      rw [← hRf, e]; rfl
    · rw [hN2]; refine List.length_pos_iff.2 fun e => h ?_
      rw [e] at hZf
      have := congrArg List.length hZf
      simp at this
      exact List.eq_nil_of_length_eq_zero (by omega))
  have Ha := hid ha; have Hb := hid hb
  have hd := hid hdb
  have HR := hid hR; have HZ := hid hZ; have HN := hid hN; have HN2 := hid hN2; have HRf := hid hRf
  clear ha hb hdb hok hT hR hZ hN hN2 hRf hZf
  go_enter Tryd.func4, Tryd.ntmps4
  go_wp2_with fail
  rw [← hw0]
  refine hal.out.mono ?_
  rintro r w1 ⟨rfl, k1⟩
  have hp1 : ParAt w1 w.heap.size P.min P.max P.bits P.width s := k1.at hp0 (by simp)
  obtain ⟨c0, c1, c2, c3, c4, -, -, -⟩ := hp1.cells
  have K1 := hid (k0.trans k1)
  clear k1 hw0 hp0 k0 hal
  go_wp2_with fail
  refine (hn.out w1 (hd.out.kept K1.out (by simp))).mono ?_
  rintro r w2 ⟨c, g, rfl, k2, hch, -, -⟩
  have hp2 : ParAt w2 w.heap.size P.min P.max P.bits P.width s := k2.at hp1 (by simp)
  have K2 := hid (K1.out.trans k2)
  have Hch2 := hid hch
  clear k2 hch c0 c1 c2 c3 c4 hp1 hn
  go_wp2_with fail
  refine (split_any c P s g T ba cap ys w2 Hch2.out (Hb.out.kept K2.out (by simp)) (by omega)).mono ?_
  rintro r w3 ⟨v, xs, rfl, k3, hz, hrow, hps⟩
  obtain ⟨lv, lc, rfl, hlc1, hlc2, hlrv, hlv⟩ := rv_of hrow hps
  have hz1 : xs.map (·.ys) = R := by rw [HR.out]; exact hz.1
  have hxN : xs.length = N := by rw [HN.out, ← hz1]; simp
  rw [hz1] at hlrv
  rw [hxN] at hlc1 ⊢
  have K3 := hid (K2.out.trans k3)
  have Hch3 := hid (Hch2.out.kept k3 (by simp) (by simp) (by simp))
  have hp3 : ParAt w3 w.heap.size P.min P.max P.bits P.width s := k3.at hp2 (by simp)
  obtain ⟨c0, c1, -, -, -, -, -, -⟩ := hp3.cells
  have Hrv3 := hid hlrv; have Hlv := hid hlv
  clear k3 hrow hps hz hz1 hxN hlrv hlv hp2 Hch2
  go_wp2_with fail
  go_loopw [10, 11, 45] (fun _ _ i wr => ∃ j : Nat, j ≤ N ∧ i = .int .i64 (j : Int) ∧ w3 = wr) (fun _ _ i _ => N - (intOf i).toNat)
  case atStart => exact ⟨0, Nat.zero_le _, rfl, rfl⟩
  case round =>
    obtain ⟨j, hj, rfl, rfl⟩ := hrel
    by_cases hlt : j < N
    · obtain ⟨x, hx⟩ := hgetR.out j hlt
      obtain ⟨ad, fa, fc, hav, hcell, -⟩ := Hrv3.out j x hx
      obtain ⟨b1, b2⟩ := hbnd.out j x hx
      rw [← HN.out] at b2
      have b3 := List.length_pos_iff.2 (hRn.out x (List.mem_of_getElem? hx))
      subst hav
      obtain ⟨m, hm⟩ : ∃ m, m = x.length := ⟨_, rfl⟩
      rw [← hm] at hcell b1 b2 b3
      have b4 : ((m : Int) == 0) = false := by simp; omega
      clear hx hm
      by_cases hl1 : j + 1 < N
      · have b5 := b2 hl1
        clear b2
        go_wp2_with fail
        exact ⟨⟨j + 1, by omega, by go_num, trivial⟩, by simp [intOf]; omega⟩
      · clear b2
        go_wp2_with fail
        exact ⟨⟨j + 1, by omega, by go_num, trivial⟩, by simp [intOf]; omega⟩
    · obtain rfl : j = N := by omega
      have hjn := join20 lv lc R w3 Hrv3.out ⟨by rw [← HN.out]; omega, by rw [HRf.out]; omega⟩ ⟨by rw [← HN.out]; exact hlc1, hlc2⟩
      rw [← HN.out, HRf.out] at hjn
      have Hjn := hid hjn
      clear hjn c0 c1 hp3
      go_wp2_with fail
      refine Hjn.out.mono ?_
      rintro r w4 ⟨ja, jc, rfl, k4, hjs⟩
      have K4 := hid (K3.out.trans k4)
      have K34 := hid k4
      have hsm := hid (same19 ja ba jc cap ys w4 hjs (Hb.out.kept K4.out (by simp)))
      clear k4 hjs Hjn
      go_wp2_with fail
      refine hsm.out.mono ?_
      rintro r w4 ⟨rfl, rfl⟩
      have hsA := hid (src_of_sl (Ha.out.kept (K4.out.alloc (.cells #[] 5)) (by simp)))
      have hsB := hid (fun V (k : Kept [] w4 V) => src_of_sl (Hb.out.kept (K4.out.trans k) (by simp)))
      have hch4 := hid (Hch3.out.kept K34.out (by simp) (by simp) (by simp))
      have hrv4 := hid (Hrv3.out.kept K34.out)
      clear hsm
      go_wp2_with (at_builtin; refine halt ?_)
      refine Halt.mk ?_
      refine wpList_append_src _ rfl _ _ _ rfl w4.heap.size 5 i0 _ 1 Tryd.underlying25 hi0 hz0 hz1 hz2 rfl (.slice (some ⟨w4.heap.size, 0, none⟩) 0 0) 0 [] rfl (World.ownsRow_made w4 (base := w4.heap.size) (e := 5) (size := 1) #[] 0 (Nat.le_refl _) (by decide) (by simp)) (.slice aa xa.length acap) xa.length (xa.map B) rfl hsA.out (by simp) (qone xa) (by unfold maxLen; omega) (by omega) (by simp) ?_
      intro v5 w5 hown5 hgrow5 _ _
      have k45 : Kept [] w4 w5 := ((Kept.refl [] w4).alloc _).trans' (Kept.of_row hgrow5) (fun y hy hm => by simp [Value.ownBlock] at hm; omega)
      have hz45 := k45.size
      rw [Nat.zero_add, List.nil_append] at hown5
      obtain ⟨a5, c5, rfl⟩ := qslice hown5
      have hb5 := hsB.out w5 k45
      go_wp2_with (at_builtin; refine halt ?_)
      refine Halt.mk ?_
      refine wpList_append_src _ rfl _ _ _ rfl w4.heap.size 5 i0 _ 1 Tryd.underlying25 hi0 hz0 hz1 hz2 rfl (.slice a5 xa.length c5) xa.length (xa.map B) rfl hown5 (.slice ba ys.length cap) ys.length (ys.map B) rfl hb5 (by simp) (qone ys) (by unfold maxLen; omega) (by omega) (by omega) ?_
      intro v6 w6 hown6 hgrow6 _ _
      have K46 := hid (show Kept [] w4 w6 from k45.trans' (Kept.of_row hgrow6) (fun y hy hm => by simp at hm; have := (qown_ge hown5 y hm).1; omega))
      obtain ⟨a6, c6, rfl⟩ := qslice hown6
      have hown6' : w6.ownsRow w4.heap.size 5 1 (.slice a6 (xa ++ ys).length c6) (xa ++ ys).length ((xa ++ ys).map B) := by rw [List.length_append, List.map_append]; exact hown6
      have hsl6 := (sl_of_own hown6').1
      have hsp := hid (split_any c P s g T a6 c6 (xa ++ ys) w6 (hch4.out.kept K46.out (by simp) (by simp) (by simp)) hsl6 (by rw [List.length_append]; omega))
      rw [List.length_append] at hsp
      clear hown5 hown6 hown6' hsl6 hgrow5 hgrow6 k45 hb5 hsA hsB hz45 hch4
      go_wp2_with fail
      refine hsp.out.mono ?_
      rintro r w7 ⟨v, zs, rfl, k7, hz, hrow, hps⟩
      obtain ⟨mv, mc, rfl, hmc1, hmc2, hmrv, hmv⟩ := rv_of hrow hps
      have hz1 : zs.map (·.ys) = Z := by rw [HZ.out]; exact hz.1
      have hzN : zs.length = N2 := by rw [HN2.out, ← hz1]; simp
      rw [hz1] at hmrv
      rw [hzN] at hmc1 ⊢
      have K47 := hid (K46.out.trans k7)
      have K7 := hid (K4.out.trans K47.out)
      have Hrv7 := hid (hrv4.out.kept K47.out)
      have Hmv7 := hid hmrv; have Hmv := hid hmv
      clear k7 hrow hps hz hz1 hzN hmrv hmv hsp hrv4
      go_wp2_with fail
      have hst0 : MpI (w7.alloc (.map #[] 0)) w7.heap.size 0 R (.map []) := mpI_made w7 R
      have hkst : Kept [] w7 (w7.alloc (.map #[] 0)) := (Kept.refl _ _).alloc _
      go_loopw [14, 90] (fun at_ i wr => ∃ (j' pj : Nat) (D : DataW Unit), j' ≤ j ∧ i = .int .i64 (j' : Int) ∧ at_ = .int .i64 (pj : Int) ∧ pj ≤ 300 ∧ Hid (pj = pos R j') ∧ Hid (MpI wr w7.heap.size j' R D) ∧ Hid (Kept [] w7 wr)) (fun _ i _ => j - (intOf i).toNat)
      case atStart => exact ⟨0, 0, _, Nat.zero_le _, rfl, rfl, by omega, hid (pos_zero R).symm, hid hst0, hid hkst⟩
      case round =>
        clear hst0 hkst
        obtain ⟨i, pj, D, hi, rfl, rfl, hpj, hpe, hmp, hk⟩ := hrel
        by_cases hlt2 : i < j
        · obtain ⟨x, hx⟩ := hgetR.out i hlt2
          obtain ⟨ad, fa, fc, hav, hcell, -⟩ := (Hrv7.out.kept hk.out) i x hx
          subst hav
          have hps := pos_succ hx
          have hpl := hposR.out (i + 1)
          rw [hps, ← hpe.out] at hpl
          obtain ⟨m, hm⟩ : ∃ m, m = x.length := ⟨_, rfl⟩
          rw [← hm] at hcell hps hpl
          have hps2 := hid (show pj + m = pos R (i + 1) by rw [hps, hpe.out])
          have hpsc := hid (show (pj : Int) + (m : Int) = (pos R (i + 1) : Int) by rw [← hps2.out]; simp)
          clear hx hm hps
          go_wp2_with (at_mapUpdate; refine halt ?_)
          refine Halt.mk ?_
          refine wpList_mapUpdate_own _ rfl _ _ _ 43 rfl 3 3 mapLaw Tryd.underlying43 _ w7.heap.size i D rfl hmp.out.own (by unfold maxLen; omega) _ _ _ rfl rfl (keyOf_int_mk Tryd.underlying3 (WalkArith.wf_i64 (by omega))) _ [] (plainElem_int Tryd.underlying3 (WalkArith.wf_i64 (by omega))) ?_
          intro w8 hown8 hgrow8
          have hmp2 := hid (hmp.out.step hRn.out (by rw [← HN.out]; omega) (by rw [← hpsc.out]; exact hown8))
          have hk2 := hid (show Kept [] w7 w8 from hk.out.trans' (Kept.of_row hgrow8) (fun y hy hm => by simp at hm; omega))
          clear hown8 hgrow8
          go_wp2_with fail
          exact ⟨⟨i + 1, pj + m, _, by omega, by go_num, by go_num, by omega, hps2, hmp2, hk2⟩, by simp [intOf]; omega⟩
        · obtain rfl : i = j := by omega
          have hrvR := hid (Hrv7.out.kept hk.out)
          have hrvZ := hid (Hmv7.out.kept hk.out)
          have Hmp := hid hmp.out
          have KW := hid (K7.out.trans hk.out)
          have hneg : ¬ (9223372036854775807 : Int) < (xa.length : Int) := by omega
          clear hk hpe hpj hmp
          go_wp2_with fail
          go_loopw [14, 109] (fun at_ q wr' => ∃ (t pz : Nat), t ≤ N2 ∧ q = .int .i64 (t : Int) ∧ at_ = .int .i64 ((pz : Int) - (xa.length : Int)) ∧ pz ≤ 600 ∧ Hid (pz = pos Z t) ∧ Hid (∀ t' k, 1 ≤ t' → t' ≤ t → 1 ≤ k → k ≤ i → pos Z t' ≠ xa.length + pos R k) ∧ wr = wr') (fun _ q _ => N2 - (intOf q).toNat)
          case atStart => exact ⟨0, 0, Nat.zero_le _, rfl, by simp, by omega, hid (pos_zero Z).symm, hid (fun t' k h1 h2 => by omega), rfl⟩
          case round =>
            obtain ⟨t, pz, ht, rfl, rfl, hpz, hpe, hno, rfl⟩ := hrel
            by_cases hlt3 : t < N2
            · obtain ⟨x, hx⟩ := hgetZ.out t hlt3
              obtain ⟨ad, fa, fc, hav, hcell, -⟩ := hrvZ.out t x hx
              have hps := pos_succ hx
              have hpl := hposZ.out (t + 1)
              rw [hps, ← hpe.out, List.length_append] at hpl
              obtain ⟨m, hm⟩ : ∃ m, m = x.length := ⟨_, rfl⟩
              rw [← hm] at hcell hps hpl
              have hps2 : pz + m = pos Z (t + 1) := by rw [hps, hpe.out]
              subst hav
              clear hx hm hps
              obtain ⟨u, hu⟩ : ∃ u : Int, u = (pz : Int) - (xa.length : Int) + (m : Int) := ⟨_, rfl⟩
              by_cases hhit : ∃ k, 1 ≤ k ∧ k ≤ i ∧ pos Z (t + 1) = xa.length + pos R k
              · obtain ⟨k, hk1, hk2, hk3⟩ := hhit
                have hkey : u = (pos R k : Int) := by rw [hu]; omega
                have hhas := (Hmp.out.has u).2 ⟨k, hk1, hk2, hkey⟩
                have hatk := Hmp.out.at_ k hk1 hk2
                rw [← hkey] at hatk
                have hrest := hmeet.out (t + 1) k hk3
                have Hatk := hid hatk
                have Hhas := hid hhas
                have Hu := hid hu
                clear hhas hatk hkey hps2 hu
                have Hrest := hid hrest
                have Hk3 := hid hk3
                obtain ⟨r0, hr0⟩ := hgetR.out 0 (by omega)
                obtain ⟨ad2, _, _, hav2, -, -⟩ := hrvR.out 0 r0 hr0
                subst hav2
                have hlen1 : (R.drop k).length = i - k := by rw [List.length_drop, ← HN.out]
                have hlen2 : N2 - (t + 1) = i - k := by rw [← hlen1, ← hrest, List.length_drop, ← HN2.out]
                obtain ⟨ad1', hc1, hc1a⟩ := rows_from ad N2 mc (t + 1) ((t : Int) + 1) (by simp) (by omega) hmc1
                obtain ⟨ad2', hc2, hc2a⟩ := rows_rest ad2 i lc k (by omega) hlc1
                rw [hlen2] at hc1
                have hS := hid (fun V (kk : Kept [] wr V) => (by
                  have h1 : RV V (some ad1') (R.drop k) := by rw [← Hrest.out]; exact (hrvZ.out.kept kk).rest (fun h => hc1a (by rw [HN2.out]; exact h))
                  have h2 : RV V (some ad2') (R.drop k) := (hrvR.out.kept kk).rest (fun h => hc2a (by rw [HN.out]; exact h))
                  have h := same16 (some ad1') (some ad2') (mc - (t + 1)) (lc - k) (R.drop k) V h1 h2 (by rw [hlen1]; omega) (by rw [hlen1]; omega) (by rw [hlen1]; omega)
                  rw [hlen1] at h
                  exact h.mono fun e w' h => ⟨h.1, kk.trans h.2⟩ : Calls Tryd.prog 14 #[.slice (some ad1') (i - k) (mc - (t + 1)), .slice (some ad2') (i - k) (lc - k)] V (fun e w' => e = .returned (.bool true) ∧ Kept [] wr w')))
                have kA := (Kept.refl [] wr).drew
                clear hrest hk3 hr0 hlen1 hlen2 hc1a hc2a hno
                go_wp2_with (at_lookup; refine halt ?_)
                refine Halt.mk ?_
                refine wpList_lookup_own_ok_int wr rfl _ _ 43 rfl 3 3 .i64 mapLaw Tryd.underlying43 Tryd.underlying3 (zero_int _) w7.heap.size i D rfl Hmp.out.own _ _ rfl (keyOf_int_mk Tryd.underlying3 (WalkArith.wf_i64 (by omega))) ?_
                intro cc hat hwc
                obtain rfl : cc = (k : Int) := by
                  rw [← Hu.out, Hatk.out] at hat
                  injection hat with h
                  injection h with _ h
                  exact h.symm
                rw [show Maps.has D (.int .i64 ((pz : Int) - (xa.length : Int) + (m : Int))) = true by rw [← Hu.out]; exact Hhas.out]
                have hwt : IntKind.i64.wrap ((t : Int) + 1) = (t : Int) + 1 := by rw [IntKind.wrap_i64]; omega
                clear hat hwc
                go_wp2_with fail
                go_region_held3 (fun V => Kept [] wr V) (first | with_reducible exact q1 | with_reducible exact kA)
                  (first
                    | (go_at_call 14; with_reducible (refine Calls.mono (hS.out wr.drew kA) ?_); rintro e v1 ⟨rfl, q1⟩))
                go_wp2
                go_ret
                exact ⟨rfl, KW.out.trans q1⟩
              · have hhas : Maps.has D (.int .i64 u) = false := by
                  cases hh : Maps.has D (.int .i64 u) with
                  | false => rfl
                  | true =>
                    obtain ⟨k, h1, h2, h3⟩ := (Hmp.out.has u).1 hh
                    exact absurd ⟨k, h1, h2, by omega⟩ hhit
                have hno2 := hid (show ∀ t' k, 1 ≤ t' → t' ≤ t + 1 → 1 ≤ k → k ≤ i → pos Z t' ≠ xa.length + pos R k from fun t' k h1 h2 h3 h4 => by
                  by_cases he : t' = t + 1
                  · subst he; exact fun h => hhit ⟨k, h3, h4, h⟩
                  · exact hno.out t' k h1 (by omega) h3 h4)
                have hps3 := hid hps2
                have Hhas := hid hhas
                have Hu := hid hu
                clear hhas hhit hps2 hno hu
                go_wp2_with (at_lookup; refine halt ?_)
                refine Halt.mk ?_
                refine wpList_lookup_own_ok_int wr rfl _ _ 43 rfl 3 3 .i64 mapLaw Tryd.underlying43 Tryd.underlying3 (zero_int _) w7.heap.size i D rfl Hmp.out.own _ _ rfl (keyOf_int_mk Tryd.underlying3 (WalkArith.wf_i64 (by omega))) ?_
                intro cc hat hwc
                rw [show Maps.has D (.int .i64 ((pz : Int) - (xa.length : Int) + (m : Int))) = false by rw [← Hu.out]; exact Hhas.out]
                clear hat hwc
                go_wp2_with fail
                exact ⟨⟨t + 1, pz + m, by omega, by go_num, by congr 1; omega, by omega, hps3, hno2, trivial⟩, by simp [intOf]; omega⟩
            · obtain rfl : t = N2 := by omega
              have hy0 : ys.length = 0 := by
                by_cases he : ys = []
                · rw [he]; rfl
                · obtain ⟨h1, h2⟩ := hne.out he
                  obtain ⟨h3, h4⟩ := hend.out
                  exact absurd (by rw [h3, h4]) (hno.out t i h2 (Nat.le_refl _) h1 (Nat.le_refl _))
              have hyb : ((ys.length : Int) == 0) = true := by simp [hy0]
              clear hno hy0
              go_wp2
              go_ret
              exact ⟨rfl, KW.out⟩
end Go.Proofs.YtllcfffpagogbaaDoor
