import Derived.Test.YtdojpioclojalaaDoorN24
import Derived.Test.YtdojpioclojalaaDoorMS

/- TreeBack. -/
namespace Go.Proofs.YtdojpioclojalaaDoor
open Go.RowKit Go.Lib

theorem bit_at24 (at0 : Int) (n : Nat) (hn : 5 ≤ n) : ∃ p : Nat, (bits .and .i64 at0 16777215).tmod (8 * ((n : Int) - 4) + 1) = (p : Int) ∧ p ≤ 8 * (n - 4) := by
  rw [i64_and24]
  have h0 : 0 ≤ at0 % 16777216 := by omega
  have e : (at0 % 16777216).tmod (8 * ((n : Int) - 4) + 1) = (at0 % 16777216) % (8 * ((n : Int) - 4) + 1) := Int.tmod_eq_emod_of_nonneg h0
  have h1 := Int.emod_nonneg (at0 % 16777216) (show 8 * ((n : Int) - 4) + 1 ≠ 0 by omega)
  have h2 := Int.emod_lt_of_pos (at0 % 16777216) (show 0 < 8 * ((n : Int) - 4) + 1 by omega)
  exact ⟨((at0 % 16777216) % (8 * ((n : Int) - 4) + 1)).toNat, by omega, by omega⟩
theorem nodes_nd_ok {w : World} {a : Option Addr} {c : Nat} {ns : List NodeR} (h : Nodes w a c ns) : ∀ n ∈ ns.map NodeR.nd, n.ok := by
  intro n hn
  obtain ⟨m, hm, rfl⟩ := List.mem_map.1 hn
  obtain ⟨h1, h2, h3, h4⟩ := h.ok m hm
  exact ⟨h1, h2.h32, h3, h4⟩
theorem own_addr {W : World} {base n : Nat} {e : TypeId} {a : Option Addr} {c : Nat} {xs : List Value} (h : W.ownsRow base e 1 (.slice a n c) n xs) (h0 : n ≠ 0) : ∃ g, a = some ⟨g, 0, none⟩ ∧ base ≤ g ∧ n ≤ c ∧ c ≤ 9223372036854775807 := by
  rcases h.2 with ⟨hv, h0'⟩ | ⟨g, cap, cur, hv, hg, _, h1, h2, _⟩
  · omega
  · simp at hv; obtain ⟨rfl, rfl⟩ := hv; exact ⟨g, rfl, hg, h1, by unfold maxLen at h2; omega⟩
theorem TDecoded.any_ {X : List UInt8} {w w' : World} {e : Ending} (h : TDecoded X w e w') : ∃ sl er, e = .returned (.tuple #[sl, .int .i64 er]) ∧ Kept [] w w' ∧ (unsealErr 84 X = 36 → er = 36) := by
  obtain ⟨k, (⟨_, _, rfl⟩ | ⟨h1, _, rfl⟩ | ⟨ms, pa, pc, h1, rfl, _⟩)⟩ := h
  · exact ⟨_, _, rfl, k, fun h => h⟩
  · exact ⟨_, _, rfl, k, fun h => by rw [h1] at h; cases h⟩
  · refine ⟨_, _, rfl, k, fun h => ?_⟩
    unfold decL at h1
    rw [if_neg (by rw [h]; decide)] at h1
    cases h1
theorem encL_le {L : List Nd} (ho : ∀ n ∈ L, n.ok) (he : errL L = 0) : (sealed 84 (encL L)).length ≤ 100000000 ∧ 5 ≤ (sealed 84 (encL L)).length := by
  obtain ⟨h1, h2, _⟩ := (errL_zero L).1 he
  have h3 := encs_len L (fun n hn => Nd.enc_len (h2 n hn) (ho n hn).sub (ho n hn).parts)
  rw [sealed_len]
  have h4 : (encL L).length = 4 + (L.map Nd.enc).flatten.length := by unfold encL; rw [List.length_append, numB_len]
  omega

set_option maxRecDepth 100000 in
set_option maxHeartbeats 2000000 in
theorem tree_back (a b : Option Addr) (c d : Nat) (ns ms : List NodeR) (ba : Option Addr) (bc : Nat) (bs : List UInt8) (at0 : Int) (turn : Nat) (w : World) (h : ∀ wr, Kept [] w wr → Nodes wr a c ns) (h' : ∀ wr, Kept [] w wr → Nodes wr b d ms)
    (hs : SrcB w (.slice ba bs.length bc) bs) (hbm : bs.length ≤ 9223372036854775807) (ht : Tab w) (htl : turn < 4294967296) (hat : -9223372036854775808 ≤ at0 ∧ at0 ≤ 9223372036854775807) :
    Calls Tryd.prog 3 #[.slice a ns.length c, .slice b ms.length d, .slice ba bs.length bc, .int .i64 at0, .int .u32 (turn : Int)] w fun e w' => e = .returned (.bool true) ∧ Kept [] w w' := by
  have hal := hid (alive10 w ht)
  have H := hid h; have HM := hid h'; have HS := hid hs; have HT := hid ht
  have hoN := hid (nodes_nd_ok (h w (Kept.refl _ _))); have hoM := hid (nodes_nd_ok (h' w (Kept.refl _ _)))
  have HAT := hid hat
  clear h h' hs ht hat
  go_enter Tryd.func3, Tryd.ntmps3
  go_wp2_with fail
  refine hal.out.mono ?_
  rintro e w1 ⟨rfl, k1⟩
  have K1 := hid k1
  have hfw := hid (few10_any a c ns w1 (fun wr hk => H.out wr (k1.trans hk)))
  clear k1 hal
  go_wp2_with fail
  refine hfw.out.mono ?_
  rintro e w2 ⟨rfl, k2⟩
  have K2 := hid (K1.out.trans k2)
  clear k2 hfw
  by_cases hF : Few ns
  rotate_left
  · rw [decide_eq_false hF]
    clear hF
    go_wp2
    go_ret
    exact ⟨rfl, K2.out⟩
  rw [decide_eq_true hF]
  have hfm := hid (few10_any b d ms w2 (fun wr hk => HM.out wr (K2.out.trans hk)))
  have hsn := hid (show ns.length ≤ 600 by have h2 := hF.2; omega)
  clear hF
  go_wp2_with fail
  refine hfm.out.mono ?_
  rintro e w3 ⟨rfl, k3⟩
  have K3 := hid (K2.out.trans k3)
  clear k3 hfm
  by_cases hF : Few ms
  rotate_left
  · rw [decide_eq_false hF]
    clear hF
    go_wp2
    go_ret
    exact ⟨rfl, K3.out⟩
  rw [decide_eq_true hF]
  have hsm := hid (show ms.length ≤ 600 by have h2 := hF.2; omega)
  clear hF
  by_cases hbl : 600 < bs.length
  · have hbl2 : (600 : Int) < (bs.length : Int) := by omega
    go_wp2
    go_ret
    exact ⟨rfl, K3.out⟩
  have hbl2 : ¬ (600 : Int) < (bs.length : Int) := by omega
  have hbl3 : decide ((600 : Int) < (bs.length : Int)) = false := decide_eq_false hbl2
  have hE1 := hid (t_encode a c ns w3 (fun wr hk => H.out wr (K3.out.trans hk)) (HT.out.kept K3.out (by simp)))
  obtain ⟨L, hL⟩ : ∃ L, L = ns.map NodeR.nd := ⟨_, rfl⟩
  obtain ⟨M, hM⟩ : ∃ M, M = ms.map NodeR.nd := ⟨_, rfl⟩
  have HL := hid hL; have HMM := hid hM
  rw [← hL] at hE1 hoN
  rw [← hM] at hoM
  clear hL hM
  go_wp2_with fail
  refine hE1.out.mono ?_
  rintro e w4 ⟨k4, hx⟩
  have K4 := hid (K3.out.trans k4)
  have hE2 := hid (t_encode b d ms w4 (fun wr hk => HM.out wr (K4.out.trans hk)) (HT.out.kept K4.out (by simp)))
  rw [← HMM.out] at hE2
  have k4' := hid k4
  clear k4 hE1
  have hxx : ∃ xv : Value, ∃ X : List UInt8, ∃ xa xc, xv = .slice xa X.length xc ∧ e = .returned (.tuple #[xv, .int .i64 (errL L)]) ∧ (errL L = 0 → X = sealed 84 (encL L) ∧ w4.ownsRow w3.heap.size 5 1 xv X.length (X.map B)) := by
    rcases hx with ⟨h1, rfl⟩ | ⟨h1, xa, xc, rfl, ho⟩
    · exact ⟨_, [], none, 0, rfl, rfl, fun h => absurd h h1⟩
    · exact ⟨_, sealed 84 (encL L), xa, xc, rfl, by rw [h1], fun _ => ⟨rfl, ho⟩⟩
  clear hx
  obtain ⟨xv, X, xa, xc, rfl, rfl, hX⟩ := hxx
  have HX := hid hX
  clear hX
  go_wp2_with fail
  refine hE2.out.mono ?_
  rintro e w5 ⟨k5, hx⟩
  have K5 := hid (K4.out.trans k5)
  have hyy : ∃ yv : Value, ∃ Y : List UInt8, ∃ ya yc, yv = .slice ya Y.length yc ∧ e = .returned (.tuple #[yv, .int .i64 (errL M)]) ∧ (errL M = 0 → Y = sealed 84 (encL M) ∧ w5.ownsRow w4.heap.size 5 1 yv Y.length (Y.map B)) := by
    rcases hx with ⟨h1, rfl⟩ | ⟨h1, xa, xc, rfl, ho⟩
    · exact ⟨_, [], none, 0, rfl, rfl, fun h => absurd h h1⟩
    · exact ⟨_, sealed 84 (encL M), xa, xc, rfl, by rw [h1], fun _ => ⟨rfl, ho⟩⟩
  clear hx
  obtain ⟨yv, Y, ya, yc, rfl, rfl, hY⟩ := hyy
  have HY := hid hY
  have HX5 := hid (fun h0 => show X = sealed 84 (encL L) ∧ w5.ownsRow w3.heap.size 5 1 (.slice xa X.length xc) X.length (X.map B) from ⟨(HX.out h0).1, k5.owns (HX.out h0).2 (by simp)⟩)
  clear hY k5 hE2
  obtain ⟨eL, heL⟩ : ∃ eL, eL = errL L := ⟨_, rfl⟩
  obtain ⟨eM, heM⟩ : ∃ eM, eM = errL M := ⟨_, rfl⟩
  rw [← heL] at HX5 ⊢
  rw [← heM] at HY ⊢
  have HEL := hid heL; have HEM := hid heM
  clear heL heM
  by_cases h0 : eL = 0
  rotate_left
  · have hne : (eL == 0) = false := by simpa using h0
    clear h0
    have hD3 := hid (t_decode (.slice ba bs.length bc) bs w5 (HS.out.kept K5.out (by simp)) (HT.out.kept K5.out (by simp)) (by omega))
    go_wp2_with fail
    refine hD3.out.mono ?_
    rintro e wx ⟨kx, (⟨g1, _, rfl⟩ | ⟨_, _, rfl⟩ | ⟨os, oa, oc, g2, rfl, gG⟩)⟩
    · have hne : (unsealErr 84 bs != 0) = true := by simpa using g1
      have Kx := hid (K5.out.trans kx)
      clear g1 kx hD3
      go_wp2
      go_ret
      exact ⟨rfl, Kx.out⟩
    · have Kx := hid (K5.out.trans kx)
      clear kx hD3
      go_wp2
      go_ret
      exact ⟨rfl, Kx.out⟩
    · have Kx := hid (K5.out.trans kx)
      obtain ⟨q1, q2, q3⟩ := decL_get g2
      have hgn := hid (fun (wv : World) (hv : Kept [] wx wv) => (gG.kept hv (by simp)).nodes_ (fun n hn => q2 _ (List.mem_map_of_mem hn)))
      have hE3 := hid (t_encode oa oc os wx hgn.out (HT.out.kept Kx.out (by simp)))
      have Q1 := hid q1; have Q3 := hid q3
      clear kx gG g2 q1 q2 q3 hD3
      go_wp2_with fail
      refine hE3.out.mono ?_
      rintro e wy ⟨ky, (⟨g1, _⟩ | ⟨_, za, zc, rfl, zo⟩)⟩
      · exact absurd Q1.out g1
      rw [Q3.out] at zo ⊢
      have Ky := hid (Kx.out.trans ky)
      have hC3 := hid (t_check oa oc os wy (fun wv hv => hgn.out wv (ky.trans hv)))
      rw [Q1.out] at hC3
      have hzo := hid (ownsRow_src zo)
      clear ky zo hE3
      go_wp2_with fail
      refine hC3.out.mono ?_
      rintro e wz ⟨rfl, kz⟩
      have Kz := hid (Ky.out.trans kz)
      have hS3 := hid (same_src za ba zc bc bs wz (hzo.out.kept kz (by simp)) (HS.out.kept Kz.out (by simp)))
      clear kz hC3
      go_wp2_with fail
      refine hS3.out.mono ?_
      rintro e wu ⟨rfl, rfl⟩
      go_wp2
      go_ret
      exact ⟨rfl, Kz.out⟩
  subst h0
  obtain ⟨hXe, hXo⟩ := HX5.out rfl
  have HXE := hid hXe; have HXO := hid hXo
  have hlen := hid (show X.length ≤ 100000000 ∧ 5 ≤ X.length by rw [hXe]; exact encL_le hoN.out HEL.out.symm)
  have hdl := hid (show decL X = some L by rw [hXe]; exact decL_put L hoN.out HEL.out.symm)
  have hD1 := hid (t_decode (.slice xa X.length xc) X w5 (ownsRow_src hXo) (HT.out.kept K5.out (by simp)) hlen.out.1)
  clear hXe hXo
  go_wp2_with fail
  refine hD1.out.mono ?_
  rintro e w6 ⟨k6, (⟨_, g2, _⟩ | ⟨_, g2, _⟩ | ⟨os, oa, oc, g2, rfl, gG⟩)⟩
  · rw [hdl.out] at g2; cases g2
  · rw [hdl.out] at g2; cases g2
  have hos := hid (show os.map NodeR.nd = L from by rw [hdl.out] at g2; exact (Option.some.inj g2).symm)
  have hol := hid (show os.length ≤ 1000000 from by have h1 := congrArg List.length hos.out; have h2 := congrArg List.length HL.out; have := hsn.out; simp at h1 h2; omega)
  have K6 := hid (K5.out.trans k6)
  have k56 := hid k6
  have hgn := hid (fun (wv : World) (hv : Kept [] w6 wv) => (gG.kept hv (by simp)).nodes_ (fun n hn => hoN.out _ (by rw [← hos.out]; exact List.mem_map_of_mem hn)))
  have hA1 := hid (t_as2 oa oc os w6 hgn.out hol.out)
  clear k6 gG g2 hD1
  go_upto_region 9 with fail
  go_cut [80] (fun s wx => s = .bool false ∧ Hid (Kept [] w6 wx))
  case first =>
    go_wp2_with fail
    refine hA1.out.mono ?_
    rintro e w7 ⟨a7, c7, rfl, k7, hR7⟩
    have hA2 := hid (t_as2 a c ns w7 (fun wv hv => H.out wv (K6.out.trans (k7.trans hv))) (by have := hsn.out; omega))
    have k67 := hid k7; have HR7 := hid hR7
    clear k7 hR7 hA1
    go_wp2_with fail
    refine hA2.out.mono ?_
    rintro e w8 ⟨a8, c8, rfl, k8, hR8⟩
    have hS1 := hid (r_same a7 a8 c7 c8 os ns w8 (fun wv hv => HR7.out wv (k8.trans hv)) hR8)
    rw [decide_eq_true (show os.map NodeR.nd = ns.map NodeR.nd from hos.out.trans HL.out)] at hS1
    have k68 := hid (k67.out.trans k8)
    clear k8 hR8 hA2
    go_wp2_with fail
    refine hS1.out.mono ?_
    rintro e w9 ⟨rfl, k9⟩
    have k69 := hid (k68.out.trans k9)
    clear k9 hS1
    by_cases hM0 : eM = 0
    · subst hM0
      obtain ⟨hYe, hYo⟩ := HY.out rfl
      have k59 := hid (k56.out.trans k69.out)
      have hS2 := hid (same_dec xa ya xc yc X Y w9 ((ownsRow_src HXO.out).kept k59.out (by simp)) ((ownsRow_src hYo).kept k59.out (by simp)))
      have hq1 := hid (show decide (X = Y) = decide (L = M) from by
        rw [decide_eq_decide, HXE.out, hYe]; exact encL_inj hoN.out hoM.out HEL.out.symm HEM.out.symm)
      rw [hq1.out] at hS2
      have hA3 := hid (fun (wv : World) (hv : Kept [] w9 wv) => t_as2 a c ns wv (fun wu hu => H.out wu (K6.out.trans (k69.out.trans (hv.trans hu)))) (by have := hsn.out; omega))
      have hA4 := hid (fun (wv : World) (hv : Kept [] w9 wv) => t_as2 b d ms wv (fun wu hu => HM.out wu (K6.out.trans (k69.out.trans (hv.trans hu)))) (by have := hsm.out; omega))
      clear hYe hYo
      go_wp2_with fail
      refine hS2.out.mono ?_
      rintro e w10 ⟨rfl, rfl⟩
      go_wp2_with fail
      refine (hA3.out w9 (Kept.refl _ _)).mono ?_
      rintro e w11 ⟨a11, c11, rfl, k11, hR11⟩
      have HR11 := hid hR11; have K11 := hid k11
      clear hR11 k11
      go_wp2_with fail
      refine (hA4.out w11 K11.out).mono ?_
      rintro e w12 ⟨a12, c12, rfl, k12, hR12⟩
      have hS4 := hid (r_same a11 a12 c11 c12 ns ms w12 (fun wv hv => HR11.out wv (k12.trans hv)) hR12)
      rw [← HL.out, ← HMM.out] at hS4
      have k12' := hid (k69.out.trans (K11.out.trans k12))
      clear hR12 k12
      obtain ⟨q, hq⟩ : ∃ q, q = decide (L = M) := ⟨_, rfl⟩
      rw [← hq] at hS4 ⊢
      clear hq hS2 hq1 hA3 hA4
      go_wp2_with fail
      refine hS4.out.mono ?_
      rintro e w13 ⟨rfl, k13⟩
      have k613 := hid (k12'.out.trans k13)
      clear k13 hS4
      cases q
      all_goals
        go_wp2
        go_meet
        case rel => exact ⟨rfl, k613⟩
    · have hMf : (eM == 0) = false := by simpa using hM0
      clear hM0
      go_wp2
      go_meet
      case rel => exact ⟨rfl, k69⟩
  case rest =>
    obtain ⟨rfl, hkc⟩ := hcut
    have Kc := hid (K6.out.trans hkc.out)
    have k5c := hid (k56.out.trans hkc.out)
    obtain ⟨n, hn⟩ : ∃ n, n = X.length := ⟨_, rfl⟩
    have hno := hid (show wc.ownsRow w3.heap.size 5 1 (.slice xa n xc) n (X.map B) by rw [hn]; exact k5c.out.owns HXO.out (by simp))
    have hn5 : 5 ≤ n := by rw [hn]; exact hlen.out.2
    have hn8 : n ≤ 100000000 := by rw [hn]; exact hlen.out.1
    have hxl := hid (show X.length = n from hn.symm)
    rw [← hn]
    clear hn
    obtain ⟨g, rfl, hgb, hcap, hcm⟩ := own_addr hno.out (by omega)
    have hgw := hid (show w.heap.size ≤ g from Nat.le_trans K3.out.size hgb)
    clear HX5
    go_wp2_with fail
    obtain ⟨p, hp, hpl⟩ := bit_at24 at0 n hn5
    rw [hp]
    clear hp
    have hat0 := hid (show Kept [g] wc wc ∧ wc.ownsRow w3.heap.size 5 1 (.slice (some ⟨g, 0, none⟩) n xc) n ((Crc.flips X p turn 0).map B) from ⟨Kept.refl _ _, hno.out⟩)
    go_loopw [89] (fun s wr => ∃ i : Nat, i ≤ 32 ∧ s = .int .i64 i ∧ Hid (Kept [g] wc wr ∧ wr.ownsRow w3.heap.size 5 1 (.slice (some ⟨g, 0, none⟩) n xc) n ((Crc.flips X p turn i).map B))) (fun s _ => 32 - (intOf s).toNat)
    case atStart => exact ⟨0, Nat.zero_le _, rfl, hat0⟩
    case round =>
      obtain ⟨i, hi, rfl, hr⟩ := hrel
      by_cases hlt : i < 32
      · by_cases hb : turn.testBit i = true
        · have hb1 : (bits .and .u32 ((turn : Int) / 2 ^ i) 1 == 1) = true := by rw [bit_u32 turn i htl, if_pos hb]; rfl
          obtain ⟨q, hq⟩ : ∃ q, q = p + i := ⟨_, rfl⟩
          have hqlt : q / 8 < n := by omega
          have hfll := Crc.flips_len X p turn i
          rw [hxl.out] at hfll
          obtain ⟨sb, hsb⟩ : ∃ sb, (Crc.flips X p turn i)[q / 8]? = some sb := ⟨(Crc.flips X p turn i)[q / 8]'(by rw [hfll]; exact hqlt), by simp⟩
          have gl := hr.out.2.cellAt (q / 8) (by omega)
          rw [List.getElem?_map, hsb] at gl
          have gl' : wr.cell? ⟨g, q / 8, none⟩ = some (.int .u8 (sb.toNat : Int)) := gl
          have gf : wr.frozen? ⟨g, q / 8, none⟩ = false := hr.out.2.frozenAt _
          have Hsb := hid hsb; have Hq := hid hq; have Hfll := hid hfll
          have Hb := hid hb
          clear hb gl hsb hfll
          have hpi : (p : Int) + (i : Int) = (q : Int) := by omega
          have hql : q < 1000000000 := by omega
          obtain ⟨k, hk⟩ : ∃ k, k = q / 8 := ⟨_, rfl⟩
          obtain ⟨r, hr8⟩ : ∃ r, r = q % 8 := ⟨_, rfl⟩
          obtain ⟨m, hm2, hsh⟩ := shl_u8 r (by omega)
          rw [← hk] at hqlt gl' gf
          have f1 : (0 : Int) ≤ (k : Int) := by omega
          have f2 : (k : Int) < (n : Int) := by omega
          have f3 : k < n := hqlt
          have e6 : 0 ≤ (p : Int) + (i : Int) := by omega
          have d2 : ((p : Int) + (i : Int)).tdiv 8 = (k : Int) := by rw [Int.tdiv_eq_ediv_of_nonneg e6]; omega
          have e3 : ((p : Int) + (i : Int)).tmod 8 = (r : Int) := by rw [Int.tmod_eq_emod_of_nonneg e6]; omega
          have e2 : IntKind.i64.wrap (((p : Int) + (i : Int)).tdiv 8) = (k : Int) := by rw [d2]; exact IntWalk.i64_in _ (by omega)
          have e4 : IntKind.i64.wrap (((p : Int) + (i : Int)).tmod 8) = (r : Int) := by rw [e3]; exact IntWalk.i64_in _ (by omega)
          clear d2
          have e1 : IntKind.i64.wrap ((p : Int) + (i : Int)) = (p : Int) + (i : Int) := IntWalk.i64_in _ (by omega)
          have gld : wr.drew.cell? ⟨g, k, none⟩ = some (.int .u8 (sb.toNat : Int)) := gl'
          have Hk := hid hk; have Hr8 := hid hr8; have Hm2 := hid hm2
          clear hk hr8 hm2 hqlt hpi hql
          go_wp2_with fail
          refine wp_region_still_tail 14 (by kernel_rfl) (by kernel_rfl) ?_
          simp only [List.take_succ_cons, List.take_zero, List.drop_succ_cons, List.drop_zero]
          change wpStill _ _ wr.drew _ _ _
          repeat still_step
          refine wpStill_nil ?_
          clear e1 e2 e3 e4 hsh
          have hfin := hid (fun (V : Value) (hV : V = B (sb ^^^ m)) => hid (show Kept [g] wc (wr.drew.setCell ⟨g, k, none⟩ V) ∧ (wr.drew.setCell ⟨g, k, none⟩ V).ownsRow w3.heap.size 5 1 (.slice (some ⟨g, 0, none⟩) n xc) n ((Crc.flips X p turn (i + 1)).map B) from by
            subst hV
            refine ⟨hr.out.1.drew.setCell (p := ⟨g, k, none⟩) (fun _ => by simp) _, ?_⟩
            have hset := flip_set (Crc.flips X p turn i) q sb Hsb.out
            rw [← Hk.out, ← Hr8.out, ← Hm2.out] at hset
            have hfs : Crc.flips X p turn (i + 1) = Crc.flip (Crc.flips X p turn i) q := by
              show (if turn.testBit i then Crc.flip (Crc.flips X p turn i) (p + i) else Crc.flips X p turn i) = _
              rw [if_pos Hb.out, Hq.out]
            rw [hfs, ← hset]
            exact own_set (w := wr.drew) hr.out.2 k (sb ^^^ m)))
          have hxv := hid (xor_u8 sb m)
          have hp8 := hid (show (2 : Int) ^ min r 8 % 256 = (m.toNat : Int) by rw [Hm2.out]; exact pow8 r (by have := Hr8.out; omega))
          go_wp2
          go_roundw
          case rel => exact ⟨i + 1, by omega, by go_num, hfin.out _ (by rw [hp8.out, hxv.out]; rfl)⟩
          case measure => simp [intOf]; omega
        · have hb1 : (bits .and .u32 ((turn : Int) / 2 ^ i) 1 == 1) = false := by rw [bit_u32 turn i htl, if_neg hb]; rfl
          have hfs : Crc.flips X p turn (i + 1) = Crc.flips X p turn i := by
            show (if turn.testBit i then Crc.flip (Crc.flips X p turn i) (p + i) else Crc.flips X p turn i) = _
            rw [if_neg hb]
          have hfin := hid (show Hid (Kept [g] wc wr ∧ wr.ownsRow w3.heap.size 5 1 (.slice (some ⟨g, 0, none⟩) n xc) n ((Crc.flips X p turn (i + 1)).map B)) by rw [hfs]; exact hr)
          clear hb hfs
          go_wp2
          go_roundw
          case rel => exact ⟨i + 1, by omega, by go_num, hfin.out⟩
          case measure => simp [intOf]; omega
      · have h32 : i = 32 := by omega
        subst h32
        obtain ⟨hkg, hor⟩ := hr.out
        have hk3 := hid (show Kept [] w wr from Kc.out.trans' hkg (fun x hx hm => by simp at hm; have := hgw.out; omega))
        have hfl := Crc.flips_len X p turn 32
        rw [hxl.out] at hfl
        have hbad := hid (show turn ≠ 0 → unsealErr 84 (Crc.flips X p turn 32) = 36 from fun h0 => (unseal_bad 84 _ (by rw [hfl]; omega) (Crc.burst X p turn (by omega) h0 (by rw [hxl.out]; omega) (by rw [HXE.out]; exact sealed_good 84 _))).1)
        obtain ⟨Z, hZ⟩ : ∃ Z, Z = Crc.flips X p turn 32 := ⟨_, rfl⟩
        rw [← hZ] at hfl hor hbad
        have hD2 := hid (t_decode (.slice (some ⟨g, 0, none⟩) n xc) Z wr (ownsRow_src (by rw [hfl]; exact hor)) (HT.out.kept hk3.out (by simp)) (by omega))
        clear hkg hor hr hZ hfl
        go_wp2_with fail
        refine hD2.out.mono ?_
        rintro e w20 hdd
        obtain ⟨sl, er, rfl, k20, her⟩ := hdd.any_
        have K20 := hid (hk3.out.trans k20)
        have hsafe := hid (show turn ≠ 0 → er = 36 from fun h0 => her (hbad.out h0))
        clear hdd k20 her hbad hD2
        by_cases ht0 : turn = 0
        · have htf : ((turn : Int) != 0) = false := by simp [ht0]
          clear ht0 hsafe
          have hD3 := hid (t_decode (.slice ba bs.length bc) bs w20 (HS.out.kept K20.out (by simp)) (HT.out.kept K20.out (by simp)) (by omega))
          go_wp2_with fail
          refine hD3.out.mono ?_
          rintro e wx ⟨kx, (⟨g1, _, rfl⟩ | ⟨_, _, rfl⟩ | ⟨os, oa, oc, g2, rfl, gG⟩)⟩
          · have hne : (unsealErr 84 bs != 0) = true := by simpa using g1
            have Kx := hid (K20.out.trans kx)
            clear g1 kx hD3
            go_wp2
            go_ret
            exact ⟨rfl, Kx.out⟩
          · have Kx := hid (K20.out.trans kx)
            clear kx hD3
            go_wp2
            go_ret
            exact ⟨rfl, Kx.out⟩
          · have Kx := hid (K20.out.trans kx)
            obtain ⟨q1, q2, q3⟩ := decL_get g2
            have hgn := hid (fun (wv : World) (hv : Kept [] wx wv) => (gG.kept hv (by simp)).nodes_ (fun n hn => q2 _ (List.mem_map_of_mem hn)))
            have hE3 := hid (t_encode oa oc os wx hgn.out (HT.out.kept Kx.out (by simp)))
            have Q1 := hid q1; have Q3 := hid q3
            clear kx gG g2 q1 q2 q3 hD3
            go_wp2_with fail
            refine hE3.out.mono ?_
            rintro e wy ⟨ky, (⟨g1, _⟩ | ⟨_, za, zc, rfl, zo⟩)⟩
            · exact absurd Q1.out g1
            rw [Q3.out] at zo ⊢
            have Ky := hid (Kx.out.trans ky)
            have hC3 := hid (t_check oa oc os wy (fun wv hv => hgn.out wv (ky.trans hv)))
            rw [Q1.out] at hC3
            have hzo := hid (ownsRow_src zo)
            clear ky zo hE3
            go_wp2_with fail
            refine hC3.out.mono ?_
            rintro e wz ⟨rfl, kz⟩
            have Kz := hid (Ky.out.trans kz)
            have hS3 := hid (same_src za ba zc bc bs wz (hzo.out.kept kz (by simp)) (HS.out.kept Kz.out (by simp)))
            clear kz hC3
            go_wp2_with fail
            refine hS3.out.mono ?_
            rintro e wu ⟨rfl, rfl⟩
            go_wp2
            go_ret
            exact ⟨rfl, Kz.out⟩
        · have he36 := hsafe.out ht0
          have htt : ((turn : Int) != 0) = true := by simpa using ht0
          subst he36
          clear ht0 hsafe
          have hD3 := hid (t_decode (.slice ba bs.length bc) bs w20 (HS.out.kept K20.out (by simp)) (HT.out.kept K20.out (by simp)) (by omega))
          go_wp2_with fail
          refine hD3.out.mono ?_
          rintro e wx ⟨kx, (⟨g1, _, rfl⟩ | ⟨_, _, rfl⟩ | ⟨os, oa, oc, g2, rfl, gG⟩)⟩
          · have hne : (unsealErr 84 bs != 0) = true := by simpa using g1
            have Kx := hid (K20.out.trans kx)
            clear g1 kx hD3
            go_wp2
            go_ret
            exact ⟨rfl, Kx.out⟩
          · have Kx := hid (K20.out.trans kx)
            clear kx hD3
            go_wp2
            go_ret
            exact ⟨rfl, Kx.out⟩
          · have Kx := hid (K20.out.trans kx)
            obtain ⟨q1, q2, q3⟩ := decL_get g2
            have hgn := hid (fun (wv : World) (hv : Kept [] wx wv) => (gG.kept hv (by simp)).nodes_ (fun n hn => q2 _ (List.mem_map_of_mem hn)))
            have hE3 := hid (t_encode oa oc os wx hgn.out (HT.out.kept Kx.out (by simp)))
            have Q1 := hid q1; have Q3 := hid q3
            clear kx gG g2 q1 q2 q3 hD3
            go_wp2_with fail
            refine hE3.out.mono ?_
            rintro e wy ⟨ky, (⟨g1, _⟩ | ⟨_, za, zc, rfl, zo⟩)⟩
            · exact absurd Q1.out g1
            rw [Q3.out] at zo ⊢
            have Ky := hid (Kx.out.trans ky)
            have hC3 := hid (t_check oa oc os wy (fun wv hv => hgn.out wv (ky.trans hv)))
            rw [Q1.out] at hC3
            have hzo := hid (ownsRow_src zo)
            clear ky zo hE3
            go_wp2_with fail
            refine hC3.out.mono ?_
            rintro e wz ⟨rfl, kz⟩
            have Kz := hid (Ky.out.trans kz)
            have hS3 := hid (same_src za ba zc bc bs wz (hzo.out.kept kz (by simp)) (HS.out.kept Kz.out (by simp)))
            clear kz hC3
            go_wp2_with fail
            refine hS3.out.mono ?_
            rintro e wu ⟨rfl, rfl⟩
            go_wp2
            go_ret
            exact ⟨rfl, Kz.out⟩
end Go.Proofs.YtdojpioclojalaaDoor
