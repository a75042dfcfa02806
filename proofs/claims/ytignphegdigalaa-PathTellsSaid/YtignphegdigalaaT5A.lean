/- PathTells, one of four ways. -/
import Derived.Test.YtignphegdigalaaT5
namespace Go.Proofs.Ytignphegdigalaa
open Go.RowKit

set_option maxRecDepth 100000 in
set_option maxHeartbeats 8000000 in
theorem path_tells_A (p q : List UInt8) (most : Int) (w : World) (hl : ¬ 300 < p.length) (hl2 : ¬ 300 < q.length) (hp0 : p = []) (hm : meantS p = none) (hok : okPath p = false) :
    Calls Try.prog 4 #[.string (S p), .string (S q), .int .i64 most] w fun e w' => e = .returned (.bool true) ∧ Kept [] w w' := by
  have hal := hid (alive5 w)
  have K := hid (pathK w)
  have sp := S_size p; have sq := S_size q
  obtain ⟨M, hM⟩ : ∃ M : Nat, bits .and .i64 most 7 = (M : Int) := ⟨(most % 8).toNat, by rw [i64_and7]; omega⟩
  have hM7 : M ≤ 7 := by rw [i64_and7] at hM; omega
  obtain ⟨N, hN⟩ : ∃ N, N = (partsS p).length := ⟨_, rfl⟩
  have hN1 : N ≤ 301 := by rw [hN]; have := partsS_count p; omega
  obtain ⟨n, hn⟩ : ∃ n, n = min M N := ⟨_, rfl⟩
  have hmin : min (M : Int) (N : Int) = (n : Int) := by omega
  have hnL : n = ((partsS p).take M).length := by rw [List.length_take, hn, hN]
  have hnL2 : (partsS p).take n = (partsS p).take M := by
    rw [hn, hN]; rcases Nat.le_total M (partsS p).length with h | h
    · rw [Nat.min_eq_left h]
    · rw [Nat.min_eq_right h, List.take_length, List.take_of_length_le h]
  have hNL : N = ((partsS p).take 1000).length := by rw [List.length_take]; omega
  have hNL2 : (partsS p).take 1000 = partsS p := List.take_of_length_le (by omega)
  -- calls
  obtain ⟨P, hP⟩ : ∃ x, x = parentL p := ⟨_, rfl⟩
  obtain ⟨b, hb⟩ : ∃ x, x = baseL p := ⟨_, rfl⟩
  obtain ⟨j, hj⟩ : ∃ x, x = joinL p q := ⟨_, rfl⟩
  obtain ⟨le, hle⟩ : ∃ x, x = pless p q := ⟨_, rfl⟩
  obtain ⟨wi, hwi⟩ : ∃ x, x = within p q := ⟨_, rfl⟩
  have f1 := hid hP.symm; have f2 := hid hb.symm; have f4 := hid hle.symm; have f5 := hid hwi.symm
  have f3 : JF p q j := ⟨hj.symm, by omega, by omega⟩
  have rclean := hid (fun W => rclean_any p (by omega) W)
  have rcut := hid (fun W => rcut_any p (by omega) W)
  have rparts := hid (fun W => rparts_any p (by omega) W)
  have rright := hid (fun W => rright_any p (by omega) W)
  have rless := hid (fun W => rless_any p q (by omega) (by omega) W)
  have rwithin := hid (fun W => rwithin_any p q (by omega) (by omega) W)
  rw [← hP, ← hb] at rcut
  rw [← hle] at rless
  rw [← hwi] at rwithin
  have hp1 := hid (fun W V k => lparts_tr p (by omega) 1000 (by omega) N hNL W V k)
  have hp2 := hid (fun W V k => lparts_tr p (by omega) M (by omega) n hnL W V k)
  have hss1 := hid (fun av bv c d W (h1 : TR W av (partsS p)) (h2 : TR W bv (partsS p)) => samestr_any av bv c d (partsS p) W h1 h2 (by omega))
  have hss2 := hid (fun av bv c d W (h1 : TR W av ((partsS p).take M)) (h2 : TR W bv ((partsS p).take M)) => samestr_any av bv c d ((partsS p).take M) W h1 h2 (by omega))
  rw [← hN] at rparts hss1
  rw [← hnL] at hss2
  rw [hNL2] at hp1
  obtain ⟨L, hL⟩ : ∃ L, L = partsS p := ⟨_, rfl⟩
  rw [← hL] at hp1 hp2 hss1 hss2 rparts hnL2 hN
  have HnL2 := hid hnL2
  have a1 := S_append p [47]
  rw [show S [47] = ⟨#[47]⟩ from rfl] at a1
  have a2 := S_append (p ++ [47]) q
  have z1 : ¬ 9223372036854775807 < (S p).size + 1 := by omega
  have z2 : ¬ 9223372036854775807 < (S (p ++ [47])).size + (S q).size := by rw [S_size]; simp; omega
  have hpe : (S p).toList.isEmpty = decide (p = []) := S_isE p
  have hjj : j = if p = [] then q else p ++ [47] ++ q := by rw [hj]; unfold joinL; simp
  have sb1 : ((S P).toList == (S P).toList) = true := by simp
  have sb2 : ((S b).toList == (S b).toList) = true := by simp
  have sb3 : ((S j).toList == (S j).toList) = true := by simp
  have hb0 : (le == le) = true := by simp
  have hb1 : (wi == wi) = true := by simp
  have Hn := hid hN
  have Hnm := hid hn
  have hL0 := hid (show ∃ x, L[0]? = some x from ⟨L[0]'(by rw [hL]; exact List.length_pos_iff.2 (partsS_ne p)), List.getElem?_eq_getElem _⟩)
  have hN0 : 0 < N := by rw [hN, hL]; exact List.length_pos_iff.2 (partsS_ne p)
  clear hP hb hj hle hwi hnL hnL2 hNL hNL2 hL hN hn hmin
  rw [decide_eq_true hp0] at hpe
  rw [if_pos hp0] at hjj
  subst hjj
  clear hp0
  have t1 := clean_none hm
  have g1 : ClF p [] 38 := ⟨t1.1, t1.2, by omega⟩
  rw [hm, show clV none = .tuple #[.string (S []), .bool false] from rfl] at rclean
  rw [hok] at rright
  have g2 : CkF p 38 := ⟨pathErr_no hok⟩
  clear t1 hm hok
  go_enter Try.func4, Try.ntmps4
  go_wp2_with fail
  refine hal.out.mono ?_
  rintro e w1 ⟨rfl, k1⟩
  go_wp2_with fail
  refine (K.out.clean _ _ _ g1 _ k1).mono ?_
  rintro e w2 ⟨rfl, k2⟩
  go_wp2_with fail
  refine (rclean.out _).mono ?_
  rintro e w3 ⟨rfl, k3⟩
  replace k3 := k2.trans k3
  go_wp2_with fail
  refine (rcut.out _).mono ?_
  rintro e w4 ⟨rfl, k4⟩
  replace k4 := k3.trans k4
  go_wp2_with fail
  refine (rparts.out _).mono ?_
  rintro e w5 ⟨v5, rfl, hown, k5⟩
  have K5 := hid (k4.trans k5)
  obtain ⟨lv, lc, rfl, hlc, hlm, hltr, -⟩ := tr_of_own (L := L) (by rw [Hn.out] at hown; exact hown)
  obtain ⟨gl, rfl⟩ : ∃ g, lv = some ⟨g, 0, none⟩ := by
    obtain ⟨x, hx⟩ := hL0.out
    obtain ⟨g, h, -⟩ := hltr 0 x hx
    exact ⟨g, h⟩
  have Htr := hid hltr
  rw [← Hn.out] at hlc ⊢
  unfold maxLen at hlm
  have hck := hid (fun V k => (pathK w5).check _ _ g2 V k)
  have hri := hid (fun V (k : Kept [] w5 V) => (rright.out V).mono fun e w' h => (⟨h.1, k.trans h.2⟩ : _ ∧ Kept [] w5 w'))
  have hpa := hid (fun V k => (pathK w5).parent _ _ f1.out (by omega) V k)
  have hba := hid (fun V k => (pathK w5).base _ _ f2.out (by omega) V k)
  have hjo := hid (fun V k => (pathK w5).join _ _ _ f3 V k)
  have hle := hid (fun V k => (pathK w5).less _ _ _ f4.out (by omega) (by omega) V k)
  have hrl := hid (fun V (k : Kept [] w5 V) => (rless.out V).mono fun e w' h => (⟨h.1, k.trans h.2⟩ : _ ∧ Kept [] w5 w'))
  have hwi := hid (fun V k => (pathK w5).within _ _ _ f5.out V k)
  have hrw := hid (fun V (k : Kept [] w5 V) => (rwithin.out V).mono fun e w' h => (⟨h.1, k.trans h.2⟩ : _ ∧ Kept [] w5 w'))
  have hs1 := hid (fun V a1 c1 (k : Kept [] w5 V) (t : TR V a1 L) => (hss1.out a1 (some ⟨gl, 0, none⟩) c1 lc V t (Htr.out.kept k)).mono fun e w' h => (⟨h.1, k.trans h.2⟩ : _ ∧ Kept [] w5 w'))
  have hs2 := hid (fun V a1 c1 (k : Kept [] w5 V) (t : TR V a1 (L.take M)) => (hss2.out a1 (some ⟨gl, 0, none⟩) c1 lc V t (by rw [← HnL2.out]; exact (Htr.out.kept k).take n)).mono fun e w' h => (⟨h.1, k.trans h.2⟩ : _ ∧ Kept [] w5 w'))
  have hnl : n ≤ lc := by have := Hnm.out; omega
  have hnN : n ≤ N := by have := Hnm.out; omega
  have hlc0 : ¬ lc = 0 := by omega
  clear hown hltr k1 k2 k3 k4 k5 hal rcut rparts rclean K
  have kA := (Kept.refl [] w5).drew
  go_upto_region 12 with fail
  go_cut [13, 15] (fun s13 s15 wx => s13 = .string (S j) ∧ s15 = .int .i64 (n : Int) ∧ w5 = wx)
  case first =>
    go_wp2_with fail
    all_goals
      go_meet
      have := Hnm.out
      first
        | exact ⟨rfl, by congr 1; omega, rfl⟩
  case rest =>
    obtain ⟨rfl, rfl, rfl⟩ := hcut
    go_wp2_with fail
    dsimp only [List.append]
    go_region_held3 (fun W => Kept [] w5 W) (first | with_reducible exact q13 | with_reducible exact q12 | with_reducible exact q11 | with_reducible exact q10 | with_reducible exact q9 | with_reducible exact q8 | with_reducible exact q7 | with_reducible exact q6 | with_reducible exact q5 | with_reducible exact q4 | with_reducible exact q3 | with_reducible exact q2 | with_reducible exact q1 | with_reducible exact kA)
      (first
        | (go_at_call 20; with_reducible (refine Calls.mono (hck.out w5.drew kA) ?_); rintro e v1 ⟨rfl, q1⟩)
        | (go_at_call 21; with_reducible (refine Calls.mono (hri.out v1 q1) ?_); rintro e v2 ⟨rfl, q2⟩)
        | (go_at_call 22; with_reducible (refine Calls.mono (hpa.out v2 q2) ?_); rintro e v3 ⟨rfl, q3⟩)
        | (go_at_call 23; with_reducible (refine Calls.mono (hba.out v3 q3) ?_); rintro e v4 ⟨rfl, q4⟩)
        | (go_at_call 24; with_reducible (refine Calls.mono (hjo.out v4 q4) ?_); rintro e v5 ⟨rfl, q5⟩)
        | (go_at_call 25; with_reducible (refine Calls.mono (hle.out v5 q5) ?_); rintro e v6 ⟨rfl, q6⟩)
        | (go_at_call 26; with_reducible (refine Calls.mono (hrl.out v6 q6) ?_); rintro e v7 ⟨rfl, q7⟩)
        | (go_at_call 27; with_reducible (refine Calls.mono (hwi.out v7 q7) ?_); rintro e v8 ⟨rfl, q8⟩)
        | (go_at_call 28; with_reducible (refine Calls.mono (hrw.out v8 q8) ?_); rintro e v9 ⟨rfl, q9⟩)
        | (go_at_call 30; with_reducible (refine Calls.mono (hp1.out w5 v9 q9) ?_); rintro e v10 ⟨a1, c1, rfl, q10, t10⟩)
        | (go_at_call 29; with_reducible (refine Calls.mono (hs1.out v10 a1 c1 q10 t10) ?_); rintro e v11 ⟨rfl, q11⟩)
        | (go_at_call 30; with_reducible (refine Calls.mono (hp2.out w5 v11 q11) ?_); rintro e v12 ⟨a2, c2, rfl, q12, t12⟩)
        | (go_at_call 29; with_reducible (refine Calls.mono (hs2.out v12 a2 c2 q12 t12) ?_); rintro e v13 ⟨rfl, q13⟩))
    go_wp2
    go_ret
    exact ⟨rfl, K5.out.trans q13⟩
end Go.Proofs.Ytignphegdigalaa
