/- PathTells, one of four ways. -/
import Derived.Test.YtignphegdigalaaT5
import Derived.Test.YtignphegdigalaaHX
namespace Go.Proofs.Ytignphegdigalaa
open Go.RowKit

set_option maxRecDepth 100000 in
set_option maxHeartbeats 8000000 in
theorem path_tells_C (p q : List UInt8) (most : Int) (w : World) (hl : ¬ 300 < p.length) (hl2 : ¬ 300 < q.length) (hp0 : p ≠ []) (c : List UInt8) (hm : meantS p = some c) (hok : okPath p = true) :
    Calls Try.prog 4 #[.string (S p), .string (S q), .int .i64 most] w fun e w' => e = .returned (.bool true) ∧ Kept [] w w' := by
  have hal := hid (alive5 w)
  have K := hid (pathK w)
  have sp := S_size p; have sq := S_size q
  obtain ⟨M, hM⟩ : ∃ M : Nat, bits .and .i64 most 7 = (M : Int) := ⟨(most % 8).toNat, by rw [i64_and7]; omega⟩
  have hM7 : M ≤ 7 := by rw [i64_and7] at hM; omega
  obtain ⟨N, hN⟩ : ∃ N, N = (partsS p).length := ⟨_, rfl⟩
  have hN1 : N ≤ 301 := by rw [hN]; have := partsS_count p; omega
  obtain ⟨n, hn⟩ : ∃ n, n = min M N := ⟨_, rfl⟩
  have hmin : min (M : Int) (N : Int) = (n : Int) := by omega
  have hnL : n = ((partsS p).take M).length := by rw [List.length_take, hn, hN]
  have hnL2 : (partsS p).take n = (partsS p).take M := by
    rw [hn, hN]; rcases Nat.le_total M (partsS p).length with h | h
    · rw [Nat.min_eq_left h]
    · rw [Nat.min_eq_right h, List.take_length, List.take_of_length_le h]
  have hNL : N = ((partsS p).take 1000).length := by rw [List.length_take]; omega
  have hNL2 : (partsS p).take 1000 = partsS p := List.take_of_length_le (by omega)
  -- calls
  obtain ⟨P, hP⟩ : ∃ x, x = parentL p := ⟨_, rfl⟩
  obtain ⟨b, hb⟩ : ∃ x, x = baseL p := ⟨_, rfl⟩
  obtain ⟨j, hj⟩ : ∃ x, x = joinL p q := ⟨_, rfl⟩
  obtain ⟨le, hle⟩ : ∃ x, x = pless p q := ⟨_, rfl⟩
  obtain ⟨wi, hwi⟩ : ∃ x, x = within p q := ⟨_, rfl⟩
  have f1 := hid hP.symm; have f2 := hid hb.symm; have f4 := hid hle.symm; have f5 := hid hwi.symm
  have f3 : JF p q j := ⟨hj.symm, by omega, by omega⟩
  have rclean := hid (fun W => rclean_any p (by omega) W)
  have rcut := hid (fun W => rcut_any p (by omega) W)
  have rparts := hid (fun W => rparts_any p (by omega) W)
  have rright := hid (fun W => rright_any p (by omega) W)
  have rless := hid (fun W => rless_any p q (by omega) (by omega) W)
  have rwithin := hid (fun W => rwithin_any p q (by omega) (by omega) W)
  rw [← hP, ← hb] at rcut
  rw [← hle] at rless
  rw [← hwi] at rwithin
  have hp1 := hid (fun W V k => lparts_tr p (by omega) 1000 (by omega) N hNL W V k)
  have hp2 := hid (fun W V k => lparts_tr p (by omega) M (by omega) n hnL W V k)
  have hss1 := hid (fun av bv c d W (h1 : TR W av (partsS p)) (h2 : TR W bv (partsS p)) => samestr_any av bv c d (partsS p) W h1 h2 (by omega))
  have hss2 := hid (fun av bv c d W (h1 : TR W av ((partsS p).take M)) (h2 : TR W bv ((partsS p).take M)) => samestr_any av bv c d ((partsS p).take M) W h1 h2 (by omega))
  rw [← hN] at rparts hss1
  rw [← hnL] at hss2
  rw [hNL2] at hp1
  obtain ⟨L, hL⟩ : ∃ L, L = partsS p := ⟨_, rfl⟩
  rw [← hL] at hp1 hp2 hss1 hss2 rparts hnL2 hN
  have HnL2 := hid hnL2
  have a1 := S_append p [47]
  rw [show S [47] = ⟨#[47]⟩ from rfl] at a1
  have a2 := S_append (p ++ [47]) q
  have z1 : ¬ 9223372036854775807 < (S p).size + 1 := by omega
  have z2 : ¬ 9223372036854775807 < (S (p ++ [47])).size + (S q).size := by rw [S_size]; simp; omega
  have hpe : (S p).toList.isEmpty = decide (p = []) := S_isE p
  have hjj : j = if p = [] then q else p ++ [47] ++ q := by rw [hj]; unfold joinL; simp
  have sb1 : ((S P).toList == (S P).toList) = true := by simp
  have sb2 : ((S b).toList == (S b).toList) = true := by simp
  have sb3 : ((S j).toList == (S j).toList) = true := by simp
  have hb0 : (le == le) = true := by simp
  have hb1 : (wi == wi) = true := by simp
  have Hn := hid hN
  have Hnm := hid hn
  have hL0 := hid (show ∃ x, L[0]? = some x from ⟨L[0]'(by rw [hL]; exact List.length_pos_iff.2 (partsS_ne p)), List.getElem?_eq_getElem _⟩)
  have hN0 : 0 < N := by rw [hN, hL]; exact List.length_pos_iff.2 (partsS_ne p)
  clear hP hb hj hle hwi hnL hnL2 hNL hNL2 hL hN hn hmin
  rw [decide_eq_false hp0] at hpe
  rw [if_neg hp0] at hjj
  rw [← hjj] at a2
  clear hp0 hjj
  have t1 := clean_some hm
  have g1 : ClF p c 0 := ⟨t1.1, t1.2, by omega⟩
  rw [hm, show clV (some c) = .tuple #[.string (S c), .bool true] from rfl] at rclean
  have sc : ((S c).toList == (S c).toList) = true := by simp
  rw [hok] at rright
  have g2 : CkF p 0 := ⟨pathErr_ok hok⟩
  clear t1 hm hok
  go_enter Try.func4, Try.ntmps4
  go_wp2_with fail
  refine hal.out.mono ?_
  rintro e w1 ⟨rfl, k1⟩
  go_wp2_with fail
  refine (K.out.clean _ _ _ g1 _ k1).mono ?_
  rintro e w2 ⟨rfl, k2⟩
  go_wp2_with fail
  refine (rclean.out _).mono ?_
  rintro e w3 ⟨rfl, k3⟩
  replace k3 := k2.trans k3
  go_wp2_with fail
  refine (rcut.out _).mono ?_
  rintro e w4 ⟨rfl, k4⟩
  replace k4 := k3.trans k4
  go_wp2_with fail
  refine (rparts.out _).mono ?_
  rintro e w5 ⟨v5, rfl, hown, k5⟩
  have K5 := hid (k4.trans k5)
  obtain ⟨lv, lc, rfl, hlc, hlm, hltr, -⟩ := tr_of_own (L := L) (by rw [Hn.out] at hown; exact hown)
  obtain ⟨gl, rfl⟩ : ∃ g, lv = some ⟨g, 0, none⟩ := by
    obtain ⟨x, hx⟩ := hL0.out
    obtain ⟨g, h, -⟩ := hltr 0 x hx
    exact ⟨g, h⟩
  have Htr := hid hltr
  rw [← Hn.out] at hlc ⊢
  unfold maxLen at hlm
  have hck := hid (fun V k => (pathK w5).check _ _ g2 V k)
  have hri := hid (fun V (k : Kept [] w5 V) => (rright.out V).mono fun e w' h => (⟨h.1, k.trans h.2⟩ : _ ∧ Kept [] w5 w'))
  have hpa := hid (fun V k => (pathK w5).parent _ _ f1.out (by omega) V k)
  have hba := hid (fun V k => (pathK w5).base _ _ f2.out (by omega) V k)
  have hjo := hid (fun V k => (pathK w5).join _ _ _ f3 V k)
  have hle := hid (fun V k => (pathK w5).less _ _ _ f4.out (by omega) (by omega) V k)
  have hrl := hid (fun V (k : Kept [] w5 V) => (rless.out V).mono fun e w' h => (⟨h.1, k.trans h.2⟩ : _ ∧ Kept [] w5 w'))
  have hwi := hid (fun V k => (pathK w5).within _ _ _ f5.out V k)
  have hrw := hid (fun V (k : Kept [] w5 V) => (rwithin.out V).mono fun e w' h => (⟨h.1, k.trans h.2⟩ : _ ∧ Kept [] w5 w'))
  have hs1 := hid (fun V a1 c1 (k : Kept [] w5 V) (t : TR V a1 L) => (hss1.out a1 (some ⟨gl, 0, none⟩) c1 lc V t (Htr.out.kept k)).mono fun e w' h => (⟨h.1, k.trans h.2⟩ : _ ∧ Kept [] w5 w'))
  have hs2 := hid (fun V a1 c1 (k : Kept [] w5 V) (t : TR V a1 (L.take M)) => (hss2.out a1 (some ⟨gl, 0, none⟩) c1 lc V t (by rw [← HnL2.out]; exact (Htr.out.kept k).take n)).mono fun e w' h => (⟨h.1, k.trans h.2⟩ : _ ∧ Kept [] w5 w'))
  have hnl : n ≤ lc := by have := Hnm.out; omega
  have hnN : n ≤ N := by have := Hnm.out; omega
  have hlc0 : ¬ lc = 0 := by omega
  clear hown hltr k1 k2 k3 k4 k5 hal rcut rparts rclean K
  have kA := (Kept.refl [] w5).drew
  go_upto_region 12 with fail
  go_cut [13, 15] (fun s13 s15 wx => s13 = .string (S j) ∧ s15 = .int .i64 (n : Int) ∧ w5 = wx)
  case first =>
    go_wp2_with fail
    all_goals
      go_meet
      have := Hnm.out
      first
        | exact ⟨rfl, by congr 1; omega, rfl⟩
  case rest =>
    obtain ⟨rfl, rfl, rfl⟩ := hcut
    go_wp2_with fail
    dsimp only [List.append]
    refine wp_region_held_drew (S := fun W => Kept [] w5 W) (by kernel_rfl) kA (fun _ => ?_)
    refine takeH 0 (.string (S c)) rfl (by kernel_rfl) (by kernel_rfl) (by kernel_rfl) (fun _ _ _ h => h) (by rfl) (fun w hSw => by go_simp) kA ?_
    simp only [Act.put, List.setIfInBounds_toArray, List.set_cons_succ, List.set_cons_zero]
    refine takeH 1 (.string (S c)) rfl (by kernel_rfl) (by kernel_rfl) (by kernel_rfl) (fun _ _ _ h => h) (by rfl) (fun w hSw => by go_simp) kA ?_
    simp only [Act.put, List.setIfInBounds_toArray, List.set_cons_succ, List.set_cons_zero]
    refine takeH 2 (.bool true) rfl (by kernel_rfl) (by kernel_rfl) (by kernel_rfl) (fun _ _ _ h => h) (by rfl) (fun w hSw => by go_simp) kA ?_
    simp only [Act.put, List.setIfInBounds_toArray, List.set_cons_succ, List.set_cons_zero]
    refine takeH 3 (.bool true) rfl (by kernel_rfl) (by kernel_rfl) (by kernel_rfl) (fun _ _ _ h => h) (by rfl) (fun w hSw => by go_simp) kA ?_
    simp only [Act.put, List.setIfInBounds_toArray, List.set_cons_succ, List.set_cons_zero]
    refine takeH 4 (.int .i64 0) rfl (by kernel_rfl) (by kernel_rfl) (by kernel_rfl) (fun _ _ _ h => h) (by rfl) (fun w hSw => by go_simp) kA ?_
    simp only [Act.put, List.setIfInBounds_toArray, List.set_cons_succ, List.set_cons_zero]
    refine takeH 5 (.bool true) rfl (by kernel_rfl) (by kernel_rfl) (by kernel_rfl) (fun _ _ _ h => h) (by rfl) (fun w hSw => by go_simp) kA ?_
    simp only [Act.put, List.setIfInBounds_toArray, List.set_cons_succ, List.set_cons_zero]
    refine takeH 6 (.bool true) rfl (by kernel_rfl) (by kernel_rfl) (by kernel_rfl) (fun _ _ _ h => h) (by rfl) (fun w hSw => by go_simp) kA ?_
    simp only [Act.put, List.setIfInBounds_toArray, List.set_cons_succ, List.set_cons_zero]
    refine takeH 7 (.bool true) rfl (by kernel_rfl) (by kernel_rfl) (by kernel_rfl) (fun _ _ _ h => h) (by rfl) (fun w hSw => by go_simp) kA ?_
    simp only [Act.put, List.setIfInBounds_toArray, List.set_cons_succ, List.set_cons_zero]
    refine takeH 8 (.bool true) rfl (by kernel_rfl) (by kernel_rfl) (by kernel_rfl) (fun _ _ _ h => h) (by rfl) (fun w hSw => by go_simp) kA ?_
    simp only [Act.put, List.setIfInBounds_toArray, List.set_cons_succ, List.set_cons_zero]
    refine takeH 9 (.bool true) rfl (by kernel_rfl) (by kernel_rfl) (by kernel_rfl) (fun _ _ _ h => h) (by rfl) (fun w hSw => by go_simp) kA ?_
    simp only [Act.put, List.setIfInBounds_toArray, List.set_cons_succ, List.set_cons_zero]
    refine takeH 10 (.bool true) rfl (by kernel_rfl) (by kernel_rfl) (by kernel_rfl) (fun _ _ _ h => h) (by rfl) (fun w hSw => by go_simp) kA ?_
    simp only [Act.put, List.setIfInBounds_toArray, List.set_cons_succ, List.set_cons_zero]
    refine takeH 11 (.bool true) rfl (by kernel_rfl) (by kernel_rfl) (by kernel_rfl) (fun _ _ _ h => h) (by rfl) (fun w hSw => by go_simp) kA ?_
    simp only [Act.put, List.setIfInBounds_toArray, List.set_cons_succ, List.set_cons_zero]
    refine skipH 12 rfl (by kernel_rfl) (by kernel_rfl) (by kernel_rfl) (fun _ _ _ h => h) (by rfl) kA ?_
    simp only [Act.put, List.setIfInBounds_toArray, List.set_cons_succ, List.set_cons_zero]
    refine skipH 13 rfl (by kernel_rfl) (by kernel_rfl) (by kernel_rfl) (fun _ _ _ h => h) (by rfl) kA ?_
    simp only [Act.put, List.setIfInBounds_toArray, List.set_cons_succ, List.set_cons_zero]
    refine takeH 14 (.bool true) rfl (by kernel_rfl) (by kernel_rfl) (by kernel_rfl) (fun _ _ _ h => h) (by rfl) (fun w hSw => by go_simp) kA ?_
    simp only [Act.put, List.setIfInBounds_toArray, List.set_cons_succ, List.set_cons_zero]
    refine takeH 15 (.bool true) rfl (by kernel_rfl) (by kernel_rfl) (by kernel_rfl) (fun _ _ _ h => h) (by rfl) (fun w hSw => by go_simp) kA ?_
    simp only [Act.put, List.setIfInBounds_toArray, List.set_cons_succ, List.set_cons_zero]
    refine takeH 16 (.bool true) rfl (by kernel_rfl) (by kernel_rfl) (by kernel_rfl) (fun _ _ _ h => h) (by rfl) (fun w hSw => by go_simp) kA ?_
    simp only [Act.put, List.setIfInBounds_toArray, List.set_cons_succ, List.set_cons_zero]
    refine takeH 17 (.string (S p)) rfl (by kernel_rfl) (by kernel_rfl) (by kernel_rfl) (fun _ _ _ h => h) (by rfl) (fun w hSw => by go_simp) kA ?_
    simp only [Act.put, List.setIfInBounds_toArray, List.set_cons_succ, List.set_cons_zero]
    refine takeH 20 (.string (S p)) rfl (by kernel_rfl) (by kernel_rfl) (by kernel_rfl) (fun _ _ _ h => h) (by rfl) (fun w hSw => by go_simp) kA ?_
    simp only [Act.put, List.setIfInBounds_toArray, List.set_cons_succ, List.set_cons_zero]
    refine callE 18 rfl (by kernel_rfl) (by rfl) 20 #[.string (S p)] (by go_simp) (fun vv W => vv = .int .i64 0 ∧ Kept [] w5 W) (fun _ _ h => h.2) ((hck.out w5.drew kA).mono fun e w' h => ⟨_, h.1, rfl, h.2⟩) ?_
    rintro vv v1 ⟨rfl, q1⟩
    simp only [Act.put, List.setIfInBounds_toArray, List.set_cons_succ, List.set_cons_zero]
    refine takeH 19 (.bool true) rfl (by kernel_rfl) (by kernel_rfl) (by kernel_rfl) (fun _ _ _ h => h) (by rfl) (fun w hSw => by go_simp) q1 ?_
    simp only [Act.put, List.setIfInBounds_toArray, List.set_cons_succ, List.set_cons_zero]
    refine callE 21 rfl (by kernel_rfl) (by rfl) 21 #[.string (S p)] (by go_simp) (fun vv W => vv = .bool true ∧ Kept [] w5 W) (fun _ _ h => h.2) ((hri.out v1 q1).mono fun e w' h => ⟨_, h.1, rfl, h.2⟩) ?_
    rintro vv v2 ⟨rfl, q2⟩
    simp only [Act.put, List.setIfInBounds_toArray, List.set_cons_succ, List.set_cons_zero]
    refine takeH 22 (.bool true) rfl (by kernel_rfl) (by kernel_rfl) (by kernel_rfl) (fun _ _ _ h => h) (by rfl) (fun w hSw => by go_simp) q2 ?_
    simp only [Act.put, List.setIfInBounds_toArray, List.set_cons_succ, List.set_cons_zero]
    refine takeH 23 (.bool true) rfl (by kernel_rfl) (by kernel_rfl) (by kernel_rfl) (fun _ _ _ h => h) (by rfl) (fun w hSw => by go_simp) q2 ?_
    simp only [Act.put, List.setIfInBounds_toArray, List.set_cons_succ, List.set_cons_zero]
    refine takeH 24 (.bool true) rfl (by kernel_rfl) (by kernel_rfl) (by kernel_rfl) (fun _ _ _ h => h) (by rfl) (fun w hSw => by go_simp) q2 ?_
    simp only [Act.put, List.setIfInBounds_toArray, List.set_cons_succ, List.set_cons_zero]
    refine takeH 25 (.string (S p)) rfl (by kernel_rfl) (by kernel_rfl) (by kernel_rfl) (fun _ _ _ h => h) (by rfl) (fun w hSw => by go_simp) q2 ?_
    simp only [Act.put, List.setIfInBounds_toArray, List.set_cons_succ, List.set_cons_zero]
    refine takeH 27 (.string (S P)) rfl (by kernel_rfl) (by kernel_rfl) (by kernel_rfl) (fun _ _ _ h => h) (by rfl) (fun w hSw => by go_simp) q2 ?_
    simp only [Act.put, List.setIfInBounds_toArray, List.set_cons_succ, List.set_cons_zero]
    refine callE 26 rfl (by kernel_rfl) (by rfl) 22 #[.string (S p)] (by go_simp) (fun vv W => vv = .string (S P) ∧ Kept [] w5 W) (fun _ _ h => h.2) ((hpa.out v2 q2).mono fun e w' h => ⟨_, h.1, rfl, h.2⟩) ?_
    rintro vv v3 ⟨rfl, q3⟩
    simp only [Act.put, List.setIfInBounds_toArray, List.set_cons_succ, List.set_cons_zero]
    refine takeH 28 (.bool true) rfl (by kernel_rfl) (by kernel_rfl) (by kernel_rfl) (fun _ _ _ h => h) (by rfl) (fun w hSw => by go_simp) q3 ?_
    simp only [Act.put, List.setIfInBounds_toArray, List.set_cons_succ, List.set_cons_zero]
    refine takeH 29 (.bool true) rfl (by kernel_rfl) (by kernel_rfl) (by kernel_rfl) (fun _ _ _ h => h) (by rfl) (fun w hSw => by go_simp) q3 ?_
    simp only [Act.put, List.setIfInBounds_toArray, List.set_cons_succ, List.set_cons_zero]
    refine takeH 30 (.bool true) rfl (by kernel_rfl) (by kernel_rfl) (by kernel_rfl) (fun _ _ _ h => h) (by rfl) (fun w hSw => by go_simp) q3 ?_
    simp only [Act.put, List.setIfInBounds_toArray, List.set_cons_succ, List.set_cons_zero]
    refine takeH 31 (.string (S p)) rfl (by kernel_rfl) (by kernel_rfl) (by kernel_rfl) (fun _ _ _ h => h) (by rfl) (fun w hSw => by go_simp) q3 ?_
    simp only [Act.put, List.setIfInBounds_toArray, List.set_cons_succ, List.set_cons_zero]
    refine takeH 33 (.string (S b)) rfl (by kernel_rfl) (by kernel_rfl) (by kernel_rfl) (fun _ _ _ h => h) (by rfl) (fun w hSw => by go_simp) q3 ?_
    simp only [Act.put, List.setIfInBounds_toArray, List.set_cons_succ, List.set_cons_zero]
    refine callE 32 rfl (by kernel_rfl) (by rfl) 23 #[.string (S p)] (by go_simp) (fun vv W => vv = .string (S b) ∧ Kept [] w5 W) (fun _ _ h => h.2) ((hba.out v3 q3).mono fun e w' h => ⟨_, h.1, rfl, h.2⟩) ?_
    rintro vv v4 ⟨rfl, q4⟩
    simp only [Act.put, List.setIfInBounds_toArray, List.set_cons_succ, List.set_cons_zero]
    refine takeH 34 (.bool true) rfl (by kernel_rfl) (by kernel_rfl) (by kernel_rfl) (fun _ _ _ h => h) (by rfl) (fun w hSw => by go_simp) q4 ?_
    simp only [Act.put, List.setIfInBounds_toArray, List.set_cons_succ, List.set_cons_zero]
    refine takeH 35 (.bool true) rfl (by kernel_rfl) (by kernel_rfl) (by kernel_rfl) (fun _ _ _ h => h) (by rfl) (fun w hSw => by go_simp) q4 ?_
    simp only [Act.put, List.setIfInBounds_toArray, List.set_cons_succ, List.set_cons_zero]
    refine takeH 36 (.bool true) rfl (by kernel_rfl) (by kernel_rfl) (by kernel_rfl) (fun _ _ _ h => h) (by rfl) (fun w hSw => by go_simp) q4 ?_
    simp only [Act.put, List.setIfInBounds_toArray, List.set_cons_succ, List.set_cons_zero]
    refine takeH 37 (.string (S p)) rfl (by kernel_rfl) (by kernel_rfl) (by kernel_rfl) (fun _ _ _ h => h) (by rfl) (fun w hSw => by go_simp) q4 ?_
    simp only [Act.put, List.setIfInBounds_toArray, List.set_cons_succ, List.set_cons_zero]
    refine takeH 38 (.string (S q)) rfl (by kernel_rfl) (by kernel_rfl) (by kernel_rfl) (fun _ _ _ h => h) (by rfl) (fun w hSw => by go_simp) q4 ?_
    simp only [Act.put, List.setIfInBounds_toArray, List.set_cons_succ, List.set_cons_zero]
    refine takeH 40 (.string (S j)) rfl (by kernel_rfl) (by kernel_rfl) (by kernel_rfl) (fun _ _ _ h => h) (by rfl) (fun w hSw => by go_simp) q4 ?_
    simp only [Act.put, List.setIfInBounds_toArray, List.set_cons_succ, List.set_cons_zero]
    refine callE 39 rfl (by kernel_rfl) (by rfl) 24 #[.string (S p), .string (S q)] (by go_simp) (fun vv W => vv = .string (S j) ∧ Kept [] w5 W) (fun _ _ h => h.2) ((hjo.out v4 q4).mono fun e w' h => ⟨_, h.1, rfl, h.2⟩) ?_
    rintro vv v5 ⟨rfl, q5⟩
    simp only [Act.put, List.setIfInBounds_toArray, List.set_cons_succ, List.set_cons_zero]
    refine takeH 41 (.bool true) rfl (by kernel_rfl) (by kernel_rfl) (by kernel_rfl) (fun _ _ _ h => h) (by rfl) (fun w hSw => by go_simp) q5 ?_
    simp only [Act.put, List.setIfInBounds_toArray, List.set_cons_succ, List.set_cons_zero]
    refine takeH 42 (.bool true) rfl (by kernel_rfl) (by kernel_rfl) (by kernel_rfl) (fun _ _ _ h => h) (by rfl) (fun w hSw => by go_simp) q5 ?_
    simp only [Act.put, List.setIfInBounds_toArray, List.set_cons_succ, List.set_cons_zero]
    refine takeH 43 (.bool true) rfl (by kernel_rfl) (by kernel_rfl) (by kernel_rfl) (fun _ _ _ h => h) (by rfl) (fun w hSw => by go_simp) q5 ?_
    simp only [Act.put, List.setIfInBounds_toArray, List.set_cons_succ, List.set_cons_zero]
    refine takeH 44 (.string (S p)) rfl (by kernel_rfl) (by kernel_rfl) (by kernel_rfl) (fun _ _ _ h => h) (by rfl) (fun w hSw => by go_simp) q5 ?_
    simp only [Act.put, List.setIfInBounds_toArray, List.set_cons_succ, List.set_cons_zero]
    refine takeH 45 (.string (S q)) rfl (by kernel_rfl) (by kernel_rfl) (by kernel_rfl) (fun _ _ _ h => h) (by rfl) (fun w hSw => by go_simp) q5 ?_
    simp only [Act.put, List.setIfInBounds_toArray, List.set_cons_succ, List.set_cons_zero]
    refine takeH 47 (.string (S p)) rfl (by kernel_rfl) (by kernel_rfl) (by kernel_rfl) (fun _ _ _ h => h) (by rfl) (fun w hSw => by go_simp) q5 ?_
    simp only [Act.put, List.setIfInBounds_toArray, List.set_cons_succ, List.set_cons_zero]
    refine takeH 48 (.string (S q)) rfl (by kernel_rfl) (by kernel_rfl) (by kernel_rfl) (fun _ _ _ h => h) (by rfl) (fun w hSw => by go_simp) q5 ?_
    simp only [Act.put, List.setIfInBounds_toArray, List.set_cons_succ, List.set_cons_zero]
    refine callE 46 rfl (by kernel_rfl) (by rfl) 25 #[.string (S p), .string (S q)] (by go_simp) (fun vv W => vv = .bool le ∧ Kept [] w5 W) (fun _ _ h => h.2) ((hle.out v5 q5).mono fun e w' h => ⟨_, h.1, rfl, h.2⟩) ?_
    rintro vv v6 ⟨rfl, q6⟩
    simp only [Act.put, List.setIfInBounds_toArray, List.set_cons_succ, List.set_cons_zero]
    refine callE 49 rfl (by kernel_rfl) (by rfl) 26 #[.string (S p), .string (S q)] (by go_simp) (fun vv W => vv = .bool le ∧ Kept [] w5 W) (fun _ _ h => h.2) ((hrl.out v6 q6).mono fun e w' h => ⟨_, h.1, rfl, h.2⟩) ?_
    rintro vv v7 ⟨rfl, q7⟩
    simp only [Act.put, List.setIfInBounds_toArray, List.set_cons_succ, List.set_cons_zero]
    refine takeH 50 (.bool true) rfl (by kernel_rfl) (by kernel_rfl) (by kernel_rfl) (fun _ _ _ h => h) (by rfl) (fun w hSw => by go_simp) q7 ?_
    simp only [Act.put, List.setIfInBounds_toArray, List.set_cons_succ, List.set_cons_zero]
    refine takeH 51 (.bool true) rfl (by kernel_rfl) (by kernel_rfl) (by kernel_rfl) (fun _ _ _ h => h) (by rfl) (fun w hSw => by go_simp) q7 ?_
    simp only [Act.put, List.setIfInBounds_toArray, List.set_cons_succ, List.set_cons_zero]
    refine takeH 52 (.bool true) rfl (by kernel_rfl) (by kernel_rfl) (by kernel_rfl) (fun _ _ _ h => h) (by rfl) (fun w hSw => by go_simp) q7 ?_
    simp only [Act.put, List.setIfInBounds_toArray, List.set_cons_succ, List.set_cons_zero]
    refine takeH 53 (.string (S p)) rfl (by kernel_rfl) (by kernel_rfl) (by kernel_rfl) (fun _ _ _ h => h) (by rfl) (fun w hSw => by go_simp) q7 ?_
    simp only [Act.put, List.setIfInBounds_toArray, List.set_cons_succ, List.set_cons_zero]
    refine takeH 54 (.string (S q)) rfl (by kernel_rfl) (by kernel_rfl) (by kernel_rfl) (fun _ _ _ h => h) (by rfl) (fun w hSw => by go_simp) q7 ?_
    simp only [Act.put, List.setIfInBounds_toArray, List.set_cons_succ, List.set_cons_zero]
    refine takeH 56 (.string (S p)) rfl (by kernel_rfl) (by kernel_rfl) (by kernel_rfl) (fun _ _ _ h => h) (by rfl) (fun w hSw => by go_simp) q7 ?_
    simp only [Act.put, List.setIfInBounds_toArray, List.set_cons_succ, List.set_cons_zero]
    refine takeH 57 (.string (S q)) rfl (by kernel_rfl) (by kernel_rfl) (by kernel_rfl) (fun _ _ _ h => h) (by rfl) (fun w hSw => by go_simp) q7 ?_
    simp only [Act.put, List.setIfInBounds_toArray, List.set_cons_succ, List.set_cons_zero]
    refine callE 55 rfl (by kernel_rfl) (by rfl) 27 #[.string (S p), .string (S q)] (by go_simp) (fun vv W => vv = .bool wi ∧ Kept [] w5 W) (fun _ _ h => h.2) ((hwi.out v7 q7).mono fun e w' h => ⟨_, h.1, rfl, h.2⟩) ?_
    rintro vv v8 ⟨rfl, q8⟩
    simp only [Act.put, List.setIfInBounds_toArray, List.set_cons_succ, List.set_cons_zero]
    refine callE 58 rfl (by kernel_rfl) (by rfl) 28 #[.string (S p), .string (S q)] (by go_simp) (fun vv W => vv = .bool wi ∧ Kept [] w5 W) (fun _ _ h => h.2) ((hrw.out v8 q8).mono fun e w' h => ⟨_, h.1, rfl, h.2⟩) ?_
    rintro vv v9 ⟨rfl, q9⟩
    simp only [Act.put, List.setIfInBounds_toArray, List.set_cons_succ, List.set_cons_zero]
    refine takeH 59 (.bool true) rfl (by kernel_rfl) (by kernel_rfl) (by kernel_rfl) (fun _ _ _ h => h) (by rfl) (fun w hSw => by go_simp) q9 ?_
    simp only [Act.put, List.setIfInBounds_toArray, List.set_cons_succ, List.set_cons_zero]
    refine takeH 60 (.bool true) rfl (by kernel_rfl) (by kernel_rfl) (by kernel_rfl) (fun _ _ _ h => h) (by rfl) (fun w hSw => by go_simp) q9 ?_
    simp only [Act.put, List.setIfInBounds_toArray, List.set_cons_succ, List.set_cons_zero]
    refine takeH 61 (.bool true) rfl (by kernel_rfl) (by kernel_rfl) (by kernel_rfl) (fun _ _ _ h => h) (by rfl) (fun w hSw => by go_simp) q9 ?_
    simp only [Act.put, List.setIfInBounds_toArray, List.set_cons_succ, List.set_cons_zero]
    refine takeH 62 (.string (S p)) rfl (by kernel_rfl) (by kernel_rfl) (by kernel_rfl) (fun _ _ _ h => h) (by rfl) (fun w hSw => by go_simp) q9 ?_
    simp only [Act.put, List.setIfInBounds_toArray, List.set_cons_succ, List.set_cons_zero]
    refine takeH 64 (.slice (some ⟨gl, 0, none⟩) N lc) rfl (by kernel_rfl) (by kernel_rfl) (by kernel_rfl) (fun _ _ _ h => h) (by rfl) (fun w hSw => by go_simp) q9 ?_
    simp only [Act.put, List.setIfInBounds_toArray, List.set_cons_succ, List.set_cons_zero]
    refine callE 63 rfl (by kernel_rfl) (by rfl) 30 #[.string (S p), .int .i64 1000] (by go_simp) (fun vv W => ∃ av cc, vv = .slice av N cc ∧ Kept [] w5 W ∧ TR W av (L)) (fun _ _ ⟨_, _, _, h, _⟩ => h) ((hp1.out w5 v9 q9).mono fun e w' ⟨av, cc, h1, h2, h3⟩ => ⟨_, h1, av, cc, rfl, h2, h3⟩) ?_
    rintro vv v10 ⟨a1, c1, rfl, q10, t10⟩
    simp only [Act.put, List.setIfInBounds_toArray, List.set_cons_succ, List.set_cons_zero]
    refine callE 65 rfl (by kernel_rfl) (by rfl) 29 #[.slice a1 N c1, .slice (some ⟨gl, 0, none⟩) N lc] (by go_simp) (fun vv W => vv = .bool true ∧ Kept [] w5 W) (fun _ _ h => h.2) ((hs1.out v10 a1 c1 q10 t10).mono fun e w' h => ⟨_, h.1, rfl, h.2⟩) ?_
    rintro vv v11 ⟨rfl, q11⟩
    simp only [Act.put, List.setIfInBounds_toArray, List.set_cons_succ, List.set_cons_zero]
    refine takeH 66 (.bool true) rfl (by kernel_rfl) (by kernel_rfl) (by kernel_rfl) (fun _ _ _ h => h) (by rfl) (fun w hSw => by go_simp) q11 ?_
    simp only [Act.put, List.setIfInBounds_toArray, List.set_cons_succ, List.set_cons_zero]
    refine takeH 67 (.bool true) rfl (by kernel_rfl) (by kernel_rfl) (by kernel_rfl) (fun _ _ _ h => h) (by rfl) (fun w hSw => by go_simp) q11 ?_
    simp only [Act.put, List.setIfInBounds_toArray, List.set_cons_succ, List.set_cons_zero]
    refine takeH 68 (.string (S p)) rfl (by kernel_rfl) (by kernel_rfl) (by kernel_rfl) (fun _ _ _ h => h) (by rfl) (fun w hSw => by go_simp) q11 ?_
    simp only [Act.put, List.setIfInBounds_toArray, List.set_cons_succ, List.set_cons_zero]
    refine takeH 69 (.int .i64 most) rfl (by kernel_rfl) (by kernel_rfl) (by kernel_rfl) (fun _ _ _ h => h) (by rfl) (fun w hSw => by go_simp) q11 ?_
    simp only [Act.put, List.setIfInBounds_toArray, List.set_cons_succ, List.set_cons_zero]
    refine takeH 70 (.int .i64 (M : Int)) rfl (by kernel_rfl) (by kernel_rfl) (by kernel_rfl) (fun _ _ _ h => h) (by rfl) (fun w hSw => by go_simp) q11 ?_
    simp only [Act.put, List.setIfInBounds_toArray, List.set_cons_succ, List.set_cons_zero]
    refine takeH 72 (.slice (some ⟨gl, 0, none⟩) N lc) rfl (by kernel_rfl) (by kernel_rfl) (by kernel_rfl) (fun _ _ _ h => h) (by rfl) (fun w hSw => by go_simp) q11 ?_
    simp only [Act.put, List.setIfInBounds_toArray, List.set_cons_succ, List.set_cons_zero]
    refine takeH 73 (.int .i64 (n : Int)) rfl (by kernel_rfl) (by kernel_rfl) (by kernel_rfl) (fun _ _ _ h => h) (by rfl) (fun w hSw => by go_simp) q11 ?_
    simp only [Act.put, List.setIfInBounds_toArray, List.set_cons_succ, List.set_cons_zero]
    refine takeH 74 (.slice (some ⟨gl, 0, none⟩) n lc) rfl (by kernel_rfl) (by kernel_rfl) (by kernel_rfl) (fun _ _ _ h => h) (by rfl) (fun w hSw => by go_simp) q11 ?_
    simp only [Act.put, List.setIfInBounds_toArray, List.set_cons_succ, List.set_cons_zero]
    refine callE 71 rfl (by kernel_rfl) (by rfl) 30 #[.string (S p), .int .i64 (M : Int)] (by go_simp) (fun vv W => ∃ av cc, vv = .slice av n cc ∧ Kept [] w5 W ∧ TR W av (L.take M)) (fun _ _ ⟨_, _, _, h, _⟩ => h) ((hp2.out w5 v11 q11).mono fun e w' ⟨av, cc, h1, h2, h3⟩ => ⟨_, h1, av, cc, rfl, h2, h3⟩) ?_
    rintro vv v12 ⟨a2, c2, rfl, q12, t12⟩
    simp only [Act.put, List.setIfInBounds_toArray, List.set_cons_succ, List.set_cons_zero]
    refine callE 75 rfl (by kernel_rfl) (by rfl) 29 #[.slice a2 n c2, .slice (some ⟨gl, 0, none⟩) n lc] (by go_simp) (fun vv W => vv = .bool true ∧ Kept [] w5 W) (fun _ _ h => h.2) ((hs2.out v12 a2 c2 q12 t12).mono fun e w' h => ⟨_, h.1, rfl, h.2⟩) ?_
    rintro vv v13 ⟨rfl, q13⟩
    simp only [Act.put, List.setIfInBounds_toArray, List.set_cons_succ, List.set_cons_zero]
    refine takeH 76 (.bool true) rfl (by kernel_rfl) (by kernel_rfl) (by kernel_rfl) (fun _ _ _ h => h) (by rfl) (fun w hSw => by go_simp) q13 ?_
    simp only [Act.put, List.setIfInBounds_toArray, List.set_cons_succ, List.set_cons_zero]
    refine takeH 77 (.bool true) rfl (by kernel_rfl) (by kernel_rfl) (by kernel_rfl) (fun _ _ _ h => h) (by rfl) (fun w hSw => by go_simp) q13 ?_
    simp only [Act.put, List.setIfInBounds_toArray, List.set_cons_succ, List.set_cons_zero]
    refine wpAnyH_done (by kernel_rfl) ?_ _
    go_wp2
    go_ret
    exact ⟨rfl, K5.out.trans q13⟩
end Go.Proofs.Ytignphegdigalaa
