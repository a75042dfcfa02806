/- coldstorelaw03.ShaSums, walked. -/
import Derived.Test.YtieaolnnlfaagaaDoorK1
import Derived.Test.YtieaolnnlfaagaaDoorK4
import Derived.Test.YtieaolnnlfaagaaDoorK5
import Derived.Test.YtieaolnnlfaagaaDoorK6
import Derived.Test.YtieaolnnlfaagaaDoorHC
namespace Go.Proofs.YtieaolnnlfaagaaDoor
open Go.RowKit

theorem range_of {w v : World} (hk : Kept [] w v) {g : Nat} {cs : Array Value} {t : TypeId} (h : w.heap[g]? = some (.cells cs t (0, 0))) : v.rangeAt g 0 cs.toList := fun j u hj => by
  rw [Nat.zero_add, cell_of_row v _ _ _ _ _ (hk.at h (by simp))]
  simpa using hj

set_option maxRecDepth 100000 in
set_option maxHeartbeats 4000000 in
theorem sha_sums (a : Option Addr) (c : Nat) (ys bs x y : List UInt8) (w : World) (ht : Tabs w) (hr : Reads w a ys) (hc : ys.length ≤ c) (hc2 : c ≤ 9223372036854775807) (hn : a = none → c = 0) (hx : x.length = 32) (hy : y.length = 32) :
    Calls Tryd.prog 3 #[.slice a ys.length c, .string ⟨bs.toArray⟩, .agg (x.map B).toArray, .agg (y.map B).toArray] w fun e w' => e = .returned (.bool true) ∧ Kept [] w w' := by
  have hsb : (⟨bs.toArray⟩ : ByteArray).size = bs.length := by simp [ByteArray.size]
  obtain ⟨X, hX⟩ : ∃ X, X = (x.map B).toArray := ⟨_, rfl⟩
  obtain ⟨Y, hY⟩ : ∃ Y, Y = (y.map B).toArray := ⟨_, rfl⟩
  have hXs : X.size = 32 := by rw [hX]; simp [hx]
  have hYs : Y.size = 32 := by rw [hY]; simp [hy]
  have Ht := hid ht; have Hr := hid hr; have Hn := hid hn
  have hal := hid (fun W (hk : Kept [] w W) => alive03 W (Ht.out.kept hk (by simp) (by simp)))
  have HX := hid hX; have HY := hid hY
  rw [← hX, ← hY]
  clear ht hr hn hX hY
  by_cases hl : ys.length ≤ 300 ∧ bs.length ≤ 100
  case neg =>
    by_cases h1 : ys.length ≤ 300
    · have h2 : 100 < bs.length := by omega
      clear hl
      go_enter Tryd.func3, Tryd.ntmps3
      go_wp2_with fail
      refine (hal.out _ (((Kept.refl [] w).alloc _).alloc _)).mono ?_
      rintro e w1 ⟨rfl, hk1⟩
      have Hk1 := hid ((((Kept.refl [] w).alloc _).alloc _).trans hk1)
      clear hk1
      go_wp2
      go_ret
      exact ⟨rfl, Hk1.out⟩
    · have h2 : 300 < ys.length := by omega
      clear hl h1
      go_enter Tryd.func3, Tryd.ntmps3
      go_wp2_with fail
      refine (hal.out _ (((Kept.refl [] w).alloc _).alloc _)).mono ?_
      rintro e w1 ⟨rfl, hk1⟩
      have Hk1 := hid ((((Kept.refl [] w).alloc _).alloc _).trans hk1)
      clear hk1
      go_wp2
      go_ret
      exact ⟨rfl, Hk1.out⟩
  obtain ⟨hl1, hl2⟩ := hl
  obtain ⟨P, hP⟩ : ∃ P, P = ((parsedL bs).map B).toArray := ⟨_, rfl⟩
  have hpl : (parsedL bs).length = 32 := by unfold parsedL; split <;> simp [unhex_len]
  have hPs : P.size = 32 := by rw [hP]; simp [hpl]
  have hpa := hid (fun W => parse_any bs (by omega) W)
  have hrp := hid (fun W => refparse_any bs (by omega) W)
  rw [← hP] at hpa hrp
  have HP := hid hP
  have hszP0 := hid (show (Tryd.prog.info? 24).map (·.size) = some P.size by rw [hPs]; exact info_id)
  have hold := hid (show ((List.replicate 32 (0 : UInt8)).map B).toArray.size = P.size by rw [hPs]; simp)
  have hone := hid (show P.all (·.oneCell') = true by
    rw [hP, Array.all_eq_true_iff_forall_mem]
    intro u hu
    exact B_one (parsedL bs) u (by simpa using hu))
  clear hP
  go_enter Tryd.func3, Tryd.ntmps3
  go_wp2_with fail
  have hb6 := hid (show ((w.alloc (.cells X 24)).alloc (.cells Y 24)).heap[w.heap.size]? = some (.cells X 24 (0, 0)) from heap_alloc_old (heap_alloc_at rfl))
  have hb7 := hid (show ((w.alloc (.cells X 24)).alloc (.cells Y 24)).heap[w.heap.size + 1]? = some (.cells Y 24 (0, 0)) from heap_alloc_at (by simp))
  refine (hal.out _ (((Kept.refl [] w).alloc _).alloc _)).mono ?_
  rintro e w1 ⟨rfl, hk1⟩
  have Hk1 := hid ((((Kept.refl [] w).alloc (.cells X 24)).alloc (.cells Y 24)).trans hk1)
  have h6 := hid (hk1.at hb6.out (by simp))
  have h7 := hid (hk1.at hb7.out (by simp))
  clear hk1 hb6 hb7 hal
  go_wp2_with fail
  refine (hpa.out _).mono ?_
  rintro e w2 ⟨rfl, hk2⟩
  have Hk2 := hid (Hk1.out.trans hk2)
  have h6' := hid (hk2.at h6.out (by simp))
  have h7' := hid (hk2.at h7.out (by simp))
  clear hk2 h6 h7 Hk1 hpa
  go_wp2_with (refine wpList_store_row rfl 24 (.tmp 9) (.tmp 26) rfl w2.heap.size P rfl rfl _ _ (heap_alloc_at rfl) hszP0.out hold.out hone.out ?_)
  rw [World.setRow_alloc_new]
  refine (hrp.out _).mono ?_
  rintro e w3 ⟨rfl, hk3⟩
  have Hk3 := hid ((Hk2.out.alloc (.cells P 24)).trans hk3)
  have h6 := hid (hk3.at (heap_alloc_old h6'.out) (by simp))
  have h7 := hid (hk3.at (heap_alloc_old h7'.out) (by simp))
  have h9 := hid (hk3.at (heap_alloc_at (w := w2) (o := .cells P 24) (k := w2.heap.size) rfl) (by simp))
  obtain ⟨p9, hp9⟩ : ∃ p, p = w2.heap.size := ⟨_, rfl⟩
  rw [← hp9] at h9 ⊢
  clear hk3 h6' h7' Hk2 hrp hp9
  go_wp2_with (refine wpList_store_row rfl 24 (.tmp 11) (.tmp 31) rfl w3.heap.size P rfl rfl _ _ (heap_alloc_at rfl) hszP0.out hold.out hone.out ?_)
  rw [World.setRow_alloc_new]
  obtain ⟨wb, hwb⟩ : ∃ W, W = w3.alloc (.cells P 24) := ⟨_, rfl⟩
  have Hkb := hid (show Kept [] w wb by rw [hwb]; exact Hk3.out.alloc _)
  have hX6 := hid (fun v (h : Kept [] wb v) => range_of h (show wb.heap[w.heap.size]? = some (.cells X 24 (0, 0)) by rw [hwb]; exact heap_alloc_old h6.out))
  have hY7 := hid (fun v (h : Kept [] wb v) => range_of h (show wb.heap[w.heap.size + 1]? = some (.cells Y 24 (0, 0)) by rw [hwb]; exact heap_alloc_old h7.out))
  have hP9 := hid (fun v (h : Kept [] wb v) => range_of h (show wb.heap[p9]? = some (.cells P 24 (0, 0)) by rw [hwb]; exact heap_alloc_old h9.out))
  have hP11 := hid (fun v (h : Kept [] wb v) => range_of h (show wb.heap[w3.heap.size]? = some (.cells P 24 (0, 0)) by rw [hwb]; exact heap_alloc_at rfl))
  obtain ⟨p11, hp11⟩ : ∃ p, p = w3.heap.size := ⟨_, rfl⟩
  obtain ⟨p6, hp6⟩ : ∃ p, p = w.heap.size := ⟨_, rfl⟩
  obtain ⟨p7, hp7⟩ : ∃ p, p = w.heap.size + 1 := ⟨_, rfl⟩
  rw [← hwb, ← hp11, ← hp7, ← hp6]
  rw [← hp11] at hP11; rw [← hp7] at hY7; rw [← hp6] at hX6
  have hszX := (show (Tryd.prog.info? 24).map (·.size) = some X.toList.length by rw [Array.length_toList, hXs]; exact info_id)
  have hszY := (show (Tryd.prog.info? 24).map (·.size) = some Y.toList.length by rw [Array.length_toList, hYs]; exact info_id)
  have hszP := (show (Tryd.prog.info? 24).map (·.size) = some P.toList.length by rw [Array.length_toList, hPs]; exact info_id)
  obtain ⟨σ, hσ⟩ : ∃ σ, σ = ((Sha.sum ys).map B).toArray := ⟨_, rfl⟩
  obtain ⟨ls, hls⟩ : ∃ l, l = lessL x y := ⟨_, rfl⟩
  obtain ⟨tx, htx⟩ : ∃ s : ByteArray, s = ⟨(hexOf x).toArray⟩ := ⟨_, rfl⟩
  have kk : ∀ {f : FuncId} {args : Array Value} {val : Value} {v : World}, Kept [] wb v → (Calls Tryd.prog f args v fun e w' => e = .returned val ∧ Kept [] v w') → Calls Tryd.prog f args v fun e w' => e = .returned val ∧ Kept [] wb w' := fun h hc => hc.mono fun _ _ h' => ⟨h'.1, h.trans h'.2⟩
  have cOf := hid (fun v (h : Kept [] wb v) => kk h (show Calls Tryd.prog 7 #[.slice a ys.length c] v fun e w' => e = .returned (.agg σ) ∧ Kept [] v w' by rw [hσ]; exact of_any a c ys v (Ht.out.kept (Hkb.out.trans h) (by simp) (by simp)) (Hr.out.kept (Hkb.out.trans h) (by simp)) hc hc2 (by omega)))
  have cRof := hid (fun v (h : Kept [] wb v) => kk h (show Calls Tryd.prog 8 #[.slice a ys.length c] v fun e w' => e = .returned (.agg σ) ∧ Kept [] v w' by rw [hσ]; exact refof_any a c ys v (Hr.out.kept (Hkb.out.trans h) (by simp)) Hn.out (by omega) (fun s b gh ch gk ck gb ob cb w h1 h2 h3 h4 => refmix_any s b gh ch gk ck gb ob cb w h1 h2 h3 h4)))
  have cLs := hid (fun v (h : Kept [] wb v) => kk h (show Calls Tryd.prog 9 #[.agg X, .agg Y] v fun e w' => e = .returned (.bool ls) ∧ Kept [] v w' by rw [HX.out, HY.out, hls]; exact less_any x y hx hy v))
  have cRls := hid (fun v (h : Kept [] wb v) => kk h (show Calls Tryd.prog 10 #[.agg X, .agg Y] v fun e w' => e = .returned (.bool ls) ∧ Kept [] v w' by rw [HX.out, HY.out, hls]; exact refless_any x y hx hy v))
  have cTx := hid (fun v (h : Kept [] wb v) => kk h (show Calls Tryd.prog 11 #[.agg X] v fun e w' => e = .returned (.string tx) ∧ Kept [] v w' by rw [HX.out, htx]; exact text_any x hx v))
  have cRtx := hid (fun v (h : Kept [] wb v) => kk h (show Calls Tryd.prog 12 #[.agg X] v fun e w' => e = .returned (.string tx) ∧ Kept [] v w' by rw [HX.out, htx]; exact reftext_any x hx v))
  have heq1 := fun W => id_equal (Sha.sum ys) (Sha.sum ys) (Sha.sum_len _) (Sha.sum_len _) W
  have heq2 := fun W => id_equal (parsedL bs) (parsedL bs) hpl hpl W
  rw [← hσ] at heq1
  rw [← HP.out] at heq2
  simp only [decide_true] at heq1 heq2
  have hE : (okHex bs = true ∧ parsedE bs = 0) ∨ (okHex bs = false ∧ parsedE bs = 21) := by
    unfold parsedE
    cases okHex bs <;> simp
  clear hwb hp11 hp6 hp7 hσ hls htx Hk3 h6 h7 h9 hszP0 hold hone hpl
  rcases hE with ⟨e1, e2⟩ | ⟨e1, e2⟩
  · rw [e1, e2]
    clear e1 e2
    go_wp2_with fail
    refine wp_region_held_drew (S := Kept [] wb) (by kernel_rfl) (Kept.of_drew [] wb) (fun hH => ?_)
    refine takeH 0 (.slice a ys.length c) rfl (by kernel_rfl) (by kernel_rfl) (by kernel_rfl) (fun _ _ _ h => h) (by rfl) (fun w hSw => by go_simp) hH ?_
    simp only [Act.put, List.setIfInBounds_toArray, List.set_cons_succ, List.set_cons_zero]
    refine takeH 2 (.slice a ys.length c) rfl (by kernel_rfl) (by kernel_rfl) (by kernel_rfl) (fun _ _ _ h => h) (by rfl) (fun w hSw => by go_simp) hH ?_
    simp only [Act.put, List.setIfInBounds_toArray, List.set_cons_succ, List.set_cons_zero]
    refine callH 1 rfl (by kernel_rfl) (by rfl) 7 #[.slice a ys.length c] (by go_simp) (.agg σ) hH (cOf.out _) ?_
    clear hH
    intro vv hH
    simp only [Act.put, List.setIfInBounds_toArray, List.set_cons_succ, List.set_cons_zero]
    refine callH 3 rfl (by kernel_rfl) (by rfl) 8 #[.slice a ys.length c] (by go_simp) (.agg σ) hH (cRof.out _) ?_
    clear hH
    intro vv hH
    simp only [Act.put, List.setIfInBounds_toArray, List.set_cons_succ, List.set_cons_zero]
    refine takeH 4 (.bool true) rfl (by kernel_rfl) (by kernel_rfl) (by kernel_rfl) (fun _ _ _ h => h) (by rfl) (fun w hSw => by go_simp) hH ?_
    simp only [Act.put, List.setIfInBounds_toArray, List.set_cons_succ, List.set_cons_zero]
    refine takeH 5 (.bool true) rfl (by kernel_rfl) (by kernel_rfl) (by kernel_rfl) (fun _ _ _ h => h) (by rfl) (fun w hSw => by go_simp) hH ?_
    simp only [Act.put, List.setIfInBounds_toArray, List.set_cons_succ, List.set_cons_zero]
    refine loadH 6 (P.toList) rfl (by kernel_rfl) (by kernel_rfl) (by kernel_rfl) (fun _ _ _ h => h) (by rfl) 24 (.tmp 9) rfl (p9) 0 rfl _ (fun v h => hP9.out v h) Tryd.underlying24 rfl hszP hH ?_
    simp only [Act.put, List.setIfInBounds_toArray, List.set_cons_succ, List.set_cons_zero]
    refine loadH 7 (P.toList) rfl (by kernel_rfl) (by kernel_rfl) (by kernel_rfl) (fun _ _ _ h => h) (by rfl) 24 (.tmp 11) rfl (p11) 0 rfl _ (fun v h => hP11.out v h) Tryd.underlying24 rfl hszP hH ?_
    simp only [Act.put, List.setIfInBounds_toArray, List.set_cons_succ, List.set_cons_zero]
    simp only [Array.toArray_toList]
    refine takeH 8 (.bool true) rfl (by kernel_rfl) (by kernel_rfl) (by kernel_rfl) (fun _ _ _ h => h) (by rfl) (fun w hSw => by go_simp) hH ?_
    simp only [Act.put, List.setIfInBounds_toArray, List.set_cons_succ, List.set_cons_zero]
    refine takeH 9 (.bool true) rfl (by kernel_rfl) (by kernel_rfl) (by kernel_rfl) (fun _ _ _ h => h) (by rfl) (fun w hSw => by go_simp) hH ?_
    simp only [Act.put, List.setIfInBounds_toArray, List.set_cons_succ, List.set_cons_zero]
    refine takeH 10 (.bool true) rfl (by kernel_rfl) (by kernel_rfl) (by kernel_rfl) (fun _ _ _ h => h) (by rfl) (fun w hSw => by go_simp) hH ?_
    simp only [Act.put, List.setIfInBounds_toArray, List.set_cons_succ, List.set_cons_zero]
    refine takeH 11 (.int .i64 0) rfl (by kernel_rfl) (by kernel_rfl) (by kernel_rfl) (fun _ _ _ h => h) (by rfl) (fun w hSw => by go_simp) hH ?_
    simp only [Act.put, List.setIfInBounds_toArray, List.set_cons_succ, List.set_cons_zero]
    refine takeH 12 (.bool true) rfl (by kernel_rfl) (by kernel_rfl) (by kernel_rfl) (fun _ _ _ h => h) (by rfl) (fun w hSw => by go_simp) hH ?_
    simp only [Act.put, List.setIfInBounds_toArray, List.set_cons_succ, List.set_cons_zero]
    refine takeH 13 (.bool true) rfl (by kernel_rfl) (by kernel_rfl) (by kernel_rfl) (fun _ _ _ h => h) (by rfl) (fun w hSw => by go_simp) hH ?_
    simp only [Act.put, List.setIfInBounds_toArray, List.set_cons_succ, List.set_cons_zero]
    refine takeH 14 (.bool true) rfl (by kernel_rfl) (by kernel_rfl) (by kernel_rfl) (fun _ _ _ h => h) (by rfl) (fun w hSw => by go_simp) hH ?_
    simp only [Act.put, List.setIfInBounds_toArray, List.set_cons_succ, List.set_cons_zero]
    refine takeH 15 (.bool true) rfl (by kernel_rfl) (by kernel_rfl) (by kernel_rfl) (fun _ _ _ h => h) (by rfl) (fun w hSw => by go_simp) hH ?_
    simp only [Act.put, List.setIfInBounds_toArray, List.set_cons_succ, List.set_cons_zero]
    refine takeH 16 (.bool true) rfl (by kernel_rfl) (by kernel_rfl) (by kernel_rfl) (fun _ _ _ h => h) (by rfl) (fun w hSw => by go_simp) hH ?_
    simp only [Act.put, List.setIfInBounds_toArray, List.set_cons_succ, List.set_cons_zero]
    refine takeH 17 (.bool true) rfl (by kernel_rfl) (by kernel_rfl) (by kernel_rfl) (fun _ _ _ h => h) (by rfl) (fun w hSw => by go_simp) hH ?_
    simp only [Act.put, List.setIfInBounds_toArray, List.set_cons_succ, List.set_cons_zero]
    refine takeH 18 (.bool true) rfl (by kernel_rfl) (by kernel_rfl) (by kernel_rfl) (fun _ _ _ h => h) (by rfl) (fun w hSw => by go_simp) hH ?_
    simp only [Act.put, List.setIfInBounds_toArray, List.set_cons_succ, List.set_cons_zero]
    refine skipH 19 rfl (by kernel_rfl) (by kernel_rfl) (by kernel_rfl) (fun _ _ _ h => h) (by rfl) hH ?_
    simp only [Act.put, List.setIfInBounds_toArray, List.set_cons_succ, List.set_cons_zero]
    refine skipH 20 rfl (by kernel_rfl) (by kernel_rfl) (by kernel_rfl) (fun _ _ _ h => h) (by rfl) hH ?_
    simp only [Act.put, List.setIfInBounds_toArray, List.set_cons_succ, List.set_cons_zero]
    refine takeH 21 (.bool true) rfl (by kernel_rfl) (by kernel_rfl) (by kernel_rfl) (fun _ _ _ h => h) (by rfl) (fun w hSw => by go_simp) hH ?_
    simp only [Act.put, List.setIfInBounds_toArray, List.set_cons_succ, List.set_cons_zero]
    refine takeH 22 (.bool true) rfl (by kernel_rfl) (by kernel_rfl) (by kernel_rfl) (fun _ _ _ h => h) (by rfl) (fun w hSw => by go_simp) hH ?_
    simp only [Act.put, List.setIfInBounds_toArray, List.set_cons_succ, List.set_cons_zero]
    refine takeH 23 (.bool true) rfl (by kernel_rfl) (by kernel_rfl) (by kernel_rfl) (fun _ _ _ h => h) (by rfl) (fun w hSw => by go_simp) hH ?_
    simp only [Act.put, List.setIfInBounds_toArray, List.set_cons_succ, List.set_cons_zero]
    refine loadH 24 (X.toList) rfl (by kernel_rfl) (by kernel_rfl) (by kernel_rfl) (fun _ _ _ h => h) (by rfl) 24 (.tmp 6) rfl (p6) 0 rfl _ (fun v h => hX6.out v h) Tryd.underlying24 rfl hszX hH ?_
    simp only [Act.put, List.setIfInBounds_toArray, List.set_cons_succ, List.set_cons_zero]
    refine loadH 25 (Y.toList) rfl (by kernel_rfl) (by kernel_rfl) (by kernel_rfl) (fun _ _ _ h => h) (by rfl) 24 (.tmp 7) rfl (p7) 0 rfl _ (fun v h => hY7.out v h) Tryd.underlying24 rfl hszY hH ?_
    simp only [Act.put, List.setIfInBounds_toArray, List.set_cons_succ, List.set_cons_zero]
    refine loadH 27 (X.toList) rfl (by kernel_rfl) (by kernel_rfl) (by kernel_rfl) (fun _ _ _ h => h) (by rfl) 24 (.tmp 6) rfl (p6) 0 rfl _ (fun v h => hX6.out v h) Tryd.underlying24 rfl hszX hH ?_
    simp only [Act.put, List.setIfInBounds_toArray, List.set_cons_succ, List.set_cons_zero]
    refine loadH 28 (Y.toList) rfl (by kernel_rfl) (by kernel_rfl) (by kernel_rfl) (fun _ _ _ h => h) (by rfl) 24 (.tmp 7) rfl (p7) 0 rfl _ (fun v h => hY7.out v h) Tryd.underlying24 rfl hszY hH ?_
    simp only [Act.put, List.setIfInBounds_toArray, List.set_cons_succ, List.set_cons_zero]
    simp only [Array.toArray_toList]
    refine callH 26 rfl (by kernel_rfl) (by rfl) 9 #[.agg X, .agg Y] (by go_simp) (.bool ls) hH (cLs.out _) ?_
    clear hH
    intro vv hH
    simp only [Act.put, List.setIfInBounds_toArray, List.set_cons_succ, List.set_cons_zero]
    refine callH 29 rfl (by kernel_rfl) (by rfl) 10 #[.agg X, .agg Y] (by go_simp) (.bool ls) hH (cRls.out _) ?_
    clear hH
    intro vv hH
    simp only [Act.put, List.setIfInBounds_toArray, List.set_cons_succ, List.set_cons_zero]
    refine takeH 30 (.bool true) rfl (by kernel_rfl) (by kernel_rfl) (by kernel_rfl) (fun _ _ _ h => h) (by rfl) (fun w hSw => by go_simp) hH ?_
    simp only [Act.put, List.setIfInBounds_toArray, List.set_cons_succ, List.set_cons_zero]
    refine takeH 31 (.bool true) rfl (by kernel_rfl) (by kernel_rfl) (by kernel_rfl) (fun _ _ _ h => h) (by rfl) (fun w hSw => by go_simp) hH ?_
    simp only [Act.put, List.setIfInBounds_toArray, List.set_cons_succ, List.set_cons_zero]
    refine takeH 32 (.bool true) rfl (by kernel_rfl) (by kernel_rfl) (by kernel_rfl) (fun _ _ _ h => h) (by rfl) (fun w hSw => by go_simp) hH ?_
    simp only [Act.put, List.setIfInBounds_toArray, List.set_cons_succ, List.set_cons_zero]
    refine loadH 33 (X.toList) rfl (by kernel_rfl) (by kernel_rfl) (by kernel_rfl) (fun _ _ _ h => h) (by rfl) 24 (.tmp 6) rfl (p6) 0 rfl _ (fun v h => hX6.out v h) Tryd.underlying24 rfl hszX hH ?_
    simp only [Act.put, List.setIfInBounds_toArray, List.set_cons_succ, List.set_cons_zero]
    refine loadH 35 (X.toList) rfl (by kernel_rfl) (by kernel_rfl) (by kernel_rfl) (fun _ _ _ h => h) (by rfl) 24 (.tmp 6) rfl (p6) 0 rfl _ (fun v h => hX6.out v h) Tryd.underlying24 rfl hszX hH ?_
    simp only [Act.put, List.setIfInBounds_toArray, List.set_cons_succ, List.set_cons_zero]
    simp only [Array.toArray_toList]
    refine callH 34 rfl (by kernel_rfl) (by rfl) 11 #[.agg X] (by go_simp) (.string tx) hH (cTx.out _) ?_
    clear hH
    intro vv hH
    simp only [Act.put, List.setIfInBounds_toArray, List.set_cons_succ, List.set_cons_zero]
    refine callH 36 rfl (by kernel_rfl) (by rfl) 12 #[.agg X] (by go_simp) (.string tx) hH (cRtx.out _) ?_
    clear hH
    intro vv hH
    simp only [Act.put, List.setIfInBounds_toArray, List.set_cons_succ, List.set_cons_zero]
    refine takeH 37 (.bool true) rfl (by kernel_rfl) (by kernel_rfl) (by kernel_rfl) (fun _ _ _ h => h) (by rfl) (fun w hSw => by go_simp) hH ?_
    simp only [Act.put, List.setIfInBounds_toArray, List.set_cons_succ, List.set_cons_zero]
    refine takeH 38 (.bool true) rfl (by kernel_rfl) (by kernel_rfl) (by kernel_rfl) (fun _ _ _ h => h) (by rfl) (fun w hSw => by go_simp) hH ?_
    simp only [Act.put, List.setIfInBounds_toArray, List.set_cons_succ, List.set_cons_zero]
    refine takeH 39 (.bool true) rfl (by kernel_rfl) (by kernel_rfl) (by kernel_rfl) (fun _ _ _ h => h) (by rfl) (fun w hSw => by go_simp) hH ?_
    simp only [Act.put, List.setIfInBounds_toArray, List.set_cons_succ, List.set_cons_zero]
    refine wpAnyH_done (by kernel_rfl) ?_ _
    have hfin := hid (Hkb.out.trans hH)
    go_wp2_with fail
    go_ret
    exact ⟨rfl, hfin.out⟩
  · rw [e1, e2]
    clear e1 e2
    go_wp2_with fail
    refine wp_region_held_drew (S := Kept [] wb) (by kernel_rfl) (Kept.of_drew [] wb) (fun hH => ?_)
    refine takeH 0 (.slice a ys.length c) rfl (by kernel_rfl) (by kernel_rfl) (by kernel_rfl) (fun _ _ _ h => h) (by rfl) (fun w hSw => by go_simp) hH ?_
    simp only [Act.put, List.setIfInBounds_toArray, List.set_cons_succ, List.set_cons_zero]
    refine takeH 2 (.slice a ys.length c) rfl (by kernel_rfl) (by kernel_rfl) (by kernel_rfl) (fun _ _ _ h => h) (by rfl) (fun w hSw => by go_simp) hH ?_
    simp only [Act.put, List.setIfInBounds_toArray, List.set_cons_succ, List.set_cons_zero]
    refine callH 1 rfl (by kernel_rfl) (by rfl) 7 #[.slice a ys.length c] (by go_simp) (.agg σ) hH (cOf.out _) ?_
    clear hH
    intro vv hH
    simp only [Act.put, List.setIfInBounds_toArray, List.set_cons_succ, List.set_cons_zero]
    refine callH 3 rfl (by kernel_rfl) (by rfl) 8 #[.slice a ys.length c] (by go_simp) (.agg σ) hH (cRof.out _) ?_
    clear hH
    intro vv hH
    simp only [Act.put, List.setIfInBounds_toArray, List.set_cons_succ, List.set_cons_zero]
    refine takeH 4 (.bool true) rfl (by kernel_rfl) (by kernel_rfl) (by kernel_rfl) (fun _ _ _ h => h) (by rfl) (fun w hSw => by go_simp) hH ?_
    simp only [Act.put, List.setIfInBounds_toArray, List.set_cons_succ, List.set_cons_zero]
    refine takeH 5 (.bool true) rfl (by kernel_rfl) (by kernel_rfl) (by kernel_rfl) (fun _ _ _ h => h) (by rfl) (fun w hSw => by go_simp) hH ?_
    simp only [Act.put, List.setIfInBounds_toArray, List.set_cons_succ, List.set_cons_zero]
    refine loadH 6 (P.toList) rfl (by kernel_rfl) (by kernel_rfl) (by kernel_rfl) (fun _ _ _ h => h) (by rfl) 24 (.tmp 9) rfl (p9) 0 rfl _ (fun v h => hP9.out v h) Tryd.underlying24 rfl hszP hH ?_
    simp only [Act.put, List.setIfInBounds_toArray, List.set_cons_succ, List.set_cons_zero]
    refine loadH 7 (P.toList) rfl (by kernel_rfl) (by kernel_rfl) (by kernel_rfl) (fun _ _ _ h => h) (by rfl) 24 (.tmp 11) rfl (p11) 0 rfl _ (fun v h => hP11.out v h) Tryd.underlying24 rfl hszP hH ?_
    simp only [Act.put, List.setIfInBounds_toArray, List.set_cons_succ, List.set_cons_zero]
    simp only [Array.toArray_toList]
    refine takeH 8 (.bool true) rfl (by kernel_rfl) (by kernel_rfl) (by kernel_rfl) (fun _ _ _ h => h) (by rfl) (fun w hSw => by go_simp) hH ?_
    simp only [Act.put, List.setIfInBounds_toArray, List.set_cons_succ, List.set_cons_zero]
    refine takeH 9 (.bool true) rfl (by kernel_rfl) (by kernel_rfl) (by kernel_rfl) (fun _ _ _ h => h) (by rfl) (fun w hSw => by go_simp) hH ?_
    simp only [Act.put, List.setIfInBounds_toArray, List.set_cons_succ, List.set_cons_zero]
    refine takeH 10 (.bool true) rfl (by kernel_rfl) (by kernel_rfl) (by kernel_rfl) (fun _ _ _ h => h) (by rfl) (fun w hSw => by go_simp) hH ?_
    simp only [Act.put, List.setIfInBounds_toArray, List.set_cons_succ, List.set_cons_zero]
    refine takeH 11 (.int .i64 21) rfl (by kernel_rfl) (by kernel_rfl) (by kernel_rfl) (fun _ _ _ h => h) (by rfl) (fun w hSw => by go_simp) hH ?_
    simp only [Act.put, List.setIfInBounds_toArray, List.set_cons_succ, List.set_cons_zero]
    refine takeH 12 (.bool false) rfl (by kernel_rfl) (by kernel_rfl) (by kernel_rfl) (fun _ _ _ h => h) (by rfl) (fun w hSw => by go_simp) hH ?_
    simp only [Act.put, List.setIfInBounds_toArray, List.set_cons_succ, List.set_cons_zero]
    refine takeH 13 (.bool false) rfl (by kernel_rfl) (by kernel_rfl) (by kernel_rfl) (fun _ _ _ h => h) (by rfl) (fun w hSw => by go_simp) hH ?_
    simp only [Act.put, List.setIfInBounds_toArray, List.set_cons_succ, List.set_cons_zero]
    refine takeH 14 (.bool true) rfl (by kernel_rfl) (by kernel_rfl) (by kernel_rfl) (fun _ _ _ h => h) (by rfl) (fun w hSw => by go_simp) hH ?_
    simp only [Act.put, List.setIfInBounds_toArray, List.set_cons_succ, List.set_cons_zero]
    refine takeH 15 (.bool true) rfl (by kernel_rfl) (by kernel_rfl) (by kernel_rfl) (fun _ _ _ h => h) (by rfl) (fun w hSw => by go_simp) hH ?_
    simp only [Act.put, List.setIfInBounds_toArray, List.set_cons_succ, List.set_cons_zero]
    refine takeH 16 (.bool true) rfl (by kernel_rfl) (by kernel_rfl) (by kernel_rfl) (fun _ _ _ h => h) (by rfl) (fun w hSw => by go_simp) hH ?_
    simp only [Act.put, List.setIfInBounds_toArray, List.set_cons_succ, List.set_cons_zero]
    refine takeH 17 (.bool false) rfl (by kernel_rfl) (by kernel_rfl) (by kernel_rfl) (fun _ _ _ h => h) (by rfl) (fun w hSw => by go_simp) hH ?_
    simp only [Act.put, List.setIfInBounds_toArray, List.set_cons_succ, List.set_cons_zero]
    refine takeH 18 (.bool false) rfl (by kernel_rfl) (by kernel_rfl) (by kernel_rfl) (fun _ _ _ h => h) (by rfl) (fun w hSw => by go_simp) hH ?_
    simp only [Act.put, List.setIfInBounds_toArray, List.set_cons_succ, List.set_cons_zero]
    refine takeH 19 (.int .i64 21) rfl (by kernel_rfl) (by kernel_rfl) (by kernel_rfl) (fun _ _ _ h => h) (by rfl) (fun w hSw => by go_simp) hH ?_
    simp only [Act.put, List.setIfInBounds_toArray, List.set_cons_succ, List.set_cons_zero]
    refine takeH 20 (.bool true) rfl (by kernel_rfl) (by kernel_rfl) (by kernel_rfl) (fun _ _ _ h => h) (by rfl) (fun w hSw => by go_simp) hH ?_
    simp only [Act.put, List.setIfInBounds_toArray, List.set_cons_succ, List.set_cons_zero]
    refine takeH 21 (.bool true) rfl (by kernel_rfl) (by kernel_rfl) (by kernel_rfl) (fun _ _ _ h => h) (by rfl) (fun w hSw => by go_simp) hH ?_
    simp only [Act.put, List.setIfInBounds_toArray, List.set_cons_succ, List.set_cons_zero]
    refine takeH 22 (.bool true) rfl (by kernel_rfl) (by kernel_rfl) (by kernel_rfl) (fun _ _ _ h => h) (by rfl) (fun w hSw => by go_simp) hH ?_
    simp only [Act.put, List.setIfInBounds_toArray, List.set_cons_succ, List.set_cons_zero]
    refine takeH 23 (.bool true) rfl (by kernel_rfl) (by kernel_rfl) (by kernel_rfl) (fun _ _ _ h => h) (by rfl) (fun w hSw => by go_simp) hH ?_
    simp only [Act.put, List.setIfInBounds_toArray, List.set_cons_succ, List.set_cons_zero]
    refine loadH 24 (X.toList) rfl (by kernel_rfl) (by kernel_rfl) (by kernel_rfl) (fun _ _ _ h => h) (by rfl) 24 (.tmp 6) rfl (p6) 0 rfl _ (fun v h => hX6.out v h) Tryd.underlying24 rfl hszX hH ?_
    simp only [Act.put, List.setIfInBounds_toArray, List.set_cons_succ, List.set_cons_zero]
    refine loadH 25 (Y.toList) rfl (by kernel_rfl) (by kernel_rfl) (by kernel_rfl) (fun _ _ _ h => h) (by rfl) 24 (.tmp 7) rfl (p7) 0 rfl _ (fun v h => hY7.out v h) Tryd.underlying24 rfl hszY hH ?_
    simp only [Act.put, List.setIfInBounds_toArray, List.set_cons_succ, List.set_cons_zero]
    refine loadH 27 (X.toList) rfl (by kernel_rfl) (by kernel_rfl) (by kernel_rfl) (fun _ _ _ h => h) (by rfl) 24 (.tmp 6) rfl (p6) 0 rfl _ (fun v h => hX6.out v h) Tryd.underlying24 rfl hszX hH ?_
    simp only [Act.put, List.setIfInBounds_toArray, List.set_cons_succ, List.set_cons_zero]
    refine loadH 28 (Y.toList) rfl (by kernel_rfl) (by kernel_rfl) (by kernel_rfl) (fun _ _ _ h => h) (by rfl) 24 (.tmp 7) rfl (p7) 0 rfl _ (fun v h => hY7.out v h) Tryd.underlying24 rfl hszY hH ?_
    simp only [Act.put, List.setIfInBounds_toArray, List.set_cons_succ, List.set_cons_zero]
    simp only [Array.toArray_toList]
    refine callH 26 rfl (by kernel_rfl) (by rfl) 9 #[.agg X, .agg Y] (by go_simp) (.bool ls) hH (cLs.out _) ?_
    clear hH
    intro vv hH
    simp only [Act.put, List.setIfInBounds_toArray, List.set_cons_succ, List.set_cons_zero]
    refine callH 29 rfl (by kernel_rfl) (by rfl) 10 #[.agg X, .agg Y] (by go_simp) (.bool ls) hH (cRls.out _) ?_
    clear hH
    intro vv hH
    simp only [Act.put, List.setIfInBounds_toArray, List.set_cons_succ, List.set_cons_zero]
    refine takeH 30 (.bool true) rfl (by kernel_rfl) (by kernel_rfl) (by kernel_rfl) (fun _ _ _ h => h) (by rfl) (fun w hSw => by go_simp) hH ?_
    simp only [Act.put, List.setIfInBounds_toArray, List.set_cons_succ, List.set_cons_zero]
    refine takeH 31 (.bool true) rfl (by kernel_rfl) (by kernel_rfl) (by kernel_rfl) (fun _ _ _ h => h) (by rfl) (fun w hSw => by go_simp) hH ?_
    simp only [Act.put, List.setIfInBounds_toArray, List.set_cons_succ, List.set_cons_zero]
    refine takeH 32 (.bool true) rfl (by kernel_rfl) (by kernel_rfl) (by kernel_rfl) (fun _ _ _ h => h) (by rfl) (fun w hSw => by go_simp) hH ?_
    simp only [Act.put, List.setIfInBounds_toArray, List.set_cons_succ, List.set_cons_zero]
    refine loadH 33 (X.toList) rfl (by kernel_rfl) (by kernel_rfl) (by kernel_rfl) (fun _ _ _ h => h) (by rfl) 24 (.tmp 6) rfl (p6) 0 rfl _ (fun v h => hX6.out v h) Tryd.underlying24 rfl hszX hH ?_
    simp only [Act.put, List.setIfInBounds_toArray, List.set_cons_succ, List.set_cons_zero]
    refine loadH 35 (X.toList) rfl (by kernel_rfl) (by kernel_rfl) (by kernel_rfl) (fun _ _ _ h => h) (by rfl) 24 (.tmp 6) rfl (p6) 0 rfl _ (fun v h => hX6.out v h) Tryd.underlying24 rfl hszX hH ?_
    simp only [Act.put, List.setIfInBounds_toArray, List.set_cons_succ, List.set_cons_zero]
    simp only [Array.toArray_toList]
    refine callH 34 rfl (by kernel_rfl) (by rfl) 11 #[.agg X] (by go_simp) (.string tx) hH (cTx.out _) ?_
    clear hH
    intro vv hH
    simp only [Act.put, List.setIfInBounds_toArray, List.set_cons_succ, List.set_cons_zero]
    refine callH 36 rfl (by kernel_rfl) (by rfl) 12 #[.agg X] (by go_simp) (.string tx) hH (cRtx.out _) ?_
    clear hH
    intro vv hH
    simp only [Act.put, List.setIfInBounds_toArray, List.set_cons_succ, List.set_cons_zero]
    refine takeH 37 (.bool true) rfl (by kernel_rfl) (by kernel_rfl) (by kernel_rfl) (fun _ _ _ h => h) (by rfl) (fun w hSw => by go_simp) hH ?_
    simp only [Act.put, List.setIfInBounds_toArray, List.set_cons_succ, List.set_cons_zero]
    refine takeH 38 (.bool true) rfl (by kernel_rfl) (by kernel_rfl) (by kernel_rfl) (fun _ _ _ h => h) (by rfl) (fun w hSw => by go_simp) hH ?_
    simp only [Act.put, List.setIfInBounds_toArray, List.set_cons_succ, List.set_cons_zero]
    refine takeH 39 (.bool true) rfl (by kernel_rfl) (by kernel_rfl) (by kernel_rfl) (fun _ _ _ h => h) (by rfl) (fun w hSw => by go_simp) hH ?_
    simp only [Act.put, List.setIfInBounds_toArray, List.set_cons_succ, List.set_cons_zero]
    refine wpAnyH_done (by kernel_rfl) ?_ _
    have hfin := hid (Hkb.out.trans hH)
    go_wp2_with fail
    go_ret
    exact ⟨rfl, hfin.out⟩
end Go.Proofs.YtieaolnnlfaagaaDoor
