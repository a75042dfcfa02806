/- coldstoreref03.Parse. -/
import Derived.Test.YtieaolnnlfaagaaDoorK3
namespace Go.Proofs.YtieaolnnlfaagaaDoor
open Go.RowKit Go.Lib

theorem rdig_byte (c1 c2 : UInt8) (h1 : rdig c1 ≤ 15) (h2 : rdig c2 ≤ 15) : B (UInt8.ofNat (dig c1 * 16 + dig c2).toNat) = .int .u8 (16 * (rdig c1 : Int) + (rdig c2 : Int)) := by
  have e1 := (rdig_ok c1).1 h1
  have e2 := (rdig_ok c2).1 h2
  have l1 := dig_lt c1
  have l2 := dig_lt c2
  have f1 : (rdig c1 : Int) = dig c1 := by unfold rdig; rw [if_pos e1]; omega
  have f2 : (rdig c2 : Int) = dig c2 := by unfold rdig; rw [if_pos e2]; omega
  rw [B_ofNat, f1, f2]; congr 1; omega

set_option maxRecDepth 100000 in
set_option maxHeartbeats 1000000 in
theorem refparse_any (bs : List UInt8) (_ : bs.length ≤ 1000000000) (w : World) :
    Calls Tryd.prog 6 #[.string ⟨bs.toArray⟩] w fun e w' => e = .returned (.tuple #[.agg ((parsedL bs).map B).toArray, .bool (okHex bs)]) ∧ Kept [] w w' := by
  obtain ⟨Z, hZ⟩ : ∃ Z, Z = ((List.replicate 32 (0 : UInt8)).map B).toArray := ⟨_, rfl⟩
  have hzs : Z.size = 32 := by rw [hZ]; simp
  have hsz := hid (show (Tryd.prog.info? 24).map (·.size) = some Z.size by rw [hzs]; kernel_rfl)
  have hold := hid (show ((List.replicate 32 (0 : UInt8)).map B).toArray.size = Z.size by rw [hzs]; simp)
  have hone := hid (show Z.all (·.oneCell') = true by
    rw [hZ, Array.all_eq_true_iff_forall_mem]
    intro u hu
    exact B_one (List.replicate 32 0) u (by simpa using hu))
  have HZ := hid hZ
  have HZs := hid hzs
  clear hZ hzs
  have hsb : (⟨bs.toArray⟩ : ByteArray).size = bs.length := by simp [ByteArray.size]
  have hnew := hid (show ((w.alloc (.cells ((List.replicate 32 (0 : UInt8)).map B).toArray 24)).alloc (.cells ((List.replicate 32 (0 : UInt8)).map B).toArray 24)).heap[w.heap.size + 1]? = some (.cells ((List.replicate 32 (0 : UInt8)).map B).toArray 24 (0, 0)) from heap_alloc_at (by simp))
  by_cases h64 : bs.length = 64
  · have h64i : (bs.length : Int) = 64 := by omega
    have H64 := hid h64
    clear h64
    go_enter Tryd.func6, Tryd.ntmps6
    go_wp2_with (refine wpList_store_row rfl 24 (.tmp 4) (.tmp 8) rfl (w.heap.size + 1) Z rfl ?cy _ _ hnew.out hsz.out hold.out hone.out ?_)
    case cy => rw [HZ.out]; rfl
    have hcy2 := hid (show Kept [] w (((w.alloc (.cells ((List.replicate 32 (0 : UInt8)).map B).toArray 24)).alloc (.cells ((List.replicate 32 (0 : UInt8)).map B).toArray 24)).setRow (w.heap.size + 1) Z) from (((Kept.refl _ _).alloc _).alloc _).setRow (fun h => absurd h (by omega)) _)
    have h0 : Hid (PaRel w bs 0 (((w.alloc (.cells ((List.replicate 32 (0 : UInt8)).map B).toArray 24)).alloc (.cells ((List.replicate 32 (0 : UInt8)).map B).toArray 24)).setRow (w.heap.size + 1) Z)) := hid
      ⟨hcy2.out, (setRow_other _ _ _ _ (by omega)).trans (heap_alloc_old (heap_alloc_at rfl)), by
        refine (setRow_heap _ (w.heap.size + 1) _ Z _ _ hnew.out).trans ?_
        rw [show uL bs 0 = List.replicate 32 0 from rfl, HZ.out]⟩
    go_loopw [5] (fun j wr => ∃ i : Nat, i ≤ 32 ∧ j = .int .i64 i ∧ (∀ k, k < 2 * i → 0 ≤ dig (bs.getD k 0)) ∧ Hid (PaRel w bs i wr)) (fun j _ => 32 - (intOf j).toNat)
    case atStart => exact ⟨0, by omega, rfl, fun k hk => absurd hk (by omega), h0⟩
    case round =>
      clear h0 h64i hcy2 hnew
      obtain ⟨i, hi, rfl, hpos, hr⟩ := hrel
      have Hpos := hid hpos
      clear hpos
      by_cases hlt : i < 32
      · have hx1 := fun W => str_index bs (2 * i) (by rw [H64.out]; omega) W
        have hx2 := fun W => str_index bs (2 * i + 1) (by rw [H64.out]; omega) W
        have c1 : ((2 * i : Nat) : Int) = 2 * (i : Int) := by omega
        have c2 : ((2 * i + 1 : Nat) : Int) = 2 * (i : Int) + 1 := by omega
        rw [c1] at hx1; rw [c2] at hx2
        clear c1 c2
        have hr1 := hid hr.out
        have hstep := hid (hr.out.step hlt)
        have hno1 := hid (okHex_no bs (2 * i) (by rw [H64.out]; omega))
        have hno2 := hid (okHex_no bs (2 * i + 1) (by rw [H64.out]; omega))
        obtain ⟨c1, hc1⟩ : ∃ c, c = bs.getD (2 * i) 0 := ⟨_, rfl⟩
        obtain ⟨c2, hc2⟩ : ∃ c, c = bs.getD (2 * i + 1) 0 := ⟨_, rfl⟩
        rw [← hc1] at hx1 hstep hno1
        rw [← hc2] at hx2 hstep hno2
        have HC1 := hid hc1; have HC2 := hid hc2
        have D1 := hid (fun W => rdigit_any c1 W)
        have D2 := hid (fun W => rdigit_any c2 W)
        have ok1 := hid (rdig_ok c1)
        have ok2 := hid (rdig_ok c2)
        have hby := hid (rdig_byte c1 c2)
        have l1 := rdig_lt c1
        have l2 := rdig_lt c2
        obtain ⟨H, hH⟩ : ∃ H, H = rdig c1 := ⟨_, rfl⟩
        obtain ⟨L, hL⟩ : ∃ L, L = rdig c2 := ⟨_, rfl⟩
        rw [← hH] at D1 ok1 hby l1
        rw [← hL] at D2 ok2 hby l2
        clear hc1 hc2 hH hL hr
        go_wp2_with fail
        refine (D1.out _).mono ?_
        rintro e w' ⟨rfl, rfl⟩
        go_wp2_with fail
        refine (D2.out _).mono ?_
        rintro e w' ⟨rfl, rfl⟩
        clear hx1 hx2 D1 D2
        by_cases hneg : H ≤ 15 ∧ L ≤ 15
        · obtain ⟨p1, p2⟩ := hneg
          obtain ⟨hk1, hb1, hb2⟩ := hr1.out
          obtain ⟨v, gx⟩ : ∃ v, wr.cell? ⟨w.heap.size + 1, i, none⟩ = some v := ⟨((uL bs i).map B).toArray[i]'(by simp [uL_len bs i hi]; omega), (cell_of_row _ _ _ _ _ _ hb2).trans (Array.getElem?_eq_getElem _)⟩
          have gf := frozen_of_row wr _ i _ _ hb2
          rw [hby.out p1 p2] at hstep
          clear hk1 hb1 hb2
          go_wp2_with fail
          exact ⟨⟨i + 1, by omega, by go_num, fun k hk => by
            by_cases h1 : k < 2 * i
            · exact Hpos.out k h1
            · by_cases h2 : k = 2 * i
              · rw [h2, ← HC1.out]; exact ok1.out.1 p1
              · rw [show k = 2 * i + 1 by omega, ← HC2.out]; exact ok2.out.1 p2, hstep⟩, by simp [intOf]; omega⟩
        · obtain ⟨hk1, hb1, -⟩ := hr1.out
          have hno : okHex bs = false := by
            by_cases h1 : H ≤ 15
            · refine hno2.out ?_
              have h2 : ¬ L ≤ 15 := fun h => hneg ⟨h1, h⟩
              have h3 : ¬ 0 ≤ dig c2 := fun h => h2 (ok2.out.2 h)
              omega
            · refine hno1.out ?_
              have h3 : ¬ 0 ≤ dig c1 := fun h => h1 (ok1.out.2 h)
              omega
          have he := hid (show parsedL bs = List.replicate 32 0 ∧ okHex bs = false by unfold parsedL; rw [hno]; simp)
          have Hk1 := hid hk1; have Hb1 := hid hb1
          clear hno hk1 hb1 hstep hr1 hby
          by_cases h1 : H ≤ 15
          · have h2 : 15 < L := by omega
            clear hneg
            go_wp2_with (refine wpList_store_row rfl 24 (.tmp 2) (.tmp 34) rfl w.heap.size Z rfl ?cy _ _ Hb1.out hsz.out hold.out hone.out ?_)
            case cy => rw [HZ.out]; rfl
            refine bodyPost_ret (v := .tuple #[.agg Z, .bool false]) (results_id_slot Tryd.results6 _ _ w.heap.size _ Z _ rfl (setRow_heap _ _ _ _ _ _ Hb1.out) HZs.out) rfl ⟨by rw [he.out.1, he.out.2, HZ.out], Hk1.out.setRow (fun h => absurd h (by omega)) _⟩
          · have h2 : 15 < H := by omega
            clear hneg h1
            go_wp2_with (refine wpList_store_row rfl 24 (.tmp 2) (.tmp 34) rfl w.heap.size Z rfl ?cy _ _ Hb1.out hsz.out hold.out hone.out ?_)
            case cy => rw [HZ.out]; rfl
            refine bodyPost_ret (v := .tuple #[.agg Z, .bool false]) (results_id_slot Tryd.results6 _ _ w.heap.size _ Z _ rfl (setRow_heap _ _ _ _ _ _ Hb1.out) HZs.out) rfl ⟨by rw [he.out.1, he.out.2, HZ.out], Hk1.out.setRow (fun h => absurd h (by omega)) _⟩
      · obtain rfl : i = 32 := by omega
        obtain ⟨hk1, hb1, hb2⟩ := hr.out
        have hyes : okHex bs = true := by
          unfold okHex
          rw [Bool.and_eq_true]
          refine ⟨by simp [H64.out], List.all_eq_true.2 fun c hc => ?_⟩
          obtain ⟨k, hk, rfl⟩ := List.getElem_of_mem hc
          have := Hpos.out k (by have := H64.out; omega)
          simpa [hk] using this
        have he := hid (show parsedL bs = uL bs 32 ∧ okHex bs = true by unfold parsedL; rw [hyes]; simp [uL])
        obtain ⟨cs, hcs⟩ : ∃ cs, cs = ((uL bs 32).map B).toArray := ⟨_, rfl⟩
        rw [← hcs] at hb2
        have hcz : cs.size = 32 := by rw [hcs]; simp [uL_len]
        have hsz2 := hid (show (Tryd.prog.info? 24).map (·.size) = some cs.size by rw [hcz]; exact info_id)
        have hold2 := hid (show ((List.replicate 32 (0 : UInt8)).map B).toArray.size = cs.size by rw [hcz]; simp)
        have hone2 := hid (show cs.all (·.oneCell') = true by
          rw [hcs, Array.all_eq_true_iff_forall_mem]
          intro u hu
          exact B_one (uL bs 32) u (by simpa using hu))
        have Hcs := hid hcs; have Hcz := hid hcz
        have Hk1 := hid hk1; have Hb1 := hid hb1; have Hb2 := hid hb2
        clear hk1 hb1 hb2 hcs hcz hyes hr
        go_wp2_with (first
          | (refine wpList_load_row rfl 24 (.tmp 4) rfl (w.heap.size + 1) rfl _ _ _ _ Hb2.out Tryd.underlying24 rfl hsz2.out ?_)
          | (refine wpList_store_row rfl 24 (.tmp 2) (.tmp 41) rfl w.heap.size cs rfl rfl _ _ Hb1.out hsz2.out hold2.out hone2.out ?_))
        refine bodyPost_ret (v := .tuple #[.agg cs, .bool true]) (results_id_slot Tryd.results6 _ _ w.heap.size _ cs _ rfl (setRow_heap _ _ _ _ _ _ Hb1.out) Hcz.out) rfl ⟨by rw [he.out.1, he.out.2, Hcs.out], Hk1.out.setRow (fun h => absurd h (by omega)) _⟩
  · have hno : okHex bs = false := by unfold okHex; simp [h64]
    have he := hid (show parsedL bs = List.replicate 32 0 ∧ okHex bs = false by unfold parsedL; rw [hno]; simp)
    have hn : ((bs.length : Int) == 64) = false := by simp; omega
    have hb0 := hid (show (((w.alloc (.cells ((List.replicate 32 (0 : UInt8)).map B).toArray 24)).alloc (.cells ((List.replicate 32 (0 : UInt8)).map B).toArray 24)).setRow (w.heap.size + 1) Z).heap[w.heap.size]? = some (.cells ((List.replicate 32 (0 : UInt8)).map B).toArray 24 (0, 0)) from (setRow_other _ _ _ _ (by omega)).trans (heap_alloc_old (heap_alloc_at rfl)))
    have hb1 := hid (show (((w.alloc (.cells ((List.replicate 32 (0 : UInt8)).map B).toArray 24)).alloc (.cells ((List.replicate 32 (0 : UInt8)).map B).toArray 24)).setRow (w.heap.size + 1) Z).heap[w.heap.size + 1]? = some (.cells Z 24 (0, 0)) from setRow_heap _ _ _ _ _ _ hnew.out)
    clear hno
    go_enter Tryd.func6, Tryd.ntmps6
    go_wp2_with (first
      | (refine wpList_store_row rfl 24 (.tmp 4) (.tmp 8) rfl (w.heap.size + 1) Z rfl (by rw [HZ.out]; rfl) _ _ hnew.out hsz.out hold.out hone.out ?_)
      | (refine wpList_load_row rfl 24 (.tmp 4) rfl (w.heap.size + 1) rfl _ _ _ _ hb1.out Tryd.underlying24 rfl hsz.out ?_)
      | (refine wpList_store_row rfl 24 (.tmp 2) (.tmp 12) rfl w.heap.size Z rfl rfl _ _ hb0.out hsz.out hold.out hone.out ?_))
    refine bodyPost_ret (v := .tuple #[.agg Z, .bool false]) (results_id_slot Tryd.results6 _ _ w.heap.size _ Z _ rfl (setRow_heap _ _ _ _ _ _ hb0.out) HZs.out) rfl ⟨by rw [he.out.1, he.out.2, HZ.out], ?_⟩
    exact ((((Kept.refl [] w).alloc _).alloc _).setRow (fun h => absurd h (by omega)) _).setRow (fun h => absurd h (by omega)) _
end Go.Proofs.YtieaolnnlfaagaaDoor
