import Derived.Test.YtmfjfahlgcdehaaDoorZB
import Derived.Test.YtmfjfahlgcdehaaDoorZA
import Derived.Test.YtmfjfahlgcdehaaDoorZE

/- coldstorelaw11.SnapOrders, whose first region goes its way 3. -/
namespace Go.Proofs.YtmfjfahlgcdehaaDoor
open Go.RowKit Go.Lib Go.Sort Go.Shelf

section
attribute [-simp] Tryd.sizeOf28
set_option maxRecDepth 100000 in
set_option maxHeartbeats 40000000 in
theorem law_orders_k3 (k : Nat) (zE : ∀ w, (Go.sizeOf 28).run Tryd.prog w = .ok k w) (hk37 : Hid (k = 37)) (ca cb cc : List Value) (la : ca.length = k) (lb : cb.length = k) (lc : cc.length = k) (p q r s ne : Bool) (hp : p = true) (hq : q = false) (hr : r = true) (hs : s = true) (hne0 : ne = true)
    (fAB : ∀ W, Calls Tryd.prog 13 #[.agg ca.toArray, .agg cb.toArray] W fun e w' => e = .returned (.bool p) ∧ Grown W w')
    (fBA : ∀ W, Calls Tryd.prog 13 #[.agg cb.toArray, .agg ca.toArray] W fun e w' => e = .returned (.bool q) ∧ Grown W w')
    (fBC : ∀ W, Calls Tryd.prog 13 #[.agg cb.toArray, .agg cc.toArray] W fun e w' => e = .returned (.bool r) ∧ Grown W w')
    (fAC : ∀ W, Calls Tryd.prog 13 #[.agg ca.toArray, .agg cc.toArray] W fun e w' => e = .returned (.bool s) ∧ Grown W w')
    (hne : ∀ W, (binOp .neq 28 (.agg ca.toArray) (.agg cb.toArray)).run Tryd.prog W = .ok (.bool ne) W)
    (a : Option Addr) (c : Nat) (xs : List Sq) (w W0 : World) (hs0 : Snaps w a c xs) (hW0 : W0 = ((w.alloc (.cells ca.toArray 28)).alloc (.cells cb.toArray 28)).alloc (.cells cc.toArray 28))
    (hal : Calls Tryd.prog 10 #[] W0 fun e w' => e = .returned (.bool true) ∧ Kept [] W0 w') :
    Calls Tryd.prog 4 #[.slice a xs.length c, .agg ca.toArray, .agg cb.toArray, .agg cc.toArray] w fun e w' => e = .returned (.bool true) ∧ Kept [] w w' := by
  subst hp hq hne0 hr hs
  obtain ⟨i0, hi0, hzz0, hz1, hz2⟩ := info_parts snap_zero
  have K0 := hid (show Kept [] w W0 by rw [hW0]; exact (((Kept.refl [] w).alloc _).alloc _).alloc _)
  have A0 := hid (show W0.heap[w.heap.size]? = some (.cells ca.toArray 28) by rw [hW0]; exact heap_alloc_old (heap_alloc_old (heap_alloc_at rfl)))
  have B0 := hid (show W0.heap[w.heap.size + 1]? = some (.cells cb.toArray 28) by rw [hW0]; exact heap_alloc_old (heap_alloc_at (by simp)))
  have C0 := hid (show W0.heap[w.heap.size + 2]? = some (.cells cc.toArray 28) by rw [hW0]; exact heap_alloc_at (by simp))
  have HW0 := hid hW0; have Hal := hid hal; have HS := hid hs0
  have FAB := hid fAB; have FBA := hid fBA; have FBC := hid fBC; have FAC := hid fAC
  have hmax := hs0.max; have hlec := hs0.le
  clear hW0 hal fAB fBA fBC fAC hs0
  have mixed := YtmfjfahlgcdehaaDoorlaysF20.mixed
  have eg : ∀ args w, (callFunc 13 args).run Tryd.prog w = .ok (.enter 13 args) w := enters_of Tryd.func13 (by kernel_rfl) rfl
  obtain ⟨n, hn⟩ : ∃ n, n = xs.length := ⟨_, rfl⟩
  rw [← hn] at hlec ⊢
  have HN := hid hn
  clear hn
  go_enter Tryd.func4, Tryd.ntmps4
  go_wp2_with fail
  rw [← HW0.out]
  refine Hal.out.mono ?_
  rintro e w2 ⟨rfl, k2⟩
  have K2 := hid k2
  clear k2
  by_cases q0 : (60 : Int) < (n : Int)
  · go_wp2
    go_ret
    exact ⟨rfl, K0.out.trans K2.out⟩
  go_upto_region 6 with fail
  go_cut [64] (fun s wx => s = .bool false ∧ Hid (Grown w2 wx))
  case first =>
    have cA : ∀ (j : Nat) u, ca[j]? = some u → w2.cell? ((⟨w.heap.size, 0, none⟩ : Addr).add j) = some u := fun j u hj => by
      have b : W0.cell? ((⟨w.heap.size, 0, none⟩ : Addr).add j) = some u := by
        rw [plain_add, Nat.zero_add, cell_of_row W0 _ _ _ _ _ A0.out, List.getElem?_toArray]; exact hj
      exact (K2.out.cell (World.block_lt_of_cell? W0 _ b) (by simp)).trans b
    have cB : ∀ (j : Nat) u, cb[j]? = some u → w2.cell? ((⟨w.heap.size + 1, 0, none⟩ : Addr).add j) = some u := fun j u hj => by
      have b : W0.cell? ((⟨w.heap.size + 1, 0, none⟩ : Addr).add j) = some u := by
        rw [plain_add, Nat.zero_add, cell_of_row W0 _ _ _ _ _ B0.out, List.getElem?_toArray]; exact hj
      exact (K2.out.cell (World.block_lt_of_cell? W0 _ b) (by simp)).trans b
    have cC : ∀ (j : Nat) u, cc[j]? = some u → w2.cell? ((⟨w.heap.size + 2, 0, none⟩ : Addr).add j) = some u := fun j u hj => by
      have b : W0.cell? ((⟨w.heap.size + 2, 0, none⟩ : Addr).add j) = some u := by
        rw [plain_add, Nat.zero_add, cell_of_row W0 _ _ _ _ _ C0.out, List.getElem?_toArray]; exact hj
      exact (K2.out.cell (World.block_lt_of_cell? W0 _ b) (by simp)).trans b
    have LA : ∀ n os, Sem.run Tryd.prog (loadCellsFrom ⟨w.heap.size, 0, none⟩ 0 k #[]) (grow (w2.drewN n) os) = .ok ca.toArray (grow (w2.drewN n) os) := fun n os => (Grown.of w2 n os).load la cA _
    have LB : ∀ n os, Sem.run Tryd.prog (loadCellsFrom ⟨w.heap.size + 1, 0, none⟩ 0 k #[]) (grow (w2.drewN n) os) = .ok cb.toArray (grow (w2.drewN n) os) := fun n os => (Grown.of w2 n os).load lb cB _
    have LC : ∀ n os, Sem.run Tryd.prog (loadCellsFrom ⟨w.heap.size + 1 + 1, 0, none⟩ 0 k #[]) (grow (w2.drewN n) os) = .ok cc.toArray (grow (w2.drewN n) os) := fun n os => (Grown.of w2 n os).load lc cC _
    have hAB : ∀ n os, Calls Tryd.prog 13 #[.agg ca.toArray, .agg cb.toArray] (grow (w2.drewN n) os) fun e w' => e = .returned (.bool true) ∧ ∃ q os', w' = grow ((grow (w2.drewN n) os).drewN q) os' := fun n os => FAB.out _
    have hBA : ∀ n os, Calls Tryd.prog 13 #[.agg cb.toArray, .agg ca.toArray] (grow (w2.drewN n) os) fun e w' => e = .returned (.bool false) ∧ ∃ q os', w' = grow ((grow (w2.drewN n) os).drewN q) os' := fun n os => FBA.out _
    have hBC : ∀ n os, Calls Tryd.prog 13 #[.agg cb.toArray, .agg cc.toArray] (grow (w2.drewN n) os) fun e w' => e = .returned (.bool true) ∧ ∃ q os', w' = grow ((grow (w2.drewN n) os).drewN q) os' := fun n os => FBC.out _
    have hAC : ∀ n os, Calls Tryd.prog 13 #[.agg ca.toArray, .agg cc.toArray] (grow (w2.drewN n) os) fun e w' => e = .returned (.bool true) ∧ ∃ q os', w' = grow ((grow (w2.drewN n) os).drewN q) os' := fun n os => FAC.out _
    clear cA cB cC la lb lc
    as_aux_lemma =>
      go_wp2_with fail
      go_quiet_grown (first | (go_at_fn 13; first | (refine Calls.grown_of (hAB _ _)) | (refine Calls.grown_of (hBA _ _)) | (refine Calls.grown_of (hBC _ _)) | (refine Calls.grown_of (hAC _ _))))
      go_wp2_with fail
      go_meet
      exact ⟨rfl, hid (Grown.of w2 nq osq)⟩
  case rest =>
    obtain ⟨rfl, hg6⟩ := hcut
    have K6 := hid ((K0.out.trans K2.out).trans hg6.out.kept)
    have hS6 := hid (HS.out.kept K6.out (by simp))
    have hso := hid (show Calls Tryd.prog 11 #[.slice a n c] wc (SortedQ wc xs) from by rw [HN.out]; exact snapsort_any a c xs wc hS6.out (by have := HN.out; omega))
    clear hg6
    go_wp2_with fail
    refine hso.out.mono ?_
    rintro e w3 ⟨ax, cx, ys, rfl, k3, sx, px, ox, bx⟩
    rw [show ys.length = n by rw [px.length_eq]; exact HN.out.symm]
    have K3 := hid (K6.out.trans k3)
    have SX := hid sx; have PX := hid px; have OX := hid ox
    clear k3 sx px ox bx hso hS6
    have wn1 : IntKind.i64.wrap ((n : Int) - 1) = (n : Int) - 1 := by rw [IntKind.wrap_i64]; omega
    have hst := hid (show Kept [] w3 (w3.alloc (.cells #[] 28)) ∧ (w3.alloc (.cells #[] 28)).ownsRow w3.heap.size 28 37 (.slice (some ⟨w3.heap.size, 0, none⟩) 0 0) 0 [] from
      ⟨(Kept.refl [] w3).alloc _, by simp, Or.inr ⟨w3.heap.size, 0, #[], rfl, Nat.le_refl _, heap_alloc_at rfl, by simp, by unfold maxLen; omega, by simp, by simp⟩⟩)
    go_wp2_with fail
    go_loopw [11, 12] (fun v t wr => ∃ (j : Nat) (z : Int), j ≤ n ∧ t = .int .i64 z ∧ Hid (z = (n : Int) - 1 - (j : Int)) ∧ Hid (Kept [] w3 wr) ∧ Hid (wr.ownsRow w3.heap.size 28 37 v j ((xs.reverse.take j).flatMap encQ))) (fun _ t _ => (intOf t + 1).toNat)
    case atStart => exact ⟨0, (n : Int) - 1, Nat.zero_le _, rfl, hid (by simp), hid hst.out.1, hid (by simpa using hst.out.2)⟩
    case round =>
      obtain ⟨j, z, hj, rfl, Hz, HK, Ho⟩ := hrel
      by_cases hlt : j < n
      · obtain ⟨m, hm⟩ : ∃ m : Nat, z = (m : Int) := ⟨n - 1 - j, by have := Hz.out; omega⟩
        subst hm
        have hmn : (m : Int) < (n : Int) := by have := Hz.out; omega
        have hmn' : m < n := by omega
        have hz0 : (0 : Int) ≤ (m : Int) := by omega
        have wm1 : IntKind.i64.wrap ((m : Int) - 1) = (m : Int) - 1 := by rw [IntKind.wrap_i64]; omega
        have Hlt := hid hlt
        have hsr := hid (HS.out.kept (K3.out.trans HK.out) (by simp))
        cases a with
        | none => exact absurd (hsr.out.nil rfl).1 (fun e => by have := HN.out; rw [e] at this; simp at this; omega)
        | some x =>
          obtain ⟨sq, hsq⟩ : ∃ sq, xs[m]? = some sq := ⟨xs[m]'(by have := HN.out; omega), by simp⟩
          have htk := hid (show (xs.reverse.take (j + 1)).flatMap encQ = (xs.reverse.take j).flatMap encQ ++ encQ sq from by
            have h1 : xs.reverse[j]? = some sq := by
              rw [List.getElem?_reverse (by have := HN.out; omega), ← hsq]
              congr 1
              have := HN.out; have := Hz.out; omega
            rw [List.take_add_one, h1, List.flatMap_append]; simp)
          obtain ⟨cs, hcs⟩ : ∃ cs, cs = encQ sq := ⟨_, rfl⟩
          have lcs := hid (show cs.length = k by rw [hcs, encQ_len, hk37.out])
          have hsz := hid (show (Tryd.prog.info? 28).map (·.size) = some cs.length by rw [lcs.out, hk37.out]; exact snap_info)
          have hreads := hid (show ∀ (i : Nat) v, cs[i]? = some v → wr.cell? ((x.add (m * k)).add i) = some v from fun i v hv => by
            rw [snap_add_add, hk37.out]; exact hsr.out.at_ x rfl m sq hsq i v (by rw [← hcs]; exact hv))
          have hbn := hid (fun W => build_snap sq.1 sq.2.root W)
          have hone := hid (show ∀ u ∈ cs, u.oneCell' = true by rw [hcs]; exact sq.1.one)
          have hcs2 : cs = sq.1.cells := hcs
          rw [← hcs] at htk
          rw [← hcs2] at hbn
          clear hcs hcs2 hsq hlt hsr
          go_wp2_with (first | (refine wpList_load_cells rfl 28 (.tmp 78) rfl (x.add (m * k)) rfl cs _ Tryd.underlying28 rfl hsz.out hreads.out ?_) | (refine wpList_buildSlice rfl _ _ _ rfl (.slice (some ⟨wr.heap.size, 0, none⟩) 1 1) (wr.alloc (.cells cs.toArray 28)) (by have h := hbn.out wr; unfold execOp; simp [Act.eval, Act.put, h]) ?_; refine halt ?_))
          refine Halt.mk ?_
          obtain ⟨wb, hwb⟩ : ∃ wb : World, wb = wr.alloc (.cells cs.toArray 28) := ⟨_, rfl⟩
          rw [← hwb]
          have hkc := hid (show Kept [] wr wb from by rw [hwb]; exact (Kept.refl [] wr).alloc _)
          have hnew := hid (show ∀ (j : Nat) u, cs[j]? = some u → wb.cell? ((⟨wr.heap.size, 0, none⟩ : Addr).add j) = some u from fun j u hu => enc_at (by rw [hwb]; exact heap_alloc_at rfl) j u hu)
          have ho2 := hid (hkc.out.owns Ho.out (by simp))
          have hsb := hid (show w3.heap.size ≤ wb.heap.size by have h1 := HK.out.size; have h2 := hkc.out.size; omega)
          clear hwb
          go_wp2_with (at_builtin; refine halt ?_)
          refine Halt.mk ?_
          refine wpList_append_k _ rfl _ _ _ rfl w3.heap.size 28 i0 _ 37 88 Tryd.underlying22 hi0 hzz0 hz1 hz2 (by rw [Value.cells, List.size_toArray, zSnap_len]) (by decide) u11 j _ rfl ho2.out (.slice (some ⟨wr.heap.size, 0, none⟩) 1 1) 1 cs rfl (Or.inr ⟨_, _, rfl, hnew.out⟩) (by rw [lcs.out, hk37.out]) hone.out (by unfold maxLen; omega) (by omega) hsb.out ?_
          intro v2 w4 hown2 hgrow2 _ hf2
          have hk2 : Hid (Kept [] w3 w4) := hid (show Kept [] w3 w4 from (HK.out.trans hkc.out).trans' (Kept.of_row hgrow2) (fun y hy hm => by
            rw [Option.mem_toList] at hm
            have h1 := (ownsK_ge Ho.out hm); omega))
          rw [← htk.out] at hown2
          obtain ⟨a2, c2, rfl⟩ := owns_slice hown2
          have Ho2 := hid hown2
          have hin := Hlt.out
          clear hown2 hgrow2 hf2
          go_wp2
          go_roundw
          case rel => exact ⟨j + 1, (m : Int) - 1, hin, rfl, hid (by have := Hz.out; omega), hk2, Ho2⟩
          case measure => simp [intOf]
      · have hjn : j = n := by omega
        subst hjn
        obtain rfl : z = -1 := by have := Hz.out; omega
        obtain ⟨a2, c2, rfl⟩ := owns_slice Ho.out
        have hob := Ho.out
        rw [List.take_of_length_le (by simp; have := HN.out; omega)] at hob
        have hrl : xs.reverse.length = j := by simp; exact HN.out.symm
        have hsb := snaps_of_row (xs := xs.reverse) (by rw [hrl]; exact hob)
        have hso2 := hid (show Calls Tryd.prog 11 #[.slice a2 j c2] wr (SortedQ wr xs.reverse) from by rw [← hrl]; exact snapsort_any a2 c2 xs.reverse wr hsb.1 (by omega))
        clear hob hsb hlt
        go_wp2_with fail
        refine hso2.out.mono ?_
        rintro e w5 ⟨ay, cy, zs, rfl, k5, sy, py, oy, by_⟩
        obtain rfl : zs = ys := (sorted_one (PX.out.trans ((List.reverse_perm xs).symm.trans py.symm)) OX.out oy).symm
        have hln := hid (show zs.length = j by rw [PX.out.length_eq]; exact HN.out.symm)
        rw [hln.out]
        have SX5 := hid (SX.out.kept (HK.out.trans k5) (by simp))
        have SY5 := hid sy
        have K5 := hid ((K3.out.trans HK.out).trans k5)
        clear k5 sy py oy by_ hso2
        go_wp2_with fail
        go_loopw [14, 98] (fun _ t wr => ∃ i : Nat, i ≤ j ∧ t = .int .i64 i ∧ Hid (Kept [] w5 wr)) (fun _ t _ => j - (intOf t).toNat)
        case atStart => exact ⟨0, Nat.zero_le _, rfl, hid (Kept.refl _ _)⟩
        case round =>
          obtain ⟨i, hij, rfl, HK6⟩ := hrel
          by_cases hlt : i < j
          · have Hlt := hid hlt
            have hltz : (i : Int) < (j : Int) := by omega
            have SX6 := hid (SX5.out.kept HK6.out (by simp))
            have SY6 := hid (SY5.out.kept HK6.out (by simp))
            cases ax with
            | none => exact absurd (SX6.out.nil rfl).1 (fun e => by have := hln.out; rw [e] at this; simp at this; omega)
            | some x =>
              cases ay with
              | none => exact absurd (SY6.out.nil rfl).1 (fun e => by have := hln.out; rw [e] at this; simp at this; omega)
              | some y =>
                go_upto_region 20 with fail
                go_cut [126] (fun s wx => s = .bool false ∧ Hid (Kept [] wr wx))
                case first =>
                  obtain ⟨sq, hsq⟩ : ∃ sq, zs[i]? = some sq := ⟨zs[i]'(by have := hln.out; omega), by simp⟩
                  obtain ⟨cs, hcs⟩ : ∃ cs, cs = encQ sq := ⟨_, rfl⟩
                  have hat : ∀ (b : Addr) (m : Nat) (sm : Sq) (cm : List Value), cm = encQ sm → zs[m]? = some sm → (∀ i s, zs[i]? = some s → ∀ j v, (encQ s)[j]? = some v → wr.cell? (b.add (i * 37 + j)) = some v) → ∀ wv, Kept [] wr wv → (loadVar 28 (b.add (m * k))).run Tryd.prog wv = .ok (.agg cm.toArray) wv := fun b m sm cm e1 e2 hc wv hk =>
                    run_loadVar_cells wv _ _ cm _ Tryd.underlying28 rfl (by rw [e1, encQ_len]; exact snap_info) (fun l v hv => by
                      have h1 := hc m sm e2 l v (by rw [← e1]; exact hv)
                      rw [snap_add_add, hk37.out]
                      exact (hk.cell (World.block_lt_of_cell? wr _ h1) (by simp)).trans h1)
                  have lx := hid (hat x i sq cs hcs hsq (SX6.out.at_ x rfl))
                  have ly := hid (hat y i sq cs hcs hsq (SY6.out.at_ y rfl))
                  have hneq : ∀ W, (binOp .neq 28 (.agg cs.toArray) (.agg cs.toArray)).run Tryd.prog W = .ok (.bool false) W := fun W => by
                    rw [hcs]; exact (snap_neq sq.1 sq.1 sq.2 sq.2 W).trans (by rw [decide_eq_true rfl]; rfl)
                  have hxl := SX6.out.le; have hxm := SX6.out.max; have hyl := SY6.out.le; have hym := SY6.out.max
                  rw [hln.out] at hxl hyl
                  by_cases hi0 : i = 0
                  · have Hi0 := hid hi0
                    clear hat hcs hsq hi0
                    have z0 : decide (0 < i) = false := by have := Hi0.out; simp; omega
                    refine wp_region_held_drew (S := Kept [] wr) (by kernel_rfl) (Kept.refl [] wr).drew (fun hH => ?_)
                    refine takeH 0 (.slice (some x) j cx) rfl (by kernel_rfl) (by kernel_rfl) (by kernel_rfl) (fun _ _ _ h => h) (by rfl) (fun v hv => by go_simp) hH ?_
                    simp only [Act.put, List.setIfInBounds_toArray, List.set_cons_succ, List.set_cons_zero]
                    refine takeH 1 (.int .i64 (i : Int)) rfl (by kernel_rfl) (by kernel_rfl) (by kernel_rfl) (fun _ _ _ h => h) (by rfl) (fun v hv => by go_simp) hH ?_
                    simp only [Act.put, List.setIfInBounds_toArray, List.set_cons_succ, List.set_cons_zero]
                    refine takeH 2 (.pointer (some (x.add (i * k)))) rfl (by kernel_rfl) (by kernel_rfl) (by kernel_rfl) (fun _ _ _ h => h) (by rfl) (fun v hv => by go_simp) hH ?_
                    simp only [Act.put, List.setIfInBounds_toArray, List.set_cons_succ, List.set_cons_zero]
                    refine takeH 3 (.agg cs.toArray) rfl (by kernel_rfl) (by kernel_rfl) (by kernel_rfl) (fun _ _ _ h => h) (by rfl) (fun v hv => by have h := lx.out v hv; unfold execOp; simp [Instr.loadAt, Instr.sureAddr, Sem.run_bind, Sem.run_pure, Result.andThen_ok, Act.eval, h]) hH ?_
                    simp only [Act.put, List.setIfInBounds_toArray, List.set_cons_succ, List.set_cons_zero]
                    refine takeH 4 (.slice (some y) j cy) rfl (by kernel_rfl) (by kernel_rfl) (by kernel_rfl) (fun _ _ _ h => h) (by rfl) (fun v hv => by go_simp) hH ?_
                    simp only [Act.put, List.setIfInBounds_toArray, List.set_cons_succ, List.set_cons_zero]
                    refine takeH 5 (.int .i64 (i : Int)) rfl (by kernel_rfl) (by kernel_rfl) (by kernel_rfl) (fun _ _ _ h => h) (by rfl) (fun v hv => by go_simp) hH ?_
                    simp only [Act.put, List.setIfInBounds_toArray, List.set_cons_succ, List.set_cons_zero]
                    refine takeH 6 (.pointer (some (y.add (i * k)))) rfl (by kernel_rfl) (by kernel_rfl) (by kernel_rfl) (fun _ _ _ h => h) (by rfl) (fun v hv => by go_simp) hH ?_
                    simp only [Act.put, List.setIfInBounds_toArray, List.set_cons_succ, List.set_cons_zero]
                    refine takeH 7 (.agg cs.toArray) rfl (by kernel_rfl) (by kernel_rfl) (by kernel_rfl) (fun _ _ _ h => h) (by rfl) (fun v hv => by have h := ly.out v hv; unfold execOp; simp [Instr.loadAt, Instr.sureAddr, Sem.run_bind, Sem.run_pure, Result.andThen_ok, Act.eval, h]) hH ?_
                    simp only [Act.put, List.setIfInBounds_toArray, List.set_cons_succ, List.set_cons_zero]
                    refine takeH 8 (.bool false) rfl (by kernel_rfl) (by kernel_rfl) (by kernel_rfl) (fun _ _ _ h => h) (by rfl) (fun v hv => by go_simp) hH ?_
                    simp only [Act.put, List.setIfInBounds_toArray, List.set_cons_succ, List.set_cons_zero]
                    refine takeH 9 (.bool false) rfl (by kernel_rfl) (by kernel_rfl) (by kernel_rfl) (fun _ _ _ h => h) (by rfl) (fun v hv => by go_simp) hH ?_
                    simp only [Act.put, List.setIfInBounds_toArray, List.set_cons_succ, List.set_cons_zero]
                    refine takeH 10 (.int .i64 (i : Int)) rfl (by kernel_rfl) (by kernel_rfl) (by kernel_rfl) (fun _ _ _ h => h) (by rfl) (fun v hv => by go_simp) hH ?_
                    simp only [Act.put, List.setIfInBounds_toArray, List.set_cons_succ, List.set_cons_zero]
                    refine takeH 11 (.bool false) rfl (by kernel_rfl) (by kernel_rfl) (by kernel_rfl) (fun _ _ _ h => h) (by rfl) (fun v hv => by go_simp) hH ?_
                    simp only [Act.put, List.setIfInBounds_toArray, List.set_cons_succ, List.set_cons_zero]
                    refine takeH 12 (.bool false) rfl (by kernel_rfl) (by kernel_rfl) (by kernel_rfl) (fun _ _ _ h => h) (by rfl) (fun v hv => by go_simp) hH ?_
                    simp only [Act.put, List.setIfInBounds_toArray, List.set_cons_succ, List.set_cons_zero]
                    refine skipH 13 rfl (by kernel_rfl) (by kernel_rfl) (by kernel_rfl) (fun _ _ _ h => h) (by rfl) hH ?_
                    simp only [Act.put, List.setIfInBounds_toArray, List.set_cons_succ, List.set_cons_zero]
                    refine skipH 14 rfl (by kernel_rfl) (by kernel_rfl) (by kernel_rfl) (fun _ _ _ h => h) (by rfl) hH ?_
                    simp only [Act.put, List.setIfInBounds_toArray, List.set_cons_succ, List.set_cons_zero]
                    refine skipH 15 rfl (by kernel_rfl) (by kernel_rfl) (by kernel_rfl) (fun _ _ _ h => h) (by rfl) hH ?_
                    simp only [Act.put, List.setIfInBounds_toArray, List.set_cons_succ, List.set_cons_zero]
                    refine skipH 16 rfl (by kernel_rfl) (by kernel_rfl) (by kernel_rfl) (fun _ _ _ h => h) (by rfl) hH ?_
                    simp only [Act.put, List.setIfInBounds_toArray, List.set_cons_succ, List.set_cons_zero]
                    refine skipH 17 rfl (by kernel_rfl) (by kernel_rfl) (by kernel_rfl) (fun _ _ _ h => h) (by rfl) hH ?_
                    simp only [Act.put, List.setIfInBounds_toArray, List.set_cons_succ, List.set_cons_zero]
                    refine skipH 18 rfl (by kernel_rfl) (by kernel_rfl) (by kernel_rfl) (fun _ _ _ h => h) (by rfl) hH ?_
                    simp only [Act.put, List.setIfInBounds_toArray, List.set_cons_succ, List.set_cons_zero]
                    refine skipH 19 rfl (by kernel_rfl) (by kernel_rfl) (by kernel_rfl) (fun _ _ _ h => h) (by rfl) hH ?_
                    simp only [Act.put, List.setIfInBounds_toArray, List.set_cons_succ, List.set_cons_zero]
                    refine skipH 20 rfl (by kernel_rfl) (by kernel_rfl) (by kernel_rfl) (fun _ _ _ h => h) (by rfl) hH ?_
                    simp only [Act.put, List.setIfInBounds_toArray, List.set_cons_succ, List.set_cons_zero]
                    refine skipH 21 rfl (by kernel_rfl) (by kernel_rfl) (by kernel_rfl) (fun _ _ _ h => h) (by rfl) hH ?_
                    simp only [Act.put, List.setIfInBounds_toArray, List.set_cons_succ, List.set_cons_zero]
                    refine skipH 22 rfl (by kernel_rfl) (by kernel_rfl) (by kernel_rfl) (fun _ _ _ h => h) (by rfl) hH ?_
                    simp only [Act.put, List.setIfInBounds_toArray, List.set_cons_succ, List.set_cons_zero]
                    refine skipC 23 rfl (by kernel_rfl) (by rfl) hH ?_
                    simp only [Act.put, List.setIfInBounds_toArray, List.set_cons_succ, List.set_cons_zero]
                    refine takeH 24 (.bool false) rfl (by kernel_rfl) (by kernel_rfl) (by kernel_rfl) (fun _ _ _ h => h) (by rfl) (fun v hv => by go_simp) hH ?_
                    simp only [Act.put, List.setIfInBounds_toArray, List.set_cons_succ, List.set_cons_zero]
                    refine takeH 25 (.bool false) rfl (by kernel_rfl) (by kernel_rfl) (by kernel_rfl) (fun _ _ _ h => h) (by rfl) (fun v hv => by go_simp) hH ?_
                    simp only [Act.put, List.setIfInBounds_toArray, List.set_cons_succ, List.set_cons_zero]
                    refine wpAnyH_done (by kernel_rfl) ?_ _
                    go_wp2_with fail
                    go_meet
                    exact ⟨rfl, hid hH⟩
                  · obtain ⟨m, hm⟩ : ∃ m, i = m + 1 := ⟨i - 1, by omega⟩
                    obtain ⟨sm, hsm⟩ : ∃ sm, zs[m]? = some sm := ⟨zs[m]'(by have := hln.out; omega), by simp⟩
                    obtain ⟨cm, hcm⟩ : ∃ cm, cm = encQ sm := ⟨_, rfl⟩
                    have lp := hid (hat x m sm cm hcm hsm (SX6.out.at_ x rfl))
                    have hlt0 : decide (0 < i) = true := by simp; omega
                    have hmz : (m : Int) < (j : Int) := by omega
                    have wim : IntKind.i64.wrap ((i : Int) - 1) = (m : Int) := by rw [IntKind.wrap_i64]; omega
                    have hord : ltOf cmpQ sq sm = false := by
                      have h1 := List.pairwise_iff_getElem.1 OX.out m i (by have := hln.out; omega) (by have := hln.out; omega) (by omega)
                      have e1 : zs[i]'(by have := hln.out; omega) = sq := by have := List.getElem?_eq_some_iff.1 hsq; exact this.2
                      have e2 : zs[m]'(by have := hln.out; omega) = sm := by have := List.getElem?_eq_some_iff.1 hsm; exact this.2
                      rw [e1, e2] at h1; exact h1
                    have hls := hid (show ∀ W, Calls Tryd.prog 13 #[.agg cs.toArray, .agg cm.toArray] W fun e w' => e = .returned (.bool false) ∧ Kept [] W w' from fun W => by
                      have h1 := less_grown sq.1 sm.1 sq.2 sm.2 W
                      rw [show decide (sq.1.cmp sm.1 < 0) = false from hord] at h1
                      rw [hcs, hcm]; exact h1.mono fun e w' h => ⟨h.1, h.2.kept⟩)
                    have Hm := hid hm
                    clear hat hcs hsq hcm hsm hord hm hi0
                    refine wp_region_held_drew (S := Kept [] wr) (by kernel_rfl) (Kept.refl [] wr).drew (fun hH => ?_)
                    refine takeH 0 (.slice (some x) j cx) rfl (by kernel_rfl) (by kernel_rfl) (by kernel_rfl) (fun _ _ _ h => h) (by rfl) (fun v hv => by go_simp) hH ?_
                    simp only [Act.put, List.setIfInBounds_toArray, List.set_cons_succ, List.set_cons_zero]
                    refine takeH 1 (.int .i64 (i : Int)) rfl (by kernel_rfl) (by kernel_rfl) (by kernel_rfl) (fun _ _ _ h => h) (by rfl) (fun v hv => by go_simp) hH ?_
                    simp only [Act.put, List.setIfInBounds_toArray, List.set_cons_succ, List.set_cons_zero]
                    refine takeH 2 (.pointer (some (x.add (i * k)))) rfl (by kernel_rfl) (by kernel_rfl) (by kernel_rfl) (fun _ _ _ h => h) (by rfl) (fun v hv => by go_simp) hH ?_
                    simp only [Act.put, List.setIfInBounds_toArray, List.set_cons_succ, List.set_cons_zero]
                    refine takeH 3 (.agg cs.toArray) rfl (by kernel_rfl) (by kernel_rfl) (by kernel_rfl) (fun _ _ _ h => h) (by rfl) (fun v hv => by have h := lx.out v hv; unfold execOp; simp [Instr.loadAt, Instr.sureAddr, Sem.run_bind, Sem.run_pure, Result.andThen_ok, Act.eval, h]) hH ?_
                    simp only [Act.put, List.setIfInBounds_toArray, List.set_cons_succ, List.set_cons_zero]
                    refine takeH 4 (.slice (some y) j cy) rfl (by kernel_rfl) (by kernel_rfl) (by kernel_rfl) (fun _ _ _ h => h) (by rfl) (fun v hv => by go_simp) hH ?_
                    simp only [Act.put, List.setIfInBounds_toArray, List.set_cons_succ, List.set_cons_zero]
                    refine takeH 5 (.int .i64 (i : Int)) rfl (by kernel_rfl) (by kernel_rfl) (by kernel_rfl) (fun _ _ _ h => h) (by rfl) (fun v hv => by go_simp) hH ?_
                    simp only [Act.put, List.setIfInBounds_toArray, List.set_cons_succ, List.set_cons_zero]
                    refine takeH 6 (.pointer (some (y.add (i * k)))) rfl (by kernel_rfl) (by kernel_rfl) (by kernel_rfl) (fun _ _ _ h => h) (by rfl) (fun v hv => by go_simp) hH ?_
                    simp only [Act.put, List.setIfInBounds_toArray, List.set_cons_succ, List.set_cons_zero]
                    refine takeH 7 (.agg cs.toArray) rfl (by kernel_rfl) (by kernel_rfl) (by kernel_rfl) (fun _ _ _ h => h) (by rfl) (fun v hv => by have h := ly.out v hv; unfold execOp; simp [Instr.loadAt, Instr.sureAddr, Sem.run_bind, Sem.run_pure, Result.andThen_ok, Act.eval, h]) hH ?_
                    simp only [Act.put, List.setIfInBounds_toArray, List.set_cons_succ, List.set_cons_zero]
                    refine takeH 8 (.bool false) rfl (by kernel_rfl) (by kernel_rfl) (by kernel_rfl) (fun _ _ _ h => h) (by rfl) (fun v hv => by go_simp) hH ?_
                    simp only [Act.put, List.setIfInBounds_toArray, List.set_cons_succ, List.set_cons_zero]
                    refine takeH 9 (.bool false) rfl (by kernel_rfl) (by kernel_rfl) (by kernel_rfl) (fun _ _ _ h => h) (by rfl) (fun v hv => by go_simp) hH ?_
                    simp only [Act.put, List.setIfInBounds_toArray, List.set_cons_succ, List.set_cons_zero]
                    refine takeH 10 (.int .i64 (i : Int)) rfl (by kernel_rfl) (by kernel_rfl) (by kernel_rfl) (fun _ _ _ h => h) (by rfl) (fun v hv => by go_simp) hH ?_
                    simp only [Act.put, List.setIfInBounds_toArray, List.set_cons_succ, List.set_cons_zero]
                    refine takeH 11 (.bool true) rfl (by kernel_rfl) (by kernel_rfl) (by kernel_rfl) (fun _ _ _ h => h) (by rfl) (fun v hv => by go_simp) hH ?_
                    simp only [Act.put, List.setIfInBounds_toArray, List.set_cons_succ, List.set_cons_zero]
                    refine takeH 12 (.bool true) rfl (by kernel_rfl) (by kernel_rfl) (by kernel_rfl) (fun _ _ _ h => h) (by rfl) (fun v hv => by go_simp) hH ?_
                    simp only [Act.put, List.setIfInBounds_toArray, List.set_cons_succ, List.set_cons_zero]
                    refine takeH 13 (.func (Fn.func 13) #[] #[]) rfl (by kernel_rfl) (by kernel_rfl) (by kernel_rfl) (fun _ _ _ h => h) (by rfl) (fun v hv => by go_simp) hH ?_
                    simp only [Act.put, List.setIfInBounds_toArray, List.set_cons_succ, List.set_cons_zero]
                    refine takeH 14 (.slice (some x) j cx) rfl (by kernel_rfl) (by kernel_rfl) (by kernel_rfl) (fun _ _ _ h => h) (by rfl) (fun v hv => by go_simp) hH ?_
                    simp only [Act.put, List.setIfInBounds_toArray, List.set_cons_succ, List.set_cons_zero]
                    refine takeH 15 (.int .i64 (i : Int)) rfl (by kernel_rfl) (by kernel_rfl) (by kernel_rfl) (fun _ _ _ h => h) (by rfl) (fun v hv => by go_simp) hH ?_
                    simp only [Act.put, List.setIfInBounds_toArray, List.set_cons_succ, List.set_cons_zero]
                    refine takeH 16 (.pointer (some (x.add (i * k)))) rfl (by kernel_rfl) (by kernel_rfl) (by kernel_rfl) (fun _ _ _ h => h) (by rfl) (fun v hv => by go_simp) hH ?_
                    simp only [Act.put, List.setIfInBounds_toArray, List.set_cons_succ, List.set_cons_zero]
                    refine takeH 17 (.agg cs.toArray) rfl (by kernel_rfl) (by kernel_rfl) (by kernel_rfl) (fun _ _ _ h => h) (by rfl) (fun v hv => by have h := lx.out v hv; unfold execOp; simp [Instr.loadAt, Instr.sureAddr, Sem.run_bind, Sem.run_pure, Result.andThen_ok, Act.eval, h]) hH ?_
                    simp only [Act.put, List.setIfInBounds_toArray, List.set_cons_succ, List.set_cons_zero]
                    refine takeH 18 (.slice (some x) j cx) rfl (by kernel_rfl) (by kernel_rfl) (by kernel_rfl) (fun _ _ _ h => h) (by rfl) (fun v hv => by go_simp) hH ?_
                    simp only [Act.put, List.setIfInBounds_toArray, List.set_cons_succ, List.set_cons_zero]
                    refine takeH 19 (.int .i64 (i : Int)) rfl (by kernel_rfl) (by kernel_rfl) (by kernel_rfl) (fun _ _ _ h => h) (by rfl) (fun v hv => by go_simp) hH ?_
                    simp only [Act.put, List.setIfInBounds_toArray, List.set_cons_succ, List.set_cons_zero]
                    refine takeH 20 (.int .i64 (m : Int)) rfl (by kernel_rfl) (by kernel_rfl) (by kernel_rfl) (fun _ _ _ h => h) (by rfl) (fun v hv => by go_simp) hH ?_
                    simp only [Act.put, List.setIfInBounds_toArray, List.set_cons_succ, List.set_cons_zero]
                    refine takeH 21 (.pointer (some (x.add (m * k)))) rfl (by kernel_rfl) (by kernel_rfl) (by kernel_rfl) (fun _ _ _ h => h) (by rfl) (fun v hv => by go_simp) hH ?_
                    simp only [Act.put, List.setIfInBounds_toArray, List.set_cons_succ, List.set_cons_zero]
                    refine takeH 22 (.agg cm.toArray) rfl (by kernel_rfl) (by kernel_rfl) (by kernel_rfl) (fun _ _ _ h => h) (by rfl) (fun v hv => by have h := lp.out v hv; unfold execOp; simp [Instr.loadAt, Instr.sureAddr, Sem.run_bind, Sem.run_pure, Result.andThen_ok, Act.eval, h]) hH ?_
                    simp only [Act.put, List.setIfInBounds_toArray, List.set_cons_succ, List.set_cons_zero]
                    refine callH 23 rfl (by kernel_rfl) (by rfl) 13 #[.agg cs.toArray, .agg cm.toArray] (by go_simp) (.bool false) hH (fun hS => (hls.out _).mono fun e w' h => ⟨h.1, hS.trans h.2⟩) ?_
                    clear hH
                    intro vv hH
                    simp only [Act.put, List.setIfInBounds_toArray, List.set_cons_succ, List.set_cons_zero]
                    refine takeH 24 (.bool false) rfl (by kernel_rfl) (by kernel_rfl) (by kernel_rfl) (fun _ _ _ h => h) (by rfl) (fun v hv => by go_simp) hH ?_
                    simp only [Act.put, List.setIfInBounds_toArray, List.set_cons_succ, List.set_cons_zero]
                    refine takeH 25 (.bool false) rfl (by kernel_rfl) (by kernel_rfl) (by kernel_rfl) (fun _ _ _ h => h) (by rfl) (fun v hv => by go_simp) hH ?_
                    simp only [Act.put, List.setIfInBounds_toArray, List.set_cons_succ, List.set_cons_zero]
                    refine wpAnyH_done (by kernel_rfl) ?_ _
                    go_wp2_with fail
                    go_meet
                    exact ⟨rfl, hid hH⟩
                case rest =>
                  obtain ⟨rfl, hg⟩ := hcut
                  have hk := hid (HK6.out.trans hg.out)
                  have hin := Hlt.out
                  clear hg
                  go_wp2_with fail
                  go_roundw
                  case rel => exact ⟨i + 1, hin, by go_num, hk⟩
                  case measure => simp [intOf]; omega
          · go_wp2
            go_ret
            exact ⟨rfl, K5.out.trans HK6.out⟩
end
end Go.Proofs.YtmfjfahlgcdehaaDoor
