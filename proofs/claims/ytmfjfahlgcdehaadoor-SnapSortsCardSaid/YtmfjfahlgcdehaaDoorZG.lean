import Derived.Test.YtmfjfahlgcdehaaDoorZE
import Derived.Test.YtmfjfahlgcdehaaDoorZF
import Derived.Test.YtmfjfahlgcdehaaDoorMY
import Derived.Test.YtmfjfahlgcdehaaDoorZ8

/- coldstorelaw11.SnapSorts: the walk. -/
namespace Go.Proofs.YtmfjfahlgcdehaaDoor
open Go.RowKit Go.Lib Go.Sort Go.Shelf

set_option maxRecDepth 100000 in
set_option maxHeartbeats 16000000 in
theorem snap_sorts (a : Option Addr) (c : Nat) (xs : List Sq) (w : World) (ht : Tab w) (hts : Tabs w) (h : Snaps w a c xs) :
    Calls Tryd.prog 3 #[.slice a xs.length c] w fun e w' => e = .returned (.bool true) ∧ Kept [] w w' := by
  obtain ⟨i0, hi0, hz0, hz1, hz2⟩ := info_parts snap_zero
  obtain ⟨j0, hj0, hy0, hy1, hy2⟩ := info_parts rsnap_zero
  have hal := hid (alive11 w ht hts)
  have H := hid (fun wr (hk : Kept [] w wr) => snaps_keep h hk)
  have hmx := h.max; have hle := h.le
  obtain ⟨n, hn⟩ : ∃ n, n = xs.length := ⟨_, rfl⟩
  rw [← hn] at hle ⊢
  have HN := hid hn
  clear h hn ht hts
  have hzv := zero_snap
  go_enter Tryd.func3, Tryd.ntmps3
  go_wp2_with fail
  refine hal.out.mono ?_
  rintro e w1 ⟨rfl, k1⟩
  have K1 := hid k1
  clear k1 hal
  by_cases q0 : (60 : Int) < (n : Int)
  · go_wp2
    go_ret
    exact ⟨rfl, K1.out⟩
  have hsrc := hid (show Src w1 (.slice a n c) n (xs.flatMap encQ) from by have := (H.out w1 K1.out).src; rwa [← HN.out] at this)
  have hst := hid (show Kept [] w1 (w1.alloc (.cells #[] 28)) ∧ (w1.alloc (.cells #[] 28)).ownsRow w1.heap.size 28 37 (.slice (some ⟨w1.heap.size, 0, none⟩) 0 0) 0 [] from
    ⟨(Kept.refl [] w1).alloc _, by simp, Or.inr ⟨w1.heap.size, 0, #[], rfl, Nat.le_refl _, heap_alloc_at rfl, by simp, by unfold maxLen; omega, by simp, by simp⟩⟩)
  go_wp2_with (at_builtin; refine halt ?_)
  refine Halt.mk ?_
  refine wpList_append_k _ rfl _ _ _ rfl w1.heap.size 28 i0 _ 37 88 Tryd.underlying22 hi0 hz0 hz1 hz2 (by rw [Value.cells, List.size_toArray, zSnap_len]) (by decide) (.slice (some ⟨w1.heap.size, 0, none⟩) 0 0) 0 [] rfl hst.out.2 (.slice a n c) n (xs.flatMap encQ) rfl ?_ (by rw [flat_len encQ 37 encQ_len, ← HN.out]) (encs_one _) (by unfold maxLen; omega) (by omega) (by simp) ?_
  · rcases hsrc.out with h1 | ⟨ad, c', h1, hr⟩
    · exact Or.inl h1
    · exact Or.inr ⟨ad, c', h1, fun j u hj => (hst.out.1.cell (World.block_lt_of_cell? w1 _ (hr j u hj)) (by simp)).trans (hr j u hj)⟩
  intro vw w2 hown2 hgrow2 hnil2 hf2
  simp only [Nat.zero_add, List.nil_append] at hown2
  obtain ⟨g, wcap, rfl, hgb, hgc, hgm, hgs, hgx⟩ := row_some hown2 (fun e => by have := (hnil2.1 e).1; simp at this)
  have K2 := hid (show Kept [] w w2 from (K1.out.trans hst.out.1).trans' (Kept.of_row hgrow2) (fun y hy hm => by simp [Value.ownBlock] at hm; have := K1.out.size; omega))
  have HW := hid hgx; have hwm : wcap ≤ 9223372036854775807 := by unfold maxLen at hgm; exact hgm
  clear hown2 hgrow2 hnil2 hf2 hst hsrc hgx hgb hgm hgs
  have hst2 := hid (show Kept [] w2 (w2.alloc (.cells #[] 29)) ∧ (w2.alloc (.cells #[] 29)).ownsRow w2.heap.size 29 37 (.slice (some ⟨w2.heap.size, 0, none⟩) 0 0) 0 [] from
    ⟨(Kept.refl [] w2).alloc _, by simp, Or.inr ⟨w2.heap.size, 0, #[], rfl, Nat.le_refl _, heap_alloc_at rfl, by simp, by unfold maxLen; omega, by simp, by simp⟩⟩)
  go_wp2_with fail
  go_loopw [4, 21] (fun v t wr => ∃ i : Nat, i ≤ n ∧ t = .int .i64 i ∧ Hid (v ≠ .slice none 0 0) ∧ Hid (Kept [] w2 wr) ∧ Hid (wr.ownsRow w2.heap.size 29 37 v i ((xs.take i).flatMap encQ))) (fun _ t _ => n - (intOf t).toNat)
  case atStart => exact ⟨0, Nat.zero_le _, rfl, hid (by simp), hid hst2.out.1, hid (by simpa using hst2.out.2)⟩
  case round =>
    obtain ⟨i, hi, rfl, Hnn, HK, Ho⟩ := hrel
    by_cases hlt : i < n
    · have Hlt := hid hlt
      have hltz : (i : Int) < (n : Int) := by omega
      have hSx := hid (H.out wr (K2.out.trans HK.out))
      cases a with
      | none => exact absurd (hSx.out.nil rfl).1 (fun e => by have := HN.out; rw [e] at this; simp at this; omega)
      | some x =>
        obtain ⟨sq, hsq⟩ : ∃ sq, xs[i]? = some sq := ⟨xs[i]'(by have := HN.out; omega), by simp⟩
        have htk := hid (show (xs.take (i + 1)).flatMap encQ = (xs.take i).flatMap encQ ++ encQ sq from by
          rw [List.take_add_one, hsq, List.flatMap_append]; simp)
        obtain ⟨cs, hcs⟩ : ∃ cs, cs = encQ sq := ⟨_, rfl⟩
        have lcs := hid (show cs.length = 37 by rw [hcs, encQ_len])
        have hsz := hid (show (Tryd.prog.info? 28).map (·.size) = some cs.length by rw [lcs.out]; exact snap_info)
        have hfit := hid (show 0 + cs.length ≤ zSnap.length by rw [lcs.out, zSnap_len]; decide)
        have hspl := hid (splice36 zSnap cs (by rw [lcs.out, zSnap_len]))
        have hreads := hid (show ∀ (k : Nat) v, cs[k]? = some v → wr.cell? ((x.add (i * 37)).add k) = some v from fun k v hv => by
          rw [snap_add_add]; exact hSx.out.at_ x rfl i sq hsq k v (by rw [← hcs]; exact hv))
        have hone := hid (show ∀ u ∈ cs, u.oneCell' = true by rw [hcs]; exact sq.1.one)
        have hbn := hid (fun W => build_rsnap sq.1 sq.2.root W)
        have hcs2 : cs = sq.1.cells := hcs
        rw [← hcs2] at hbn
        rw [← hcs] at htk
        clear hsq hcs hcs2 hlt hSx
        go_wp2_with (refine wpList_load_cells rfl 28 (.tmp 23) rfl (x.add (i * 37)) rfl cs _ Tryd.underlying28 rfl hsz.out hreads.out ?_; refine halt ?_)
        refine Halt.mk ?_
        go_wp2_with (refine wpList_store_at rfl 28 (.tmp 6) (.tmp 24) rfl wr.heap.size 0 cs rfl rfl 28 zSnap (heap_alloc_at rfl) hsz.out hfit.out hone.out ?_; refine halt ?_)
        rw [hspl.out]
        obtain ⟨wb, hwb⟩ : ∃ wb : World, wb = (wr.alloc (.cells zSnap.toArray 28)).setRow wr.heap.size cs.toArray := ⟨_, rfl⟩
        rw [← hwb]
        refine Halt.mk ?_
        have hkr := hid (show Kept [] wr wb by rw [hwb]; exact ((Kept.refl [] wr).alloc _).setRow (fun h => absurd h (Nat.lt_irrefl _)) _)
        have hqb := hid (ld_at (show wb.heap[wr.heap.size]? = some (.cells cs.toArray 28 (0, 0)) from by rw [hwb]; exact setRow_heap _ _ _ _ _ _ (heap_alloc_at rfl)))
        clear hwb hreads
        go_wp2_with (first | (refine wpList_load_cells rfl 28 (.tmp 6) rfl ⟨wr.heap.size, 0, none⟩ rfl cs _ Tryd.underlying28 rfl hsz.out hqb.out ?_) | (refine wpList_buildSlice rfl _ _ _ rfl (.slice (some ⟨wb.heap.size, 0, none⟩) 1 1) (wb.alloc (.cells cs.toArray 29)) (by have h := hbn.out wb; unfold execOp; simp [Act.eval, Act.put, h]) ?_; refine halt ?_))
        refine Halt.mk ?_
        obtain ⟨wc, hwc⟩ : ∃ wc : World, wc = wb.alloc (.cells cs.toArray 29) := ⟨_, rfl⟩
        rw [← hwc]
        have hkc := hid (show Kept [] wr wc from by rw [hwc]; exact hkr.out.alloc _)
        have hnew := hid (show ∀ (j : Nat) u, cs[j]? = some u → wc.cell? ((⟨wb.heap.size, 0, none⟩ : Addr).add j) = some u from fun j u hu => renc_at (by rw [hwc]; exact heap_alloc_at rfl) j u hu)
        have ho2 := hid (hkc.out.owns Ho.out (by simp))
        have hsb := hid (show w2.heap.size ≤ wc.heap.size by have h1 := HK.out.size; have h2 := hkc.out.size; omega)
        clear hwc
        go_wp2_with (at_builtin; refine halt ?_)
        refine Halt.mk ?_
        refine wpList_append_k _ rfl _ _ _ rfl w2.heap.size 29 j0 _ 37 88 Tryd.underlying24 hj0 hy0 hy1 hy2 (by rw [Value.cells, List.size_toArray, zSnap_len]) (by decide) u4 i _ rfl ho2.out (.slice (some ⟨wb.heap.size, 0, none⟩) 1 1) 1 cs rfl (Or.inr ⟨_, _, rfl, hnew.out⟩) (by rw [lcs.out]) hone.out (by unfold maxLen; omega) (by omega) hsb.out ?_
        intro v2 w4 hown4 hgrow4 hnil4 hf4
        have hk4 : Hid (Kept [] w2 w4) := hid ((HK.out.trans hkc.out).trans' (Kept.of_row hgrow4) (fun y hy hm => by
          rw [Option.mem_toList] at hm
          have h1 := ownsE_ge Ho.out hm; omega))
        have hv2 := hid (show v2 ≠ .slice none 0 0 from fun e => Hnn.out (hnil4.1 e).1)
        rw [← htk.out] at hown4
        have Ho2 := hid hown4
        have hin := Hlt.out
        clear hown4 hgrow4 hnil4 hf4
        go_wp2
        go_roundw
        case rel => exact ⟨i + 1, hin, by go_num, hv2, hk4, Ho2⟩
        case measure => simp [intOf]; omega
    · obtain rfl : i = n := by omega
      have hob := Ho.out
      rw [List.take_of_length_le (by have := HN.out; omega)] at hob
      obtain ⟨go, ocap, rfl, _⟩ := row_some hob Hnn.out
      have hSo := hid (snapsR_of_row (xs := xs) (e := 29) (base := w2.heap.size) (W := wr) (a := some ⟨go, 0, none⟩) (c := ocap) (by rw [← HN.out]; exact hob))
      have K5 := hid (K2.out.trans HK.out)
      have hS5 := hid (H.out wr K5.out)
      have hso := hid (show Calls Tryd.prog 11 #[.slice a i c] wr (SortedQ wr xs) from by rw [HN.out]; exact snapsort_any a c xs wr hS5.out (by have := HN.out; omega))
      clear hob hlt
      go_wp2_with fail
      refine hso.out.mono ?_
      rintro e w6 ⟨gx, gc, ys, rfl, k6, sx, px, ox, bx⟩
      rw [show ys.length = i by rw [px.length_eq]; exact HN.out.symm]
      have k6' := hid k6
      have SX := hid sx; have PX := hid px; have OX := hid ox
      have hrs := hid (show Calls Tryd.prog 12 #[.slice (some ⟨go, 0, none⟩) i ocap] w6 _ from by
        have h1 := ref_sort (some ⟨go, 0, none⟩) ocap xs w6 (snaps_keep hSo.out k6) (by have := HN.out; omega)
        rw [← HN.out] at h1; exact h1)
      clear k6 sx px ox bx hso
      go_wp2_with fail
      refine hrs.out.mono ?_
      rintro e w7 ⟨ox, oc, zs, rfl, k7, so, po, oo⟩
      obtain rfl : zs = ys := (sorted_one (PX.out.trans po.symm) OX.out oo).symm
      have hln := hid (show zs.length = i by rw [PX.out.length_eq]; exact HN.out.symm)
      rw [hln.out]
      have K67 := hid (k6'.out.trans k7)
      have SG := hid (snaps_keep SX.out k7)
      have SO := hid so
      have K7 := hid (K5.out.trans K67.out)
      have K27 := hid (HK.out.trans K67.out)
      clear k7 so po oo hrs
      go_wp2_with fail
      obtain ⟨n, rfl⟩ : ∃ n, n = i := ⟨_, rfl⟩
      go_loopw [9, 41] (fun _ t wr => ∃ i : Nat, i ≤ n ∧ t = .int .i64 i ∧ Hid (Kept [] w7 wr)) (fun _ t _ => n - (intOf t).toNat)
      case atStart => exact ⟨0, Nat.zero_le _, rfl, hid (Kept.refl _ _)⟩
      case round =>
        clear HK Ho Hnn hSo
        obtain ⟨i, hin, rfl, HK8⟩ := hrel
        by_cases hlt : i < n
        · have Hlt := hid hlt
          have hltz : (i : Int) < (n : Int) := by omega
          have SG8 := hid (snaps_keep SG.out HK8.out)
          have SO8 := hid (snaps_keep SO.out HK8.out)
          have SL8 := hid (H.out wr (K7.out.trans HK8.out))
          have K28 := hid (K27.out.trans HK8.out)
          cases a with
          | none => exact absurd (SL8.out.nil rfl).1 (fun e => by have := HN.out; rw [e] at this; simp at this; omega)
          | some x =>
            cases gx with
            | none => exact absurd (SG8.out.nil rfl).1 (fun e => by have := hln.out; rw [e] at this; simp at this; omega)
            | some gx =>
              cases ox with
              | none => exact absurd (SO8.out.nil rfl).1 (fun e => by have := hln.out; rw [e] at this; simp at this; omega)
              | some ox =>
                have hgl := SG8.out.le; have hgm := SG8.out.max; have hol := SO8.out.le; have hom := SO8.out.max
                rw [hln.out] at hgl hol
                go_upto_region 18 with fail
                go_cut [63] (fun s wx => s = .bool false ∧ Hid (Kept [] wr wx))
                case first =>
                  obtain ⟨sy, hsy⟩ : ∃ sy, zs[i]? = some sy := ⟨zs[i]'(by have := hln.out; omega), by simp⟩
                  obtain ⟨sq, hsq⟩ : ∃ sq, xs[i]? = some sq := ⟨xs[i]'(by have := HN.out; omega), by simp⟩
                  obtain ⟨cy, hcy⟩ : ∃ cy, cy = encQ sy := ⟨_, rfl⟩
                  obtain ⟨cs, hcs⟩ : ∃ cs, cs = encQ sq := ⟨_, rfl⟩
                  have hat : ∀ (b : Addr) (l : List Sq) (s : Sq) (cm : List Value), cm = encQ s → l[i]? = some s → (∀ i s, l[i]? = some s → ∀ j v, (encQ s)[j]? = some v → wr.cell? (b.add (i * 37 + j)) = some v) → cm.length = 37 ∧ ∀ wv, Kept [] wr wv → ∀ (k : Nat) v, cm[k]? = some v → wv.cell? ((b.add (i * 37)).add k) = some v := fun b l s cm e1 e2 hc =>
                    ⟨by rw [e1, encQ_len], fun wv hk k v hv => by
                      have h1 := hc i s e2 k v (by rw [← e1]; exact hv)
                      rw [snap_add_add]
                      exact (hk.cell (World.block_lt_of_cell? wr _ h1) (by simp)).trans h1⟩
                  have lg := hid (show ∀ wv, Kept [] wr wv → (loadVar 28 (gx.add (i * 37))).run Tryd.prog wv = .ok (.agg cy.toArray) wv from fun wv hk => have q := hat gx zs sy cy hcy hsy (SG8.out.at_ gx rfl); run_loadVar_cells wv _ _ cy _ Tryd.underlying28 rfl (by rw [q.1]; exact snap_info) (q.2 wv hk))
                  have lo := hid (show ∀ wv, Kept [] wr wv → (loadVar 29 (ox.add (i * 37))).run Tryd.prog wv = .ok (.agg cy.toArray) wv from fun wv hk => have q := hat ox zs sy cy hcy hsy (SO8.out.at_ ox rfl); run_loadVar_cells wv _ _ cy _ Tryd.underlying29 rfl (by rw [q.1]; exact rsnap_info) (q.2 wv hk))
                  have lx := hid (show ∀ wv, Kept [] wr wv → (loadVar 28 (x.add (i * 37))).run Tryd.prog wv = .ok (.agg cs.toArray) wv from fun wv hk => have q := hat x xs sq cs hcs hsq (SL8.out.at_ x rfl); run_loadVar_cells wv _ _ cs _ Tryd.underlying28 rfl (by rw [q.1]; exact snap_info) (q.2 wv hk))
                  have lw := hid (show ∀ wv, Kept [] wr wv → (loadVar 28 ⟨g, i * 37, none⟩).run Tryd.prog wv = .ok (.agg cs.toArray) wv from fun wv hk => by
                    have q := hat ⟨g, 0, none⟩ xs sq cs hcs hsq (fun k s hs j v hv => by
                      have hj : j < 37 := by have := (List.getElem?_eq_some_iff.1 hv).1; rw [encQ_len] at this; exact this
                      have h2 := HW.out (k * 37 + j) v (by rw [flat_get encQ 37 encQ_len xs k j s hs hj]; exact hv)
                      rw [plain_add, Nat.zero_add]
                      exact (K28.out.cell (World.block_lt_of_cell? w2 _ h2) (by simp)).trans h2)
                    have h1 := run_loadVar_cells wv _ _ cs _ Tryd.underlying28 rfl (by rw [q.1]; exact snap_info) (q.2 wv hk)
                    rw [plain_add, Nat.zero_add] at h1; exact h1)
                  have n1 : ∀ W, (binOp .neq 29 (.agg cy.toArray) (.agg cy.toArray)).run Tryd.prog W = .ok (.bool false) W := fun W => by
                    rw [hcy]; exact (rsnap_neq sy.1 sy.1 sy.2 sy.2 W).trans (by rw [decide_eq_true rfl]; rfl)
                  have n2 : ∀ W, (binOp .neq 28 (.agg cs.toArray) (.agg cs.toArray)).run Tryd.prog W = .ok (.bool false) W := fun W => by
                    rw [hcs]; exact (snap_neq sq.1 sq.1 sq.2 sq.2 W).trans (by rw [decide_eq_true rfl]; rfl)
                  clear hat hcy hcs hsy hsq
                  refine wp_region_held_drew (S := Kept [] wr) (by kernel_rfl) (Kept.refl [] wr).drew (fun hH => ?_)
                  refine takeH 0 (.slice (some gx) n gc) rfl (by kernel_rfl) (by kernel_rfl) (by kernel_rfl) (fun _ _ _ h => h) (by rfl) (fun v hv => by go_simp) hH ?_
                  simp only [Act.put, List.setIfInBounds_toArray, List.set_cons_succ, List.set_cons_zero]
                  refine takeH 1 (.int .i64 (i : Int)) rfl (by kernel_rfl) (by kernel_rfl) (by kernel_rfl) (fun _ _ _ h => h) (by rfl) (fun v hv => by go_simp) hH ?_
                  simp only [Act.put, List.setIfInBounds_toArray, List.set_cons_succ, List.set_cons_zero]
                  refine takeH 2 (.pointer (some (gx.add (i * 37)))) rfl (by kernel_rfl) (by kernel_rfl) (by kernel_rfl) (fun _ _ _ h => h) (by rfl) (fun v hv => by go_simp) hH ?_
                  simp only [Act.put, List.setIfInBounds_toArray, List.set_cons_succ, List.set_cons_zero]
                  refine takeH 3 (.agg cy.toArray) rfl (by kernel_rfl) (by kernel_rfl) (by kernel_rfl) (fun _ _ _ h => h) (by rfl) (fun v hv => by have h := lg.out v hv; unfold execOp; simp [Instr.loadAt, Instr.sureAddr, Sem.run_bind, Sem.run_pure, Result.andThen_ok, Act.eval, h]) hH ?_
                  simp only [Act.put, List.setIfInBounds_toArray, List.set_cons_succ, List.set_cons_zero]
                  refine takeH 4 (.slice (some ox) n oc) rfl (by kernel_rfl) (by kernel_rfl) (by kernel_rfl) (fun _ _ _ h => h) (by rfl) (fun v hv => by go_simp) hH ?_
                  simp only [Act.put, List.setIfInBounds_toArray, List.set_cons_succ, List.set_cons_zero]
                  refine takeH 5 (.int .i64 (i : Int)) rfl (by kernel_rfl) (by kernel_rfl) (by kernel_rfl) (fun _ _ _ h => h) (by rfl) (fun v hv => by go_simp) hH ?_
                  simp only [Act.put, List.setIfInBounds_toArray, List.set_cons_succ, List.set_cons_zero]
                  refine takeH 6 (.pointer (some (ox.add (i * 37)))) rfl (by kernel_rfl) (by kernel_rfl) (by kernel_rfl) (fun _ _ _ h => h) (by rfl) (fun v hv => by go_simp) hH ?_
                  simp only [Act.put, List.setIfInBounds_toArray, List.set_cons_succ, List.set_cons_zero]
                  refine takeH 7 (.agg cy.toArray) rfl (by kernel_rfl) (by kernel_rfl) (by kernel_rfl) (fun _ _ _ h => h) (by rfl) (fun v hv => by have h := lo.out v hv; unfold execOp; simp [Instr.loadAt, Instr.sureAddr, Sem.run_bind, Sem.run_pure, Result.andThen_ok, Act.eval, h]) hH ?_
                  simp only [Act.put, List.setIfInBounds_toArray, List.set_cons_succ, List.set_cons_zero]
                  refine takeH 8 (.bool false) rfl (by kernel_rfl) (by kernel_rfl) (by kernel_rfl) (fun _ _ _ h => h) (by rfl) (fun v hv => by go_simp) hH ?_
                  simp only [Act.put, List.setIfInBounds_toArray, List.set_cons_succ, List.set_cons_zero]
                  refine takeH 9 (.bool false) rfl (by kernel_rfl) (by kernel_rfl) (by kernel_rfl) (fun _ _ _ h => h) (by rfl) (fun v hv => by go_simp) hH ?_
                  simp only [Act.put, List.setIfInBounds_toArray, List.set_cons_succ, List.set_cons_zero]
                  refine takeH 10 (.slice (some x) n c) rfl (by kernel_rfl) (by kernel_rfl) (by kernel_rfl) (fun _ _ _ h => h) (by rfl) (fun v hv => by go_simp) hH ?_
                  simp only [Act.put, List.setIfInBounds_toArray, List.set_cons_succ, List.set_cons_zero]
                  refine takeH 11 (.int .i64 (i : Int)) rfl (by kernel_rfl) (by kernel_rfl) (by kernel_rfl) (fun _ _ _ h => h) (by rfl) (fun v hv => by go_simp) hH ?_
                  simp only [Act.put, List.setIfInBounds_toArray, List.set_cons_succ, List.set_cons_zero]
                  refine takeH 12 (.pointer (some (x.add (i * 37)))) rfl (by kernel_rfl) (by kernel_rfl) (by kernel_rfl) (fun _ _ _ h => h) (by rfl) (fun v hv => by go_simp) hH ?_
                  simp only [Act.put, List.setIfInBounds_toArray, List.set_cons_succ, List.set_cons_zero]
                  refine takeH 13 (.agg cs.toArray) rfl (by kernel_rfl) (by kernel_rfl) (by kernel_rfl) (fun _ _ _ h => h) (by rfl) (fun v hv => by have h := lx.out v hv; unfold execOp; simp [Instr.loadAt, Instr.sureAddr, Sem.run_bind, Sem.run_pure, Result.andThen_ok, Act.eval, h]) hH ?_
                  simp only [Act.put, List.setIfInBounds_toArray, List.set_cons_succ, List.set_cons_zero]
                  refine takeH 14 (.slice (some ⟨g, 0, none⟩) n wcap) rfl (by kernel_rfl) (by kernel_rfl) (by kernel_rfl) (fun _ _ _ h => h) (by rfl) (fun v hv => by go_simp) hH ?_
                  simp only [Act.put, List.setIfInBounds_toArray, List.set_cons_succ, List.set_cons_zero]
                  refine takeH 15 (.int .i64 (i : Int)) rfl (by kernel_rfl) (by kernel_rfl) (by kernel_rfl) (fun _ _ _ h => h) (by rfl) (fun v hv => by go_simp) hH ?_
                  simp only [Act.put, List.setIfInBounds_toArray, List.set_cons_succ, List.set_cons_zero]
                  refine takeH 16 (.pointer (some ⟨g, i * 37, none⟩)) rfl (by kernel_rfl) (by kernel_rfl) (by kernel_rfl) (fun _ _ _ h => h) (by rfl) (fun v hv => by go_simp) hH ?_
                  simp only [Act.put, List.setIfInBounds_toArray, List.set_cons_succ, List.set_cons_zero]
                  refine takeH 17 (.agg cs.toArray) rfl (by kernel_rfl) (by kernel_rfl) (by kernel_rfl) (fun _ _ _ h => h) (by rfl) (fun v hv => by have h := lw.out v hv; unfold execOp; simp [Instr.loadAt, Instr.sureAddr, Sem.run_bind, Sem.run_pure, Result.andThen_ok, Act.eval, h]) hH ?_
                  simp only [Act.put, List.setIfInBounds_toArray, List.set_cons_succ, List.set_cons_zero]
                  refine takeH 18 (.bool false) rfl (by kernel_rfl) (by kernel_rfl) (by kernel_rfl) (fun _ _ _ h => h) (by rfl) (fun v hv => by go_simp) hH ?_
                  simp only [Act.put, List.setIfInBounds_toArray, List.set_cons_succ, List.set_cons_zero]
                  refine takeH 19 (.bool false) rfl (by kernel_rfl) (by kernel_rfl) (by kernel_rfl) (fun _ _ _ h => h) (by rfl) (fun v hv => by go_simp) hH ?_
                  simp only [Act.put, List.setIfInBounds_toArray, List.set_cons_succ, List.set_cons_zero]
                  refine wpAnyH_done (by kernel_rfl) ?_ _
                  go_wp2_with fail
                  go_meet
                  exact ⟨rfl, hid hH⟩

                case rest =>
                  obtain ⟨rfl, hg⟩ := hcut
                  have hk := hid (HK8.out.trans hg.out)
                  have hin2 := Hlt.out
                  clear hg
                  go_wp2_with fail
                  go_roundw
                  case rel => exact ⟨i + 1, hin2, by go_num, hk⟩
                  case measure => simp [intOf]; omega
        · go_wp2
          go_ret
          exact ⟨rfl, K7.out.trans HK8.out⟩
end Go.Proofs.YtmfjfahlgcdehaaDoor
