import Derived.Test.YtmfjfahlgcdehaaDoorJ5

/- snap.Decode. -/
namespace Go.Proofs.YtmfjfahlgcdehaaDoor
open Go.RowKit Go.Lib

theorem ld_at {w : World} {p : Nat} {cs : List Value} (h : w.heap[p]? = some (.cells cs.toArray 28 (0, 0))) : ∀ (j : Nat) v, cs[j]? = some v → w.cell? ((⟨p, 0, none⟩ : Addr).add j) = some v := by
  intro j v hj
  have e : (⟨p, 0, none⟩ : Addr).add j = ⟨p, j, none⟩ := by unfold Addr.add; split <;> simp_all
  rw [e, cell_of_row w _ j _ _ _ h]; simpa using hj
theorem zinf : (Tryd.prog.info? 28).map (·.size) = some zSnap.length := by rw [zSnap_len]; exact snap_info
theorem run_ld_snap {w : World} {p : Nat} {cs : List Value} (h : w.heap[p]? = some (.cells cs.toArray 28 (0, 0))) (hl : cs.length = 37) : (loadVar 28 ⟨p, 0, none⟩).run Tryd.prog w = .ok (.agg cs.toArray) w :=
  run_loadVar_cells w _ _ cs _ Tryd.underlying28 rfl (by rw [hl]; exact snap_info) (ld_at h)
theorem run_built_zero (w : World) : (Instr.build 28 #[]).run Tryd.prog w = .ok (Value.agg zSnap.toArray) w := run_build w _ _ _ (by kernel_rfl)

set_option maxRecDepth 100000 in
set_option maxHeartbeats 4000000 in
theorem j_snapdecode (sv : Value) (bs : List UInt8) (w : World) (hsrc : SrcB w sv bs) (ht : Tab w) (hlen : bs.length ≤ 1000000) :
    Calls Tryd.prog 33 #[sv] w fun e w' => e = .returned (.tuple #[.agg (decV bs).cells.toArray, .int .i64 (decErr bs)]) ∧ Kept [] w w' := by
  have hzv := zero_snap
  have hbz := run_built_zero
  have hmf : ∀ (fn : Fn) (first cap : Array Value) (w : World), (Instr.makeFunc fn first cap).run Tryd.prog w = .ok (.func fn first cap) w := fun _ _ _ _ => rfl
  obtain ⟨a, c, rfl⟩ := hsrc.size
  obtain ⟨W0, hW0⟩ : ∃ W0, W0 = w.alloc (.cells zSnap.toArray 28) := ⟨_, rfl⟩
  have K0 := hid (show Kept [] w W0 from hW0 ▸ (Kept.refl [] w).alloc _)
  have B0 := hid (show W0.heap[w.heap.size]? = some (.cells zSnap.toArray 28 (0, 0)) from hW0 ▸ heap_alloc_at rfl)
  have HT := hid (ht.kept K0.out (by simp))
  have hun := hid (show Calls Tryd.prog 54 #[.int .u8 83, .slice a bs.length c] W0 (Unsealed W0 83 bs) from unseal_any 83 _ bs W0 (hsrc.kept K0.out (by simp)) HT.out (by omega))
  have HW0 := hid hW0
  have hpos := hid (show w.heap.size < W0.heap.size from lt_of_block B0.out)
  clear hsrc ht hW0
  go_enter Tryd.func33, Tryd.ntmps33
  go_wp2_with fail
  rw [← HW0.out]
  refine hun.out.mono ?_
  rintro e w1 ⟨a1, c1, rfl, k1, hb1, hx1⟩
  have K1 := hid (K0.out.trans k1)
  have B1 := hid (k1.at B0.out (by simp))
  have hU := hid (show (unsealed 83 bs).length ≤ 1000000 by unfold unsealed; split <;> (simp; try omega))
  obtain ⟨us, hus⟩ : ∃ us, us = unsealed 83 bs := ⟨_, rfl⟩
  rw [← hus] at hb1 hU ⊢
  have Hb1 := hid hb1; have Hx1 := hid hx1; have k1' := hid k1; have Hus := hid hus
  clear hb1 hx1 k1 hun hus
  obtain ⟨ue, hue⟩ : ∃ ue, ue = unsealErr 83 bs := ⟨_, rfl⟩
  rw [← hue]
  by_cases h0 : ue = 0
  · subst h0
    have hun0 := hid (show unsealErr 83 bs = 0 from hue.symm)
    clear hue
    obtain ⟨W1, hW1⟩ : ∃ W1, W1 = w1.alloc (.cells zSnap.toArray 28) := ⟨_, rfl⟩
    have KW1 := hid (show Kept [] w1 W1 from hW1 ▸ (Kept.refl [] w1).alloc _)
    have BW1 := hid (show W1.heap[w1.heap.size]? = some (.cells zSnap.toArray 28 (0, 0)) from hW1 ▸ heap_alloc_at rfl)
    have hps := hid (lt_of_block BW1.out)
    have hd := hid (decode_any' 63 enters_snap1 #[.pointer (some ⟨w1.heap.size, 0, none⟩)] (.slice a1 us.length c1) us W1 (Hb1.out.kept KW1.out (by simp)).1 (by have := hU.out; omega) [w1.heap.size] (fun x hx => by simp at hx; have := hps.out; omega)
      (SnQ w1.heap.size us) (fun n rest W W' x hq hx he hk => hq.kept (by have := hps.out; omega) hk)
      (fun rb a' c' W hk hrb hab hrd => j_snapread1 rb w1.heap.size a' c' us W hrd (fun x hx => ⟨(hab x hx).2, by have := (hab x hx).1; have := hps.out; omega⟩) (hk.at BW1.out (by simp)) (by have := hps.out; omega)))
    have HW1 := hid hW1
    clear hW1
    go_wp2_with fail
    rw [← HW1.out]
    refine hd.out.mono ?_
    rintro e w2 ⟨n, rest, rfl, hk2, hq⟩
    have K2 := hid (show Kept [] w w2 from (K1.out.trans KW1.out).trans' hk2 (fun x hx hm => by simp at hm; have := K1.out.size; omega))
    have B2 := hid (show w2.heap[w.heap.size]? = some (.cells zSnap.toArray 28 (0, 0)) from hk2.at (KW1.out.at B1.out (by simp)) (by have := hpos.out; have := k1'.out.size; simp; omega))
    clear hk2 hd
    have w2B := hid B2.out; have w2K := hid K2.out
    have zSnapI := hid zinf; have zSnapL := hid zSnap_len; have zSnapO := hid (show ∀ v ∈ zSnap, v.oneCell' = true by rw [← zSp_cells]; exact zSp.one)
    have hnone := hid (fun hn : decS bs = none => show (Ending.returned (.tuple #[.agg zSnap.toArray, .int .i64 21])) = .returned (.tuple #[.agg (decV bs).cells.toArray, .int .i64 (decErr bs)]) from by
      unfold decV decErr
      rw [hn, if_neg (by simp [hun0.out])]; rfl)
    rcases hq with ⟨rfl, s, hr, hok, hat⟩ | ⟨hn0, hr, _⟩
    · by_cases hrest : rest = []
      · subst hrest
        have Hr := hid hr; have Hok := hid hok; have Hat := hid hat
        have hck := hid (fun W => j_snapcheck s Hok.out W)
        obtain ⟨cs, hcs⟩ : ∃ cs, cs = s.cells := ⟨_, rfl⟩
        have csL := hid (show cs.length = 37 by rw [hcs]; exact Sp.size hok)
        have csI := hid (show (Tryd.prog.info? 28).map (·.size) = some cs.length by rw [hcs]; exact Sp.info hok)
        have csO := hid (show ∀ v ∈ cs, v.oneCell' = true by rw [hcs]; exact s.one)
        have hat2 := hid (show w2.heap[w1.heap.size]? = some (.cells cs.toArray 28 (0, 0)) by rw [hcs]; exact hat)
        have hrd := hid (ld_at hat2.out)
        have HCS := hid hcs
        rw [← hcs] at hck
        clear hr hok hat hcs
        rw [if_neg (by simp)]
        obtain ⟨er, her⟩ : ∃ er, er = s.err := ⟨_, rfl⟩
        have HER := hid her
        rw [← her] at hck
        clear her
        by_cases he : er = 0
        · subst he
          have hsome := hid (show decS bs = some s from by unfold decS; rw [if_pos hun0.out, ← Hus.out, Hr.out]; simp [← HER.out])
          go_wp2_with (refine j_load_if (by rfl) 28 (.tmp 6) rfl ⟨w1.heap.size, 0, none⟩ rfl cs _ Tryd.underlying28 rfl csI.out hrd.out ?_)
          refine (hck.out w2).mono ?_
          rintro e w3 ⟨rfl, k3⟩
          have w3K := hid (w2K.out.trans k3)
          have w3B := hid (k3.at w2B.out (by simp))
          have hrd3 := hid (ld_at (k3.at hat2.out (by simp)))
          clear k3
          go_wp2_with (refine wpList_load_cells rfl 28 (.tmp 6) rfl ⟨w1.heap.size, 0, none⟩ rfl cs _ Tryd.underlying28 rfl csI.out hrd3.out ?_; refine halt ?_)
          refine Halt.mk ?_
          go_wp2_with (refine wpList_store_at rfl 28 (.tmp 2) (.tmp 27) rfl w.heap.size 0 cs rfl rfl 28 zSnap w3B.out csI.out (by have h1 := csL.out; have h2 := zSnap_len; omega) csO.out ?_; refine halt ?_)
          rw [splice36 zSnap cs (csL.out.trans zSnap_len.symm)]
          refine Halt.mk ?_
          have hbz := hid (show (w3.setRow w.heap.size cs.toArray).heap[w.heap.size]? = some (.cells cs.toArray 28 (0, 0)) from setRow_heap _ _ _ _ _ _ w3B.out)
          have hkz := hid (show Kept [] w (w3.setRow w.heap.size cs.toArray) from w3K.out.setRow (fun h => absurd h (Nat.lt_irrefl _)) _)
          generalize w3.setRow w.heap.size cs.toArray = wz at *
          go_wp2
          refine bodyPost_ret (v := .tuple #[.agg cs.toArray, .int .i64 _]) (results_cell2 Tryd.results33 rfl rfl (run_ld_snap hbz.out csL.out)) rfl ⟨by unfold decV decErr; rw [hsome.out, if_neg (by simp [hun0.out])]; simp [HCS.out], hkz.out⟩
        · have hn := hid (show decS bs = none from by unfold decS; rw [if_pos hun0.out, ← Hus.out, Hr.out]; simp [← HER.out, he])
          have hee : (er != 0) = true := by simpa using he
          clear he
          go_wp2_with (refine j_load_if (by rfl) 28 (.tmp 6) rfl ⟨w1.heap.size, 0, none⟩ rfl cs _ Tryd.underlying28 rfl csI.out hrd.out ?_)
          refine (hck.out w2).mono ?_
          rintro e w3 ⟨rfl, k3⟩
          have w3K := hid (w2K.out.trans k3)
          have w3B := hid (k3.at w2B.out (by simp))
          clear k3
          go_wp2_with (refine wpList_store_at rfl 28 (.tmp 2) (.tmp 26) rfl w.heap.size 0 zSnap rfl rfl 28 zSnap w3B.out zSnapI.out (by have h1 := zSnapL.out; have h2 := zSnap_len; omega) zSnapO.out ?_; refine halt ?_)
          rw [splice36 zSnap zSnap (zSnapL.out.trans zSnap_len.symm)]
          refine Halt.mk ?_
          have hbz := hid (show (w3.setRow w.heap.size zSnap.toArray).heap[w.heap.size]? = some (.cells zSnap.toArray 28 (0, 0)) from setRow_heap _ _ _ _ _ _ w3B.out)
          have hkz := hid (show Kept [] w (w3.setRow w.heap.size zSnap.toArray) from w3K.out.setRow (fun h => absurd h (Nat.lt_irrefl _)) _)
          generalize w3.setRow w.heap.size zSnap.toArray = wz at *
          go_wp2
          refine bodyPost_ret (v := .tuple #[.agg zSnap.toArray, .int .i64 _]) (results_cell2 Tryd.results33 rfl rfl (run_ld_snap hbz.out zSnapL.out)) rfl ⟨hnone.out hn.out, hkz.out⟩
      · rw [if_pos ⟨rfl, hrest⟩]
        have hn := hid (show decS bs = none from by
          unfold decS; rw [if_pos hun0.out, ← Hus.out, hr]
          cases rest with
          | nil => exact absurd rfl hrest
          | cons x r => rfl)
        clear hr hok hat hrest
        go_wp2_with (refine wpList_store_at rfl 28 (.tmp 2) (.tmp 26) rfl w.heap.size 0 zSnap rfl rfl 28 zSnap w2B.out zSnapI.out (by have h1 := zSnapL.out; have h2 := zSnap_len; omega) zSnapO.out ?_; refine halt ?_)
        rw [splice36 zSnap zSnap (zSnapL.out.trans zSnap_len.symm)]
        refine Halt.mk ?_
        have hbz := hid (show (w2.setRow w.heap.size zSnap.toArray).heap[w.heap.size]? = some (.cells zSnap.toArray 28 (0, 0)) from setRow_heap _ _ _ _ _ _ w2B.out)
        have hkz := hid (show Kept [] w (w2.setRow w.heap.size zSnap.toArray) from w2K.out.setRow (fun h => absurd h (Nat.lt_irrefl _)) _)
        generalize w2.setRow w.heap.size zSnap.toArray = wz at *
        go_wp2
        refine bodyPost_ret (v := .tuple #[.agg zSnap.toArray, .int .i64 _]) (results_cell2 Tryd.results33 rfl rfl (run_ld_snap hbz.out zSnapL.out)) rfl ⟨hnone.out hn.out, hkz.out⟩
    · rw [if_neg (fun h => hn0 h.1)]
      have hn := hid (show decS bs = none from by unfold decS; rw [if_pos hun0.out, ← Hus.out, hr])
      have hee : (n != 0) = true := by simpa using hn0
      clear hr hn0
      go_wp2_with (refine wpList_store_at rfl 28 (.tmp 2) (.tmp 26) rfl w.heap.size 0 zSnap rfl rfl 28 zSnap w2B.out zSnapI.out (by have h1 := zSnapL.out; have h2 := zSnap_len; omega) zSnapO.out ?_; refine halt ?_)
      rw [splice36 zSnap zSnap (zSnapL.out.trans zSnap_len.symm)]
      refine Halt.mk ?_
      have hbz := hid (show (w2.setRow w.heap.size zSnap.toArray).heap[w.heap.size]? = some (.cells zSnap.toArray 28 (0, 0)) from setRow_heap _ _ _ _ _ _ w2B.out)
      have hkz := hid (show Kept [] w (w2.setRow w.heap.size zSnap.toArray) from w2K.out.setRow (fun h => absurd h (Nat.lt_irrefl _)) _)
      generalize w2.setRow w.heap.size zSnap.toArray = wz at *
      go_wp2
      refine bodyPost_ret (v := .tuple #[.agg zSnap.toArray, .int .i64 _]) (results_cell2 Tryd.results33 rfl rfl (run_ld_snap hbz.out zSnapL.out)) rfl ⟨hnone.out hn.out, hkz.out⟩
  · have hee : (ue != 0) = true := by simpa using h0
    have w1B := hid B1.out; have w1K := hid K1.out
    have zSnapI := hid zinf; have zSnapL := hid zSnap_len; have zSnapO := hid (show ∀ v ∈ zSnap, v.oneCell' = true by rw [← zSp_cells]; exact zSp.one)
    have hn := hid (show (Ending.returned (.tuple #[.agg zSnap.toArray, .int .i64 ue])) = .returned (.tuple #[.agg (decV bs).cells.toArray, .int .i64 (decErr bs)]) from by
      have h1 : unsealErr 83 bs ≠ 0 := by rw [← hue]; exact h0
      unfold decV decErr decS
      rw [if_neg h1, if_pos h1, ← hue]; rfl)
    clear h0 hue
    go_wp2_with (refine wpList_store_at rfl 28 (.tmp 2) (.tmp 14) rfl w.heap.size 0 zSnap rfl rfl 28 zSnap w1B.out zSnapI.out (by have h1 := zSnapL.out; have h2 := zSnap_len; omega) zSnapO.out ?_; refine halt ?_)
    rw [splice36 zSnap zSnap (zSnapL.out.trans zSnap_len.symm)]
    refine Halt.mk ?_
    have hbz := hid (show (w1.setRow w.heap.size zSnap.toArray).heap[w.heap.size]? = some (.cells zSnap.toArray 28 (0, 0)) from setRow_heap _ _ _ _ _ _ w1B.out)
    have hkz := hid (show Kept [] w (w1.setRow w.heap.size zSnap.toArray) from w1K.out.setRow (fun h => absurd h (Nat.lt_irrefl _)) _)
    generalize w1.setRow w.heap.size zSnap.toArray = wz at *
    go_wp2
    refine bodyPost_ret (v := .tuple #[.agg zSnap.toArray, .int .i64 _]) (results_cell2 Tryd.results33 rfl rfl (run_ld_snap hbz.out zSnapL.out)) rfl ⟨hn.out, hkz.out⟩
end Go.Proofs.YtmfjfahlgcdehaaDoor
