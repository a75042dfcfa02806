/- ChunkSplits, of numbers that are right. -/
import Derived.Test.YtllcfffpagogbaaDoorU4
namespace Go.Proofs.YtllcfffpagogbaaDoor
open Go.RowKit Go.Lib

theorem head_rows (av : Option Addr) (n m c : Nat) (h : m ≤ c) (W : World) : (Instr.sliceAt 33 (.slice av n c) none (some (.int .i64 (m : Int))) none).run Tryd.prog W = .ok (.slice av m c) W := by
  rw [run_sliceAt_slice W 33 _ _ _ _ (by simp [Program.elem, Tryd.underlying33])]
  have hs : (sizeOf 25).run Tryd.prog W = .ok 1 W := by kernel_rfl
  rw [run_slice_h W 33 _ _ _ (by simp [Program.elem, Tryd.underlying33]) .i64 (m : Int) (by omega) (by omega)]
  have he : Tryd.prog.elem 33 = 25 := by simp [Program.elem, Tryd.underlying33]
  have ha : ∀ ad : Addr, ad.add 0 = ad := fun ad => by unfold Addr.add; split <;> simp_all
  rw [he, hs]
  cases av <;> simp [Result.andThen, sliced, ha]

set_option maxRecDepth 100000 in
set_option maxHeartbeats 8000000 in
theorem chunk_splits_ok (P : Chunk.Par) (s : Int) (hok : ParOk P) (hs0 : 0 ≤ s) (hs1 : s < 18446744073709551616) (ba : Option Addr) (cap : Nat) (ys : List UInt8) (most : Int) (w : World) (hdb : DB w) (hb : Sl w ba cap ys) (hl : ¬ 300 < ys.length) :
    Calls Tryd.prog 3 #[parV P.min P.max P.bits P.width s, .slice ba ys.length cap, .int .i64 most] w fun e w' => e = .returned (.bool true) ∧ Kept [] w w' := by
  obtain ⟨w0, hw0⟩ : ∃ w0, w0 = w.alloc (.cells #[.int .i64 (P.min : Int), .int .i64 (P.max : Int), .int .i64 (P.bits : Int), .int .i64 (P.width : Int), .int .u64 s] 24) := ⟨_, rfl⟩
  have k0 : Kept [] w w0 := hw0 ▸ (Kept.refl _ _).alloc _
  have hal := hid (alive09 w0 (hdb.kept k0 (by simp)))
  have hp0 : ParAt w0 w.heap.size P.min P.max P.bits P.width s := by rw [hw0]; exact heap_alloc_at rfl
  have hmax := hb.max; have hle := hb.le
  have hn := hid (fun W (hd : DB W) => new_ok P s hok hs0 hs1 W hd)
  have hright := hid (fun W => right_ok P s hok W)
  have hrs := hid (fun a' c' W (h : Sl W a' c' ys) => rsplit_any P s hok hs0 hs1 a' c' ys W h (by omega))
  obtain ⟨T, hT⟩ : ∃ T, T = num s := ⟨_, rfl⟩
  rw [← hT] at hn hrs
  obtain ⟨R, hR⟩ : ∃ R, R = spl P T ys := ⟨_, rfl⟩
  obtain ⟨N, hN⟩ : ∃ N, N = R.length := ⟨_, rfl⟩
  have hN1 : N ≤ 300 := by rw [hN, hR]; have := split_le P T ys; omega
  obtain ⟨M, hM⟩ : ∃ M : Nat, bits .and .i64 most 7 = (M : Int) := ⟨(most % 8).toNat, by rw [i64_and7]; omega⟩
  have hM7 : M ≤ 7 := by rw [i64_and7] at hM; omega
  obtain ⟨n, hnn⟩ : ∃ n, n = min M N := ⟨_, rfl⟩
  have hnL : n = (R.take M).length := by rw [List.length_take, hnn, hN]
  have hnL2 : R.take n = R.take M := by
    rw [hnn, hN]; rcases Nat.le_total M R.length with h | h
    · rw [Nat.min_eq_left h]
    · rw [Nat.min_eq_right h, List.take_length, List.take_of_length_le h]
  have hNL : N = (R.take 1000).length := by rw [List.length_take]; omega
  have hNL2 : R.take 1000 = R := List.take_of_length_le (by omega)
  have hall := hid (fun c g W (h : Ch W c P s g T) (h2 : Sl W ba cap ys) => (show Calls Tryd.prog 15 #[.pointer (some ⟨c, 0, none⟩), .slice ba ys.length cap, .int .i64 1000] W (fun e w' => ∃ av cv, e = .returned (.tuple #[.slice av N cv, .bool true]) ∧ Kept [] W w' ∧ RV w' av R ∧ N ≤ cv ∧ cv ≤ 9223372036854775807) from by
    have h3 := all09m c P s g T ba cap ys 1000 N (by rw [← hR]; exact hNL) W h h2 (by omega) (by omega)
    rw [← hR, hNL2] at h3; exact h3))
  have hallM := hid (fun c g W (h : Ch W c P s g T) (h2 : Sl W ba cap ys) => (show Calls Tryd.prog 15 #[.pointer (some ⟨c, 0, none⟩), .slice ba ys.length cap, .int .i64 (M : Int)] W (fun e w' => ∃ av cv, e = .returned (.tuple #[.slice av n cv, .bool true]) ∧ Kept [] W w' ∧ RV w' av (R.take M) ∧ n ≤ cv ∧ cv ≤ 9223372036854775807) from by
    have h3 := all09m c P s g T ba cap ys M n (by rw [← hR]; exact hnL) W h h2 (by omega) (by omega)
    rw [← hR] at h3; exact h3))
  -- the first one
  obtain ⟨q, hq⟩ : ∃ q, q = Chunk.first (Chunk.ends P) T P.width ys := ⟨_, rfl⟩
  have hq0 := hid (show N = 0 → q = 0 from fun h => by
    have h1 : R = [] := List.eq_nil_of_length_eq_zero (by rw [← hN]; exact h)
    have h2 : ys = [] := by
      cases hy : ys with
      | nil => rfl
      | cons x r =>
        rw [hR, hy, show spl P T (x :: r) = _ from Chunk.split_cons (E := Chunk.ends P) (T := T) (k := P.width) (x :: r) (by simp)] at h1; cases h1
    rw [hq, h2]; rfl)
  have hq1 := hid (show ∀ r, R[0]? = some r → r.length = q from fun r hr => by
    have h2 : ys ≠ [] := fun e => by rw [hR, e, spl_nil] at hr; simp at hr
    rw [hR, show spl P T ys = _ from Chunk.split_cons (E := Chunk.ends P) (T := T) (k := P.width) ys h2] at hr
    simp at hr
    rw [← hr, List.length_take, hq]
    have := Chunk.first_le (E := Chunk.ends P) (T := T) (k := P.width) ys
    omega)
  have hfi := hid (fun c g W (h : Ch W c P s g T) (h2 : Sl W ba cap ys) => (show Calls Tryd.prog 16 #[.pointer (some ⟨c, 0, none⟩), .slice ba ys.length cap] W (fun e w' => e = .returned (.int .i64 (q : Int)) ∧ Kept [] W w') from by
    have h3 := cfirst_any c P s g T ba cap ys W h h2.reads (by omega)
    rw [← hq] at h3; exact h3))
  have Hsl := hid hb
  have hd := hid hdb
  have HnL2 := hid hnL2; have HN := hid hN; have HR := hid hR; have Hnn := hid hnn
  have hget := hid (fun j (hj : j < N) => (⟨R[j]'(hN ▸ hj), List.getElem?_eq_getElem _⟩ : ∃ x, R[j]? = some x))
  rw [← hR, ← hN] at hrs
  clear hb hdb hok hT hR hN hnn hnL hnL2 hNL hNL2 hq
  go_enter Tryd.func3, Tryd.ntmps3
  go_wp2_with fail
  rw [← hw0]
  refine hal.out.mono ?_
  rintro r w1 ⟨rfl, k1⟩
  have hp1 : ParAt w1 w.heap.size P.min P.max P.bits P.width s := k1.at hp0 (by simp)
  obtain ⟨c0, c1, c2, c3, c4, -, -, -⟩ := hp1.cells
  have K1 := hid (k0.trans k1)
  clear k1 hw0 hp0 k0 hal
  go_wp2_with fail
  refine (hn.out w1 (hd.out.kept K1.out (by simp))).mono ?_
  rintro r w2 ⟨c, g, rfl, k2, hch, -, -⟩
  have hp2 : ParAt w2 w.heap.size P.min P.max P.bits P.width s := k2.at hp1 (by simp)
  obtain ⟨d0, d1, d2, d3, d4, -, -, -⟩ := hp2.cells
  have K2 := hid (K1.out.trans k2)
  obtain ⟨w3, hw3⟩ : ∃ w3, w3 = w2.alloc (.cells #[.int .i64 (P.min : Int), .int .i64 (P.max : Int), .int .i64 (P.bits : Int), .int .i64 (P.width : Int), .int .u64 s] 31) := ⟨_, rfl⟩
  have k23 : Kept [] w2 w3 := hw3 ▸ (Kept.refl _ _).alloc _
  have K3 := hid (K2.out.trans k23)
  have hx3 : w3.heap[w2.heap.size]? = some (.cells #[.int .i64 (P.min : Int), .int .i64 (P.max : Int), .int .i64 (P.bits : Int), .int .i64 (P.width : Int), .int .u64 s] 31 (0, 0)) := by rw [hw3]; exact heap_alloc_at rfl
  have Hch3 := hid (hch.kept k23 (by simp) (by simp) (by simp))
  clear k2 k23 hch c0 c1 c2 c3 c4 hp1
  go_wp2_with fail
  rw [← hw3]
  refine (hright.out _).mono ?_
  rintro r w4 ⟨rfl, k4⟩
  have hx4 := k4.at hx3 (by simp)
  have e0 := cell_of_row w4 w2.heap.size 0 _ _ _ hx4
  have e1 := cell_of_row w4 w2.heap.size 1 _ _ _ hx4
  have e2 := cell_of_row w4 w2.heap.size 2 _ _ _ hx4
  have e3 := cell_of_row w4 w2.heap.size 3 _ _ _ hx4
  have e4 := cell_of_row w4 w2.heap.size 4 _ _ _ hx4
  have K4 := hid (K3.out.trans k4)
  have Hch4 := hid (Hch3.out.kept k4 (by simp) (by simp) (by simp))
  have hs4 := hid (Hsl.out.kept K4.out (by simp))
  clear k4 hx3 hx4 d0 d1 d2 d3 d4 hp2 hw3 hright
  go_wp2_with fail
  refine (hrs.out ba cap w4 hs4.out).mono ?_
  rintro r w5 ⟨av, cv, rfl, k5, hrv5, hcv1, hcv2, hav⟩
  have Hch5 := hid (Hch4.out.kept k5 (by simp) (by simp) (by simp))
  have hs5 := hid (hs4.out.kept k5 (by simp))
  have K5 := hid (K4.out.trans k5)
  have Hrv5 := hid hrv5; have Hav := hid hav
  clear k5 hrv5 hav e0 e1 e2 e3 e4 hrs
  go_wp2_with fail
  refine (split_full c P s g T ba cap ys w5 Hch5.out hs5.out (by omega)).mono ?_
  rintro r w6 ⟨v, xs, rfl, k6, hz, hrow, hps, hfr⟩
  obtain ⟨lv, lc, rfl, hlc1, hlc2, hlrv, hlv⟩ := rv_of hrow hps
  have hz1 : xs.map (·.ys) = R := by rw [HR.out]; exact hz.1
  have hxN : xs.length = N := by rw [HN.out, ← hz1]; simp
  rw [hz1] at hlrv
  have K56 := hid k6
  have Hrow := hid hrow; have Hps := hid hps; have Hfr := hid hfr
  have hsm := hid ((same16 lv av lc cv R w6 hlrv (Hrv5.out.kept k6) (by rw [← HN.out]; omega) (by rw [← HN.out, ← hxN]; exact ⟨hlc1, hlc2⟩) (by rw [← HN.out]; exact ⟨hcv1, hcv2⟩)))
  have Hz1 := hid hz1; have HxN := hid hxN
  rw [← HN.out] at hsm
  rw [hxN] at hlc1 ⊢
  clear k6 hrow hps hfr hz hz1 hxN hlrv hlv
  go_wp2_with fail
  refine hsm.out.mono ?_
  rintro r w7 ⟨rfl, k7⟩
  have K57 := hid (K56.out.trans k7)
  obtain ⟨S, hS⟩ : ∃ S, S = blocksOf xs := ⟨_, rfl⟩
  have Hps7 := hid (Hps.out.kept k7 (by simp))
  have hSge := hid (show ∀ k ∈ S, w5.heap.size ≤ k from fun k hk => by
    rw [hS] at hk
    obtain ⟨x, hx, y, hy, rfl⟩ := mem_blocks.1 hk
    exact ((Hps.out x hx).2.2 y hy).1)
  have Hrow7 := hid (k7.owns Hrow.out (fun g hg => by simp))
  have hst0 : ClI w7 S xs w7 := ⟨Kept.refl _ _, room_of Hps7.out (fun x hx y hy => (Hfr.out x hx y hy).kept k7 (by simp))⟩
  have hSm := hid (show ∀ x ∈ xs, ∀ y, x.a = some y → y.block ∈ S from fun x hx y hy => by rw [hS]; exact mem_blocks.2 ⟨x, hx, y, hy, rfl⟩)
  have hSr := hid (show ∀ gv, lv = some ⟨gv, 0, none⟩ → gv ∉ S from fun gv hgv hm => by
    rw [hS] at hm
    obtain ⟨x, hx, y, hy, hyb⟩ := mem_blocks.1 hm
    have h1 := row_ne' Hrow7.out (Hps7.out x hx).1 (Hps7.out x hx).2.1 (fun h => by rw [h] at hx; simp at hx) hy ((Hps7.out x hx).2.2 y hy).2.2
    rw [hgv] at h1
    simp [Value.ownBlock] at h1
    exact h1 hyb)
  clear k7 hS Hfr Hrow Hps hsm
  go_wp2_with fail
  go_loopw [14, 64] (fun _ i wr => ∃ j : Nat, j ≤ N ∧ i = .int .i64 (j : Int) ∧ Hid (ClI w7 S xs wr)) (fun _ i _ => N - (intOf i).toNat)
  case atStart => exact ⟨0, Nat.zero_le _, rfl, hid hst0⟩
  case round =>
    clear hst0
    obtain ⟨j, hj, rfl, hs⟩ := hrel
    by_cases hlt : j < N
    · have hxl := HxN.out
      obtain ⟨x, hx⟩ : ∃ x, xs[j]? = some x := ⟨xs[j]'(by omega), List.getElem?_eq_getElem _⟩
      have hxm := List.mem_of_getElem? hx
      obtain ⟨gv, c', hv, -, -, hcells⟩ := row_slice Hrow7.out (by omega)
      simp at hv
      obtain ⟨rfl, rfl⟩ := hv
      have hc7 := hcells j x hx
      have hcell := (hs.out.kept.cell (p := ⟨gv, j, none⟩) (World.block_lt_of_cell? w7 _ hc7) (hSr.out gv rfl)).trans hc7
      obtain ⟨h1, h2, h3⟩ := Hps7.out x hxm
      obtain ⟨y, hy⟩ : ∃ y, x.a = some y := by
        obtain ⟨ad, had, -⟩ := h1.reads.get 0 (List.length_pos_iff.2 h2)
        exact ⟨ad, had⟩
      have h4 := (h3 y hy).2.2
      have hroom := hs.out.room x hxm y hy
      have hin := hSm.out x hxm y hy
      have hm0 : 0 < x.ys.length := List.length_pos_iff.2 h2
      obtain ⟨yb, yo, ysp⟩ := y
      obtain ⟨e1, e2⟩ := h4
      dsimp only at e1 e2 hroom hin
      subst e1; subst e2
      obtain ⟨m, hm⟩ : ∃ m, m = x.ys.length := ⟨_, rfl⟩
      obtain ⟨xc, hxc⟩ : ∃ c, c = x.c := ⟨_, rfl⟩
      rw [pval, hy, ← hm, ← hxc] at hcell
      rw [← hm] at hroom hm0
      have hclr : ∀ ty, (Builtin.clear_ #[25] ty #[.slice (some ⟨yb, 0, none⟩) m xc]).run Tryd.prog wr = .ok (.tuple #[]) (wr.setCells yb 0 (List.replicate m (.int .u8 0))) := fun ty =>
        Lib.run_clear_slice wr 25 5 ty (.int .u8 0) Tryd.underlying25 zero_u8 rfl rfl yb 0 m xc hm0 (fun i hi => by rw [Nat.zero_add]; exact (hroom i hi).1) (fun i hi => by rw [Nat.zero_add]; exact (hroom i hi).2)
      have hs2 := hid (hs.out.clear hin (List.replicate m (.int .u8 0)))
      clear hs hroom hin hm0 h1 h2 h3 hm hxc hy hcells hc7 hxm hx hxl
      go_wp2_with (simp only [hclr])
      exact ⟨⟨j + 1, by omega, by go_num, hs2⟩, by simp [intOf]; omega⟩
    · obtain rfl : j = N := by omega
      have KW := hid (show Kept [] w5 wr from K57.out.trans' hs.out.kept (fun x hx hm => by have := hSge.out x hm; omega))
      clear hs
      go_wp2_with fail
      refine (hall.out c g wr (Hch5.out.kept KW.out (by simp) (by simp) (by simp)) (hs5.out.kept KW.out (by simp))).mono ?_
      rintro r w8 ⟨a1, c1, rfl, k8, r8, l8, u8⟩
      have K8 := hid (KW.out.trans k8)
      have R8 := hid r8
      clear k8 r8
      go_wp2_with fail
      refine (hallM.out c g w8 (Hch5.out.kept K8.out (by simp) (by simp) (by simp)) (hs5.out.kept K8.out (by simp))).mono ?_
      rintro r w9 ⟨a2, c2, rfl, k9, r9, l9, u9⟩
      have K9 := hid (K8.out.trans k9)
      have KF := hid (K5.out.trans K9.out)
      have hS1 := hid (fun V (k : Kept [] w9 V) => (by
        have h := same16 a1 av c1 cv R V ((R8.out.kept k9).kept k) (Hrv5.out.kept (K9.out.trans k)) (by rw [← HN.out]; omega) (by rw [← HN.out]; exact ⟨l8, u8⟩) (by rw [← HN.out]; exact ⟨hcv1, hcv2⟩)
        rw [← HN.out] at h
        exact h.mono fun e w' h => ⟨h.1, k.trans h.2⟩ : Calls Tryd.prog 14 #[.slice a1 j c1, .slice av j cv] V (fun e w' => e = .returned (.bool true) ∧ Kept [] w9 w')))
      have hnj : n ≤ j := by have := Hnn.out; omega
      have hS2 := hid (fun V (k : Kept [] w9 V) => (by
        have hnl : (R.take M).length = n := by rw [← HnL2.out, List.length_take, ← HN.out]; omega
        have h := same16 a2 av c2 cv (R.take M) V (r9.kept k) (by rw [← HnL2.out]; exact (Hrv5.out.kept (K9.out.trans k)).take n) (by omega) (by omega) (by omega)
        rw [hnl] at h
        exact h.mono fun e w' h => ⟨h.1, k.trans h.2⟩ : Calls Tryd.prog 14 #[.slice a2 n c2, .slice av n cv] V (fun e w' => e = .returned (.bool true) ∧ Kept [] w9 w')))
      have hF := hid (fun V (k : Kept [] w9 V) => (hfi.out c g V (Hch5.out.kept (K9.out.trans k) (by simp) (by simp) (by simp)) (hs5.out.kept (K9.out.trans k) (by simp))).mono fun e w' h => (⟨h.1, k.trans h.2⟩ : _ ∧ Kept [] w9 w'))
      have hsl := fun W => head_rows av j n cv (by omega) W
      have kA := (Kept.refl [] w9).drew
      by_cases hN0 : j = 0
      · have hqz := hq0.out hN0
        subst hqz
        subst hN0
        have hn0 : n = 0 := by omega
        subst hn0
        have hF0 := hid (show ∀ V, Kept [] w9 V → Calls Tryd.prog 16 #[.pointer (some ⟨c, 0, none⟩), .slice ba ys.length cap] V (fun e w' => e = .returned (.int .i64 0) ∧ Kept [] w9 w') from hF.out)
        clear k9 r9 R8 hall hallM hfi K8 KW Hps7 Hrow7 hSm hSr hSge hnj hF
        rcases Nat.eq_zero_or_pos M with hm0 | hm0
        · subst hm0
          go_wp2_with fail
          with_reducible refine (hS1.out w9 (Kept.refl _ _)).mono ?_
          rintro e v1 ⟨rfl, q1⟩
          go_wp2_with fail
          with_reducible refine (hS2.out v1 q1).mono ?_
          rintro e v2 ⟨rfl, q2⟩
          go_wp2_with fail
          with_reducible refine (hF0.out v2 q2).mono ?_
          rintro e v3 ⟨rfl, q3⟩
          go_wp2
          go_ret
          exact ⟨rfl, KF.out.trans q3⟩
        · have hmi : (0 : Int) < (M : Int) := by omega
          have hmi2 : ¬ (M : Int) < 0 := by omega
          have hmi3 : ¬ (M : Int) ≤ 0 := by omega
          go_wp2_with fail
          with_reducible refine (hS1.out w9 (Kept.refl _ _)).mono ?_
          rintro e v1 ⟨rfl, q1⟩
          go_wp2_with fail
          with_reducible refine (hS2.out v1 q1).mono ?_
          rintro e v2 ⟨rfl, q2⟩
          go_wp2_with fail
          with_reducible refine (hF0.out v2 q2).mono ?_
          rintro e v3 ⟨rfl, q3⟩
          go_wp2
          go_ret
          exact ⟨rfl, KF.out.trans q3⟩
      · obtain ⟨fr, hfr⟩ := hget.out 0 (by omega)
        obtain ⟨ad, fa, fc, had, hcl, -⟩ := Hrv5.out.kept K9.out 0 fr hfr
        obtain ⟨gw, rfl⟩ : ∃ gw, av = some ⟨gw, 0, none⟩ := by
          obtain ⟨h1, h2, -⟩ := Hav.out ad had
          obtain ⟨bk, o, sp⟩ := ad
          dsimp only at h1 h2
          subst h1; subst h2
          exact ⟨bk, had⟩
        cases had
        rw [plain_add, hq1.out fr hfr] at hcl
        have hj0 : 0 < j := by omega
        clear k9 r9 R8 hfr hall hallM hfi K8 KW Hps7 Hrow7 hSm hSr hSge
        have Hnj := hid hnj
        clear hnj
        rcases Nat.lt_trichotomy M j with hmj | hmj | hmj
        · obtain rfl : n = M := by have := Hnn.out; omega
          have hmi : (n : Int) < (j : Int) := by omega
          have hmi2 : ¬ (j : Int) < (n : Int) := by omega
          have hmi3 : (n : Int) ≤ (j : Int) := by omega
          go_wp2_with fail
          with_reducible refine (hS1.out w9 (Kept.refl _ _)).mono ?_
          rintro e v1 ⟨rfl, q1⟩
          go_wp2_with fail
          with_reducible refine (hS2.out v1 q1).mono ?_
          rintro e v2 ⟨rfl, q2⟩
          go_wp2_with fail
          with_reducible refine (hF.out v2 q2).mono ?_
          rintro e v3 ⟨rfl, q3⟩
          go_wp2
          go_ret
          exact ⟨rfl, KF.out.trans q3⟩
        · obtain rfl : n = M := by have := Hnn.out; omega
          subst hmj
          go_wp2_with fail
          with_reducible refine (hS1.out w9 (Kept.refl _ _)).mono ?_
          rintro e v1 ⟨rfl, q1⟩
          go_wp2_with fail
          with_reducible refine (hS2.out v1 q1).mono ?_
          rintro e v2 ⟨rfl, q2⟩
          go_wp2_with fail
          with_reducible refine (hF.out v2 q2).mono ?_
          rintro e v3 ⟨rfl, q3⟩
          go_wp2
          go_ret
          exact ⟨rfl, KF.out.trans q3⟩
        · obtain rfl : n = j := by have := Hnn.out; omega
          have hmi : (n : Int) < (M : Int) := by omega
          have hmi2 : ¬ (M : Int) < (n : Int) := by omega
          go_wp2_with fail
          with_reducible refine (hS1.out w9 (Kept.refl _ _)).mono ?_
          rintro e v1 ⟨rfl, q1⟩
          go_wp2_with fail
          with_reducible refine (hS2.out v1 q1).mono ?_
          rintro e v2 ⟨rfl, q2⟩
          go_wp2_with fail
          with_reducible refine (hF.out v2 q2).mono ?_
          rintro e v3 ⟨rfl, q3⟩
          go_wp2
          go_ret
          exact ⟨rfl, KF.out.trans q3⟩
end Go.Proofs.YtllcfffpagogbaaDoor
