import Derived.Test.YtembincggkpflaaDoorB7

/- coldstorelaw12.PackBuilds. -/
namespace Go.Proofs.YtembincggkpflaaDoor
open Go.RowKit Go.Lib Go.Maps

theorem EnsW.kept2 {w w' : World} {S : List Nat} {d : Option Addr} {es : List En} (h : EnsW w d es) (hk : Kept S w w') (hd : ∀ x, d = some x → x.block ∉ S) : EnsW w' d es :=
  ⟨h.none, fun x hx => by
    obtain ⟨g, h1, h2, h3⟩ := h.at_ x hx
    refine ⟨g, h1, Nat.lt_of_lt_of_le h2 hk.size, fun i e he => ⟨(h3 i e he).1, fun j v hv => ?_⟩⟩
    have h4 := (h3 i e he).2 j v hv
    exact (hk.cell (World.block_lt_of_cell? w _ h4) (by have := hd x hx; rw [h1] at this; exact this)).trans h4⟩
theorem PkAt.grow {w w' : World} {S : List Nat} {bl : List (List UInt8)} {a d : Option Addr} {m c n k : Nat} (h : PkAt w bl a m c d n k) (hk : Kept S w w') (ha : bl.flatten ≠ [] → ∀ x, a = some x → x.block ∉ S) (hd : ∀ x, d = some x → x.block ∉ S) : PkAt w' bl a m c d n k := by
  refine ⟨h.hm, h.hn, ?_, h.he.kept2 hk hd, h.hdk⟩
  have h1 := h.hs
  by_cases he : bl.flatten = []
  · rw [he] at h1 ⊢
    rcases h1 with h2 | ⟨ad, c', h2, _⟩
    · exact Or.inl h2
    · exact Or.inr ⟨ad, c', h2, fun j u hj => by simp at hj⟩
  · rw [h.hm] at h1 ⊢
    exact h1.kept hk (fun x hx => by
      cases a with
      | none => simp [Value.ownBlock] at hx
      | some y => simp [Value.ownBlock] at hx; subst hx; exact ha he y rfl)
theorem PkAt.lt {w : World} {bl : List (List UInt8)} {a d : Option Addr} {m c n k : Nat} (h : PkAt w bl a m c d n k) : (bl.flatten ≠ [] → ∀ x, a = some x → x.block < w.heap.size) ∧ ∀ x, d = some x → x.block < w.heap.size := by
  refine ⟨fun he x hx => ?_, fun x hx => ?_⟩
  · subst hx
    rcases h.hs with ⟨h1, _⟩ | ⟨ad, c', h1, h2⟩
    · simp at h1
    · simp at h1
      obtain ⟨rfl, _⟩ := h1
      cases hf : bl.flatten with
      | nil => exact absurd hf he
      | cons b r =>
        have := World.block_lt_of_cell? w _ (h2 0 (B b) (by rw [hf]; rfl))
        simpa [add_block] using this
  · obtain ⟨g, h1, h2, _⟩ := h.he.at_ x hx
    rw [h1]; exact h2
/-- Behind so many blobs. -/
structure PbI (w : World) (p p4 : Nat) (bl : List (List UInt8)) (S : List Nat) (a : Option Addr) (m c : Nat) (d : Option Addr) (n k : Nat) (wr : World) : Prop where
  kept : Kept [] w wr
  bw : Bw w wr S p bl
  pk : PkAt wr bl a m c d n k
  row : wr.heap[p4]? = some (.cells #[.slice a m c, .slice d n k] 34 (0, 0))
  low : w.heap.size ≤ p4
  np : p4 ∉ S
  na : bl.flatten ≠ [] → ∀ x, a = some x → x.block ∉ p4 :: S
  nd : ∀ x, d = some x → x.block ∉ p4 :: S
theorem ren_guard : Tryd.prog.eqGuardType Tryd.prog.depth 42 = false := by kernel_rfl
theorem ren_grd (op : BinOp) (x y : Operand) (xs ys : Array Value) (W : World) : (eqGuard op 42 x y (.agg xs) (.agg ys)).run Tryd.prog W = .ok () W := run_eqGuard_agg W op _ x y xs ys ren_guard
theorem run_ld_pe {w : World} {p : Nat} {cs : List Value} (h : w.heap[p]? = some (.cells cs.toArray 38 (0, 0))) (hl : cs.length = 34) : (loadVar 38 ⟨p, 0, none⟩).run Tryd.prog w = .ok (.agg cs.toArray) w :=
  run_loadVar_cells w _ _ cs _ Tryd.underlying38 rfl (by rw [hl]; exact en_info) (fun j v hj => by rw [plain_add', cell_of_row w _ j _ _ _ h]; simpa using hj)
theorem ld_pk {w : World} {p : Nat} {cs : List Value} (h : w.heap[p]? = some (.cells cs.toArray 34 (0, 0))) : ∀ (j : Nat) v, cs[j]? = some v → w.cell? ((⟨p, 0, none⟩ : Addr).add j) = some v := fun j v hj => by rw [plain_add', cell_of_row w _ j _ _ _ h]; simpa using hj

set_option maxRecDepth 100000 in
set_option maxHeartbeats 16000000 in
theorem pack_builds (a : Option Addr) (c : Nat) (rows : List (List UInt8)) (w : World) (ht : Tab w) (hts : Tabs w) (h : RowsC w a rows) (hm : rows.length ≤ 9223372036854775807) (hl : ∀ r ∈ rows, r.length ≤ 9223372036854775807) :
    Calls Tryd.prog 3 #[.slice a rows.length c] w fun e w' => e = .returned (.bool true) ∧ Kept [] w w' := by
  have Ht := hid ht; have Hts := hid hts; have H := hid h; have Hl := hid hl; have Hm := hid hm
  have hal := hid (alive12 w ht hts)
  have hzb := zero_bd
  have hzv := zero_en
  have hz1 := zero_ren; have hz2 := zero_rpk
  obtain ⟨n, hn⟩ : ∃ n, n = rows.length := ⟨_, rfl⟩
  have HN := hid hn
  rw [← hn]
  clear ht hts h hl hm hn
  go_enter Tryd.func3, Tryd.ntmps3
  go_wp2_with fail
  refine hal.out.mono ?_
  rintro e w1 ⟨rfl, k1⟩
  have K1 := hid k1
  have hfw := hid (few12 a c rows w1 (H.out.kept k1).is Hm.out Hl.out)
  rw [← HN.out] at hfw
  clear k1 hal
  go_wp2_with fail
  refine hfw.out.mono ?_
  rintro e w2 ⟨rfl, rfl⟩
  cases hfe : few12B rows
  · clear hfw
    go_wp2
    go_ret
    exact ⟨rfl, K1.out⟩
  have Hfe := hid hfe
  clear hfe hfw
  go_wp2_with fail
  obtain ⟨W3, hW3⟩ : ∃ W3, W3 = (w1.alloc (.cells zBd.toArray 31)).alloc (.cells #[.slice none 0 0, .slice none 0 0] 34) := ⟨_, rfl⟩
  have K3 := hid (show Kept [] w W3 from hW3 ▸ ((K1.out).alloc _).alloc _)
  have hI0 := hid (show PbI w w1.heap.size (w1.heap.size + 1) (accAll (rows.take 0)) [w1.heap.size] none 0 0 none 0 0 W3 from
    ⟨K3.out, Bw.zero (hW3 ▸ heap_alloc_old (heap_alloc_at rfl)) K1.out.size, PkAt.zero _, hW3 ▸ heap_alloc_at (by simp), by have := K1.out.size; omega, by simp, fun _ x hx => by simp at hx, fun x hx => by simp at hx⟩)
  rw [← hW3]
  obtain ⟨p, hp⟩ : ∃ p, p = w1.heap.size := ⟨_, rfl⟩
  obtain ⟨p4, hp4⟩ : ∃ p4, p4 = w1.heap.size + 1 := ⟨_, rfl⟩
  rw [← hp4, ← hp] at hI0
  rw [← hp4, ← hp]
  have hn20 : n ≤ 20 := by have h1 := (few12_spec Hfe.out).2; have h2 := HN.out; omega
  clear hW3 hp hp4 K1 K3
  go_loopw [21] (fun s wr => ∃ i : Nat, i ≤ n ∧ s = .int .i64 i ∧ ∃ S a m c d nn k, Hid (PbI w p p4 (accAll (rows.take i)) S a m c d nn k wr)) (fun s _ => n - (intOf s).toNat)
  case atStart => exact ⟨0, Nat.zero_le _, rfl, _, _, _, _, _, _, _, hI0⟩
  case round =>
    clear hI0
    obtain ⟨i, hi, rfl, S, ra, rm, rc, rd, rn, rk, hst⟩ := hrel
    by_cases hlt : i < n
    · have hlt' : i < rows.length := by have := HN.out; omega
      cases a with
      | none => exact absurd (H.out.1 rfl) (fun e => by rw [e] at hlt'; simp at hlt')
      | some x =>
        obtain ⟨ar, cr, g0', s0', c1, c2⟩ := H.out.2 x rfl i rows[i] (by simp [hlt'])
        have g0 := (hst.out.kept.cell (World.block_lt_of_cell? w _ g0') (by simp)).trans g0'
        have hok := (few12_spec Hfe.out).1 rows[i] (List.getElem_mem hlt')
        have htk := hid (accAll_take rows i hlt')
        have hbl20 := hid (show (accAll (rows.take i)).length ≤ 19 from by have := accAll_len (rows.take i); have := List.length_take_le i rows; have := HN.out; rw [List.length_take] at *; omega)
        have hbls := hid (acc_small (rows := rows.take i) (fun r hr => (few12_spec Hfe.out).1 r (List.mem_of_mem_take hr)))
        have hbls2 := hid (acc_small (rows := rows.take (i + 1)) (fun r hr => (few12_spec Hfe.out).1 r (List.mem_of_mem_take hr)))
        rw [htk.out] at hbls2
        generalize rows[i] = r at *
        generalize accAll (rows.take i) = bl at *
        have Hst := hid hst.out
        have hadd := hid (l_add w wr S p bl ar cr r Hst.out.kept Hst.out.bw Hts.out s0' (by have := hok.le; omega) c1 c2)
        have Hs0 := hid s0'
        have Hlt := hid hlt
        clear hst s0' g0' hlt' hok hlt c1 c2
        go_wp2_with fail
        refine hadd.out.mono ?_
        rintro e w5 ⟨S5, k5, ks5, b5, n5, hr5⟩
        have K5 := hid k5; have KS5 := hid ks5; have B5 := hid b5; have N5 := hid n5
        have hlts := Hst.out.pk.lt
        have n5' : ∀ y, y < wr.heap.size → y ∉ S → y ∉ S5 := fun y hy hS hm => by
          rcases n5 y hm with h1 | h1
          · exact hS h1
          · omega
        have P5 := hid (Hst.out.pk.grow ks5 (fun he y hy hm => Hst.out.na he y hy (by simp [hm])) (fun y hy hm => Hst.out.nd y hy (by simp [hm])))
        have R5 := hid (ks5.at Hst.out.row Hst.out.np)
        have NA5 := hid (show bl.flatten ≠ [] → ∀ y, ra = some y → y.block ∉ p4 :: S5 from fun he y hy hm => by
          rcases List.mem_cons.1 hm with h1 | h1
          · exact Hst.out.na he y hy (by simp [h1])
          · exact n5' _ (hlts.1 he y hy) (fun h2 => Hst.out.na he y hy (by simp [h2])) h1)
        have ND5 := hid (show ∀ y, rd = some y → y.block ∉ p4 :: S5 from fun y hy hm => by
          rcases List.mem_cons.1 hm with h1 | h1
          · exact Hst.out.nd y hy (by simp [h1])
          · exact n5' _ (hlts.2 y hy) (fun h2 => Hst.out.nd y hy (by simp [h2])) h1)
        have NP5 := hid (show p4 ∉ S5 from n5' _ (lt_of_block Hst.out.row) Hst.out.np)
        have hin := Hlt.out
        clear k5 ks5 b5 n5 hadd hlts n5'
        obtain ⟨er, her⟩ : ∃ er, er = addErr (ens bl) (Sha.sum r) r.length := ⟨_, rfl⟩
        obtain ⟨ce, hce⟩ : ∃ ce, ce = (entE bl r).cells := ⟨_, rfl⟩
        have he5 : e = .returned (.tuple #[.agg ce.toArray, .int .i64 er]) := by
          rcases hr5 with ⟨ht5, rfl⟩ | ⟨ht5, rfl⟩
          · have h0 : addErr (ens bl) (Sha.sum r) r.length = 0 := of_decide_eq_true ht5
            rw [her, h0, hce, entE_took ht5]
          · rw [her, hce, entE_not ht5]
        subst he5
        clear hr5
        have lce := hid (show ce.length = 34 by rw [hce]; exact en_size (entE_id bl r))
        have ice := hid (show (Tryd.prog.info? 38).map (·.size) = some ce.length by rw [lce.out]; exact en_info)
        have ice2 := hid (show (Tryd.prog.info? 42).map (·.size) = some ce.length by rw [lce.out]; exact ren_info)
        have fce := hid (show 0 + ce.length ≤ zEnC.length by rw [lce.out, zEnC_len]; decide)
        have sce := hid (splice36 zEnC ce (by rw [lce.out, zEnC_len]))
        have oce := hid (show ∀ v ∈ ce, v.oneCell' = true by rw [hce]; exact en_one _)
        have hnq := hid (show ∀ W, (binOp .neq 42 (.agg ce.toArray) (.agg ce.toArray)).run Tryd.prog W = .ok (.bool false) W from fun W => by rw [hce, ren_equal_neq _ _ (entE_id bl r) (entE_id bl r) W]; simp)
        have hra := hid (fun v (hv : PkAt v bl ra rm rc rd rn rk) (hs : SrcB v (.slice ar r.length cr) r) => r12_add_any bl r ra rm rc rd rn rk ar cr v hv (by have := hbl20.out; omega) hbls.out hs)
        have HER := hid her; have HCE := hid hce
        clear her hce
        go_wp2_with (refine wpList_store_at rfl 38 (.tmp 7) (.tmp 28) rfl w5.heap.size 0 ce rfl rfl 38 zEnC (heap_alloc_at rfl) ice.out fce.out oce.out ?_; refine halt ?_)
        rw [sce.out]
        refine Halt.mk ?_
        obtain ⟨W6, hW6⟩ : ∃ W6, W6 = (w5.alloc (.cells zEnC.toArray 38)).setRow w5.heap.size ce.toArray := ⟨_, rfl⟩
        have k6 := hid (show Kept [] w5 W6 from hW6 ▸ ((Kept.refl [] w5).alloc _).setRow (fun h => absurd h (Nat.lt_irrefl _)) _)
        have E6 := hid (show W6.heap[w5.heap.size]? = some (.cells ce.toArray 38 (0, 0)) from hW6 ▸ setRow_heap _ _ _ _ _ _ (heap_alloc_at rfl))
        rw [← hW6]
        clear hW6
        have P6 := hid (P5.out.kept k6.out)
        have R6 := hid (k6.out.at R5.out (by simp))
        have B6 := hid (B5.out.kept k6.out (by simp))
        have K6 := hid (K5.out.trans k6.out)
        obtain ⟨p7, hp7⟩ : ∃ p7, p7 = w5.heap.size := ⟨_, rfl⟩
        rw [← hp7] at E6 ⊢
        have hp7l := hid (show p7 < W6.heap.size from lt_of_block E6.out)
        have S5lt := hid (show ∀ y ∈ S5, y < W6.heap.size from fun y hy => (B6.out.low y hy).2)
        clear hp7
        have hpi := hid (show (Tryd.prog.info? 34).map (·.size) = some [Value.slice ra rm rc, .slice rd rn rk].length from rpk_info)
        have hpl := hid (ld_pk (cs := [Value.slice ra rm rc, .slice rd rn rk]) R6.out)
        go_wp2_with (refine wpList_load_cells rfl 34 (.tmp 4) rfl ⟨p4, 0, none⟩ rfl [Value.slice ra rm rc, .slice rd rn rk] _ Tryd.underlying34 rfl hpi.out hpl.out ?_)
        refine (hra.out W6 P6.out (Hs0.out.kept K6.out (by simp))).mono ?_
        rintro e w7 ⟨a7, m7, c7, d7, n7, k7', rfl, k7, pk7, la7, ld7⟩
        rw [← HER.out, ← HCE.out]
        have K7 := hid k7; have P7 := hid pk7
        have LA := hid (show (more1 bl r).flatten ≠ [] → ∀ y, a7 = some y → y.block ∉ p4 :: S5 ∧ y.block < w7.heap.size from fun he y hy => ⟨by
          rcases la7 y hy with ⟨h1, h2⟩ | h1
          · rw [h2] at he; exact NA5.out he y h1
          · intro hm
            rcases List.mem_cons.1 hm with h2 | h2
            · have := lt_of_block R6.out; omega
            · have := S5lt.out _ h2; omega, pk7.lt.1 he y hy⟩)
        have LD := hid (show ∀ y, d7 = some y → y.block ∉ p4 :: S5 ∧ y.block < w7.heap.size from fun y hy => ⟨by
          rcases ld7 y hy with ⟨h1, h2⟩ | h1
          · exact ND5.out y h1
          · intro hm
            rcases List.mem_cons.1 hm with h2 | h2
            · have := lt_of_block R6.out; omega
            · have := S5lt.out _ h2; omega, pk7.lt.2 y hy⟩)
        have R7 := hid (k7.at R6.out (by simp))
        have E7 := hid (k7.at E6.out (by simp))
        have p4l := hid (lt_of_block R7.out)
        have p7l := hid (lt_of_block E7.out)
        clear k7 pk7 la7 ld7 hra hpl
        have hpi7 := hid (show (Tryd.prog.info? 34).map (·.size) = some [Value.slice a7 m7 c7, .slice d7 n7 k7'].length from rpk_info)
        go_wp2_with (refine wpList_store_at rfl 34 (.tmp 9) (.tmp 34) rfl w7.heap.size 0 [Value.slice a7 m7 c7, .slice d7 n7 k7'] rfl rfl 34 [.slice none 0 0, .slice none 0 0] (heap_alloc_old (heap_alloc_at rfl)) hpi7.out (by simp) (by intro z hz; simp at hz; rcases hz with rfl | rfl <;> rfl) ?_; refine halt ?_)
        rw [show splice [Value.slice none 0 0, .slice none 0 0] 0 [Value.slice a7 m7 c7, .slice d7 n7 k7'] = [Value.slice a7 m7 c7, .slice d7 n7 k7'] from rfl]
        refine Halt.mk ?_
        obtain ⟨W8, hW8⟩ : ∃ W8, W8 = ((w7.alloc (.cells #[.slice none 0 0, .slice none 0 0] 34)).alloc (.cells zEnC.toArray 42)).setRow w7.heap.size [Value.slice a7 m7 c7, .slice d7 n7 k7'].toArray := ⟨_, rfl⟩
        have k8 := hid (show Kept [] w7 W8 from hW8 ▸ (((Kept.refl [] w7).alloc _).alloc _).setRow (fun h => absurd h (Nat.lt_irrefl _)) _)
        have Q9 := hid (show W8.heap[w7.heap.size]? = some (.cells #[.slice a7 m7 c7, .slice d7 n7 k7'] 34 (0, 0)) from hW8 ▸ setRow_heap _ _ _ _ _ _ (heap_alloc_old (heap_alloc_at rfl)))
        have Q10 := hid (show W8.heap[w7.heap.size + 1]? = some (.cells zEnC.toArray 42 (0, 0)) from by
          rw [hW8]
          exact ((Kept.refl [w7.heap.size] _).setRow (g := w7.heap.size) (fun _ => by simp) _).at (heap_alloc_at (by simp)) (by simp))
        try rw [← hW8]
        clear hW8
        have Z8 := hid (lt_of_block Q10.out)
        obtain ⟨p9, hp9⟩ : ∃ p9, p9 = w7.heap.size := ⟨_, rfl⟩
        rw [← hp9] at Q9 Q10 Z8
        rw [← hp9] at p4l p7l LA LD
        have p9l := hid (show w7.heap.size ≤ p9 from hp9 ▸ Nat.le_refl _)
        have KK8 := hid (show ∀ y, y < p9 → y ∉ [p9 + 1] from fun y hy hm => by simp at hm; omega)
        try rw [← hp9]
        clear hp9
        go_wp2_with (refine wpList_store_at rfl 42 (.tmp 10) (.tmp 35) rfl (p9 + 1) 0 ce rfl rfl 42 zEnC Q10.out ice2.out fce.out oce.out ?_; refine halt ?_)
        rw [sce.out]
        refine Halt.mk ?_
        have k9 := hid (show Kept [p9 + 1] W8 (W8.setRow (p9 + 1) ce.toArray) from (Kept.refl _ _).setRow (fun _ => by simp) _)
        have T10 := hid (show (W8.setRow (p9 + 1) ce.toArray).heap[p9 + 1]? = some (.cells ce.toArray 42 (0, 0)) from setRow_heap _ _ _ _ _ _ Q10.out)
        generalize W8.setRow (p9 + 1) ce.toArray = W9 at *
        have T9 := hid (k9.out.at Q9.out (by simp))
        have R9 := hid (k9.out.at (k8.out.at R7.out (by simp)) (by have := p4l.out; simp; omega))
        have E9 := hid (k9.out.at (k8.out.at E7.out (by simp)) (by have := p7l.out; simp; omega))
        have hpl9 := hid (ld_pk (cs := [Value.slice a7 m7 c7, .slice d7 n7 k7']) T9.out)
        go_wp2_with (first | (refine wpList_load_cells rfl 34 (.tmp 9) rfl ⟨p9, 0, none⟩ rfl [Value.slice a7 m7 c7, .slice d7 n7 k7'] _ Tryd.underlying34 rfl hpi7.out hpl9.out ?_) | (refine wpList_store_at rfl 34 (.tmp 4) (.tmp 37) rfl p4 0 [Value.slice a7 m7 c7, .slice d7 n7 k7'] rfl rfl 34 [.slice ra rm rc, .slice rd rn rk] R9.out hpi7.out (by simp) (by intro z hz; simp at hz; rcases hz with rfl | rfl <;> rfl) ?_; refine halt ?_))
        rw [show splice [Value.slice ra rm rc, .slice rd rn rk] 0 [Value.slice a7 m7 c7, .slice d7 n7 k7'] = [Value.slice a7 m7 c7, .slice d7 n7 k7'] from rfl]
        refine Halt.mk ?_
        have kA := hid (show Kept [p4] W9 (W9.setRow p4 [Value.slice a7 m7 c7, .slice d7 n7 k7'].toArray) from (Kept.refl _ _).setRow (fun _ => by simp) _)
        have RA := hid (show (W9.setRow p4 [Value.slice a7 m7 c7, .slice d7 n7 k7'].toArray).heap[p4]? = some (.cells [Value.slice a7 m7 c7, .slice d7 n7 k7'].toArray 34 (0, 0)) from setRow_heap _ _ _ _ _ _ R9.out)
        generalize W9.setRow p4 [Value.slice a7 m7 c7, .slice d7 n7 k7'].toArray = WA at *
        have hlow4 := hid Hst.out.low
        have EA := hid (kA.out.at E9.out (by have h1 := E6.out; have h2 := R6.out; intro hm; simp at hm; subst hm; rw [h1] at h2; simp at h2))
        have TA := hid (kA.out.at T10.out (by have := p4l.out; simp; omega))
        have PA := hid (((P7.out.kept k8.out).grow k9.out (fun he y hy hm => by have := (LA.out he y hy).2; simp at hm; omega) (fun y hy hm => by have := (LD.out y hy).2; simp at hm; omega)).grow kA.out (fun he y hy hm => (LA.out he y hy).1 (by simp at hm; simp [hm])) (fun y hy hm => (LD.out y hy).1 (by simp at hm; simp [hm])))
        have kBA := hid (show Kept [p4, p9 + 1] W6 WA from ((((K7.out.trans k8.out).wider (fun _ _ h => by simp at h)).trans' k9.out (fun y _ hm => by simp at hm; simp [hm])).trans' kA.out (fun y _ hm => by simp at hm; simp [hm])))
        have BA := hid (B6.out.kept kBA.out (fun y hy hm => by
          have h1 := S5lt.out y hy; have h2 := K7.out.size
          simp at hm
          rcases hm with rfl | rfl
          · exact NP5.out hy
          · have := p7l.out; have h3 := p9l.out; omega))
        have KA := hid (K6.out.trans' kBA.out (fun y hy hm => by
          simp at hm
          rcases hm with rfl | rfl
          · have := hlow4.out; omega
          · have h1 := K6.out.size; have h2 := K7.out.size; have h3 := p9l.out; omega))
        have hbl7 := hid (show (ens (more1 bl r)).length = n7 from by rw [ens_len]; exact P7.out.hn.symm)
        have hsz7 := hid (show sizeP (ens (more1 bl r)) = m7 + 13 + 36 * n7 from by
          unfold sizeP
          rw [hbl7.out, ens_ends, ← P7.out.hm]; omega)
        have hn7 := hid (show n7 ≤ 20 ∧ m7 ≤ 5000 from by
          have h1 := P7.out.hn; have h2 := more1_len bl r; have h3 := hbl20.out; have h4 := P7.out.hm; have h5 := flat_small hbls2.out
          omega)
        have cLen := hid (show ∀ v, Kept [] WA v → Calls Tryd.prog 8 #[.pointer (some ⟨p, 0, none⟩)] v fun e w' => e = .returned (.int .i64 (n7 : Int)) ∧ Kept [] WA w' from fun v hv => by
          have h1 := b_len S5 p _ _ v (BA.out.kept hv (by simp)).bd
          rw [hbl7.out] at h1
          exact h1.mono fun e w' h => ⟨h.1, hv.trans h.2⟩)
        have cSize := hid (show ∀ v, Kept [] WA v → Calls Tryd.prog 9 #[.pointer (some ⟨p, 0, none⟩)] v fun e w' => e = .returned (.int .i64 ((m7 + 13 + 36 * n7 : Nat) : Int)) ∧ Kept [] WA w' from fun v hv => by
          have h1 := b_size S5 p _ _ v (BA.out.kept hv (by simp)).bd
          rw [hsz7.out] at h1
          exact h1.mono fun e w' h => ⟨h.1, hv.trans h.2⟩)
        have cSize2 := hid (show ∀ v, Kept [] WA v → Calls Tryd.prog 10 #[.agg #[.slice a7 m7 c7, .slice d7 n7 k7']] v fun e w' => e = .returned (.int .i64 ((m7 + 13 + 36 * n7 : Nat) : Int)) ∧ Kept [] WA w' from fun v hv =>
          (r12_size a7 m7 c7 d7 n7 k7' v (by have := hn7.out; omega) (by have := hn7.out; omega)).mono fun e w' h => ⟨h.1, hv.trans h.2⟩)
        have L0 := hid (show ∀ v, Kept [] WA v → (loadVar 38 ⟨p7, 0, none⟩).run Tryd.prog v = .ok (.agg ce.toArray) v from fun v hv => run_ld_pe (hv.at EA.out (by simp)) lce.out)
        have L1 := hid (show ∀ v, Kept [] WA v → (loadVar 42 ⟨p9 + 1, 0, none⟩).run Tryd.prog v = .ok (.agg ce.toArray) v from fun v hv => run_ld_ren (hv.at TA.out (by simp)) lce.out)
        have L2 := hid (show ∀ v, Kept [] WA v → (loadVar 34 ⟨p4, 0, none⟩).run Tryd.prog v = .ok (.agg #[.slice a7 m7 c7, .slice d7 n7 k7']) v from fun v hv => run_ld_rpk (cs := [.slice a7 m7 c7, .slice d7 n7 k7']) (hv.at RA.out (by simp)) rfl)
        have L3 := hid (show ∀ v, Kept [] WA v → v.cell? ⟨p4, 1, none⟩ = some (.slice d7 n7 k7') from fun v hv => by rw [cell_of_row _ _ _ _ _ _ (hv.at RA.out (by simp))]; rfl)
        have hI := hid (show ∀ v, Kept [] WA v → PbI w p p4 (more1 bl r) S5 a7 m7 c7 d7 n7 k7' v from fun v hv =>
          ⟨KA.out.trans hv, BA.out.kept hv (by simp), PA.out.kept hv, hv.at RA.out (by simp), hlow4.out, NP5.out, fun he y hy => (LA.out he y hy).1, fun y hy => (LD.out y hy).1⟩)
        have hm2 := hid (show accAll (rows.take (i + 1)) = more1 bl r from htk.out)
        obtain ⟨nz, hnz⟩ : ∃ nz, nz = m7 + 13 + 36 * n7 := ⟨_, rfl⟩
        rw [← hnz] at cSize cSize2
        clear hnz
        go_wp2_with fail
        refine wp_region_held_drew (S := Kept [] WA) (by kernel_rfl) (Kept.refl _ WA).drew (fun hH => ?_)
        refine takeH 0 (.agg ce.toArray) rfl (by kernel_rfl) (by kernel_rfl) (by kernel_rfl) (fun _ _ _ h => h) (by rfl) (fun v hv => by have h := L0.out v hv; unfold execOp; simp [Act.eval, Instr.loadAt, Instr.sureAddr, Sem.run_bind, Sem.run_pure, Result.andThen_ok, h]) hH ?_
        simp only [Act.put, List.setIfInBounds_toArray, List.set_cons_succ, List.set_cons_zero]
        refine takeH 1 (.agg ce.toArray) rfl (by kernel_rfl) (by kernel_rfl) (by kernel_rfl) (fun _ _ _ h => h) (by rfl) (fun v hv => by have h := L1.out v hv; unfold execOp; simp [Act.eval, Instr.loadAt, Instr.sureAddr, Sem.run_bind, Sem.run_pure, Result.andThen_ok, h]) hH ?_
        simp only [Act.put, List.setIfInBounds_toArray, List.set_cons_succ, List.set_cons_zero]
        refine takeH 2 (.bool false) rfl (by kernel_rfl) (by kernel_rfl) (by kernel_rfl) (fun _ _ _ h => h) (by rfl) (fun v hv => by have h := hnq.out v; have h2 := ren_grd .neq (.tmp 38) (.tmp 39) ce.toArray ce.toArray v; unfold execOp; simp [Act.eval, Sem.run_bind, Sem.run_pure, Result.andThen_ok, h, h2]) hH ?_
        simp only [Act.put, List.setIfInBounds_toArray, List.set_cons_succ, List.set_cons_zero]
        refine takeH 3 (.bool false) rfl (by kernel_rfl) (by kernel_rfl) (by kernel_rfl) (fun _ _ _ h => h) (by rfl) (fun v hv => by go_simp) hH ?_
        simp only [Act.put, List.setIfInBounds_toArray, List.set_cons_succ, List.set_cons_zero]
        refine takeH 4 (.int .i64 er) rfl (by kernel_rfl) (by kernel_rfl) (by kernel_rfl) (fun _ _ _ h => h) (by rfl) (fun v hv => by go_simp) hH ?_
        simp only [Act.put, List.setIfInBounds_toArray, List.set_cons_succ, List.set_cons_zero]
        refine takeH 5 (.int .i64 er) rfl (by kernel_rfl) (by kernel_rfl) (by kernel_rfl) (fun _ _ _ h => h) (by rfl) (fun v hv => by go_simp) hH ?_
        simp only [Act.put, List.setIfInBounds_toArray, List.set_cons_succ, List.set_cons_zero]
        refine takeH 6 (.bool false) rfl (by kernel_rfl) (by kernel_rfl) (by kernel_rfl) (fun _ _ _ h => h) (by rfl) (fun v hv => by go_simp) hH ?_
        simp only [Act.put, List.setIfInBounds_toArray, List.set_cons_succ, List.set_cons_zero]
        refine takeH 7 (.bool false) rfl (by kernel_rfl) (by kernel_rfl) (by kernel_rfl) (fun _ _ _ h => h) (by rfl) (fun v hv => by go_simp) hH ?_
        simp only [Act.put, List.setIfInBounds_toArray, List.set_cons_succ, List.set_cons_zero]
        refine takeH 8 (.bool false) rfl (by kernel_rfl) (by kernel_rfl) (by kernel_rfl) (fun _ _ _ h => h) (by rfl) (fun v hv => by go_simp) hH ?_
        simp only [Act.put, List.setIfInBounds_toArray, List.set_cons_succ, List.set_cons_zero]
        refine takeH 10 (.pointer (some ⟨p4, 1, none⟩)) rfl (by kernel_rfl) (by kernel_rfl) (by kernel_rfl) (fun _ _ _ h => h) (by rfl) (fun v hv => by go_simp) hH ?_
        simp only [Act.put, List.setIfInBounds_toArray, List.set_cons_succ, List.set_cons_zero]
        refine takeH 11 (.slice d7 n7 k7') rfl (by kernel_rfl) (by kernel_rfl) (by kernel_rfl) (fun _ _ _ h => h) (by rfl) (fun v hv => by have h := L3.out v hv; go_simp) hH ?_
        simp only [Act.put, List.setIfInBounds_toArray, List.set_cons_succ, List.set_cons_zero]
        refine takeH 12 (.int .i64 (n7 : Int)) rfl (by kernel_rfl) (by kernel_rfl) (by kernel_rfl) (fun _ _ _ h => h) (by rfl) (fun v hv => by go_simp) hH ?_
        simp only [Act.put, List.setIfInBounds_toArray, List.set_cons_succ, List.set_cons_zero]
        refine callR 9 rfl (by kernel_rfl) (by rfl) 8 #[.pointer (some ⟨p, 0, none⟩)] (by go_simp) (.int .i64 (n7 : Int)) (fun v => Kept [] WA v) (fun _ h => h) (cLen.out _ hH) ?_
        intro wB hB
        simp only [Act.put, List.setIfInBounds_toArray, List.set_cons_succ, List.set_cons_zero]
        refine takeH 13 (.bool false) rfl (by kernel_rfl) (by kernel_rfl) (by kernel_rfl) (fun _ _ _ h => h) (by rfl) (fun v hv => by go_simp) hB ?_
        simp only [Act.put, List.setIfInBounds_toArray, List.set_cons_succ, List.set_cons_zero]
        refine takeH 14 (.bool false) rfl (by kernel_rfl) (by kernel_rfl) (by kernel_rfl) (fun _ _ _ h => h) (by rfl) (fun v hv => by go_simp) hB ?_
        simp only [Act.put, List.setIfInBounds_toArray, List.set_cons_succ, List.set_cons_zero]
        refine takeH 15 (.bool false) rfl (by kernel_rfl) (by kernel_rfl) (by kernel_rfl) (fun _ _ _ h => h) (by rfl) (fun v hv => by go_simp) hB ?_
        simp only [Act.put, List.setIfInBounds_toArray, List.set_cons_succ, List.set_cons_zero]
        refine takeH 17 (.agg #[.slice a7 m7 c7, .slice d7 n7 k7']) rfl (by kernel_rfl) (by kernel_rfl) (by kernel_rfl) (fun _ _ _ h => h) (by rfl) (fun v hv => by have h := L2.out v hv; unfold execOp; simp [Act.eval, Instr.loadAt, Instr.sureAddr, Sem.run_bind, Sem.run_pure, Result.andThen_ok, h]) hB ?_
        simp only [Act.put, List.setIfInBounds_toArray, List.set_cons_succ, List.set_cons_zero]
        refine callR 16 rfl (by kernel_rfl) (by rfl) 9 #[.pointer (some ⟨p, 0, none⟩)] (by go_simp) (.int .i64 (nz : Int)) (fun v => Kept [] WA v) (fun _ h => h) (cSize.out _ hB) ?_
        intro wC hC
        simp only [Act.put, List.setIfInBounds_toArray, List.set_cons_succ, List.set_cons_zero]
        refine callR 18 rfl (by kernel_rfl) (by rfl) 10 #[.agg #[.slice a7 m7 c7, .slice d7 n7 k7']] (by go_simp) (.int .i64 (nz : Int)) (fun v => Kept [] WA v) (fun _ h => h) (cSize2.out _ hC) ?_
        intro wD hD
        simp only [Act.put, List.setIfInBounds_toArray, List.set_cons_succ, List.set_cons_zero]
        refine takeH 19 (.bool false) rfl (by kernel_rfl) (by kernel_rfl) (by kernel_rfl) (fun _ _ _ h => h) (by rfl) (fun v hv => by go_simp) hD ?_
        simp only [Act.put, List.setIfInBounds_toArray, List.set_cons_succ, List.set_cons_zero]
        refine takeH 20 (.bool false) rfl (by kernel_rfl) (by kernel_rfl) (by kernel_rfl) (fun _ _ _ h => h) (by rfl) (fun v hv => by go_simp) hD ?_
        simp only [Act.put, List.setIfInBounds_toArray, List.set_cons_succ, List.set_cons_zero]
        refine wpAnyH_done (by kernel_rfl) ?_ _
        have HI := hid (hI.out wD hD)
        clear hH hB hC hD hI
        go_wp2
        go_roundw
        case rel => exact ⟨i + 1, hin, by go_num, S5, _, _, _, _, _, _, by rw [hm2.out]; exact HI⟩
        case measure => simp [intOf]; omega
    · obtain rfl : i = n := by omega
      rw [HN.out, List.take_length] at hst
      have hsm := hid (packL_small Hfe.out)
      have hbsm := hid (acc_small (few12_spec Hfe.out).1)
      have hG := hid hst.out.bw.good
      generalize accAll rows = bl at *
      have Hst := hid hst.out
      have hd1 := hid (l_done w wr S p bl Hst.out.kept Hst.out.bw Ht.out)
      obtain ⟨pl, HPL⟩ : ∃ pl, Hid (pl = (packL bl).length) := ⟨_, hid rfl⟩
      have hfl := hid (show bl.flatten.length + 13 ≤ 5000 ∧ bl.length ≤ 20 from by
        have h1 := hsm.out.1; have h2 := packL_len bl; unfold sizeP at h2; rw [ens_ends] at h2; have h3 := hsm.out.2; omega)
      clear hst hlt hi
      go_wp2_with fail
      refine hd1.out.mono ?_
      rintro e w4 ⟨a4, c4, rfl, k4, o4⟩
      have K4 := hid k4
      have hcp := hid (owns_caps o4)
      have hs4 := hid (ownsRow_src o4)
      rw [← HPL.out] at hcp ⊢
      have R4 := hid (k4.at Hst.out.row (by simp))
      have hpi := hid (show (Tryd.prog.info? 34).map (·.size) = some [Value.slice ra rm rc, .slice rd rn rk].length from rpk_info)
      have hpl := hid (ld_pk (cs := [Value.slice ra rm rc, .slice rd rn rk]) R4.out)
      have P4 := hid (Hst.out.pk.kept k4)
      have hby := hid (r12_bytes ra rm rc rd rn rk bl.flatten (ens bl) w4 P4.out.hm (by have h1 := P4.out.hs; rw [P4.out.hm] at h1; exact h1) P4.out.he (by rw [ens_len]; exact P4.out.hn) (by have h1 := P4.out.hn; have h2 := hfl.out.2; omega) (fun e he => by
        obtain ⟨j, hj⟩ := List.getElem?_of_mem he
        rw [ens_get] at hj
        obtain ⟨b, hb, rfl⟩ := Option.map_eq_some_iff.1 hj
        have h2 := hbsm.out b (List.mem_of_getElem? hb)
        show b.length ≤ 65536
        omega) (by have h1 := P4.out.hm; have h2 := hfl.out.1; omega))
      have hpk : packB (ens bl) bl.flatten = packL bl := rfl
      rw [hpk, ← HPL.out] at hby
      clear k4 o4 hd1 hpk
      go_wp2_with (refine wpList_load_cells rfl 34 (.tmp 4) rfl ⟨p4, 0, none⟩ rfl [Value.slice ra rm rc, .slice rd rn rk] _ Tryd.underlying34 rfl hpi.out hpl.out ?_)
      refine hby.out.mono ?_
      rintro e w5 ⟨a5, c5, rfl, k5, hs5, hc5, hc6⟩
      have K5 := hid k5
      have hs45 := hid (hs4.out.kept k5 (by simp))
      have hs5' := hid hs5
      have hsame := hid (show Calls Tryd.prog 12 #[.slice a4 pl c4, .slice a5 pl c5] w5 fun e w' => e = .returned (.bool true) ∧ w5 = w' from by
        have h1 := hs45.out; have h2 := hs5'.out
        have hp := HPL.out
        subst hp
        exact same_src a4 a5 c4 c5 (packL bl) w5 h1 h2)
      clear k5 hs5 hby hpl
      go_wp2_with fail
      refine hsame.out.mono ?_
      rintro e w6 ⟨rfl, rfl⟩
      have hbs := hid (b_size S p _ _ w5 (Hst.out.bw.kept (K4.out.trans K5.out) (by simp)).bd)
      rw [← packL_len, ← HPL.out] at hbs
      clear hsame
      go_wp2_with fail
      refine hbs.out.mono ?_
      rintro e w7 ⟨rfl, k7⟩
      have K7 := hid (K5.out.trans k7)
      have KW := hid (Hst.out.kept.trans (K4.out.trans K7.out))
      have hs7 := hid (hs45.out.kept k7 (by simp))
      have hnm := hid (show Calls Tryd.prog 14 #[.slice a4 pl c4] w7 fun e w' => e = .returned (.string (Go.Proofs.YtembincggkpflaaDoor.S (packN (packL bl)))) ∧ Kept [] w7 w' from by
        have h1 := hs7.out; have h2 := hcp.out.1; have h3 := hsm.out.1
        have hp := HPL.out
        subst hp
        exact p_name a4 c4 (packL bl) w7 (Hts.out.kept KW.out (by simp) (by simp)) h1 h2 hcp.out.2.1 (by omega))
      clear hbs k7
      go_wp2_with fail
      refine hnm.out.mono ?_
      rintro e w8 ⟨rfl, k8⟩
      have hs8 := hid (hs7.out.kept k8 (by simp))
      have K8 := hid (KW.out.trans k8)
      have hn2 := hid (show Calls Tryd.prog 15 #[.slice a4 pl c4] w8 fun e w' => e = .returned (.string (Go.Proofs.YtembincggkpflaaDoor.S (packN (packL bl)))) ∧ Kept [] w8 w' from by
        have h1 := hs8.out; have h3 := hsm.out.1
        have hp := HPL.out
        subst hp
        exact r12_name a4 c4 (packL bl) w8 h1 hcp.out.2.2.1 (by omega))
      generalize Go.Proofs.YtembincggkpflaaDoor.S (packN (packL bl)) = nm at *
      clear hnm k8
      go_wp2_with fail
      refine hn2.out.mono ?_
      rintro e w9 ⟨rfl, k9⟩
      have K9 := hid (K8.out.trans k9)
      clear hn2 k9
      go_wp2
      go_ret
      exact ⟨by simp, K9.out⟩
end Go.Proofs.YtembincggkpflaaDoor
