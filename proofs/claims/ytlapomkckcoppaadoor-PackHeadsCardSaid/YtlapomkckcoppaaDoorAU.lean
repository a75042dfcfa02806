import Derived.Test.YtlapomkckcoppaaDoorAT

/- coldstorelaw12.PackSizes. -/
namespace Go.Proofs.YtlapomkckcoppaaDoor
open Go.RowKit Go.Lib Go.Maps

theorem l_add' (w wr : World) (S : List Nat) (p : Nat) (bl : List (List UInt8)) (a : Option Addr) (c : Nat) (ys : List UInt8) (hk : Kept [] w wr) (hb : Bw w wr S p bl) (hts : Tabs w) (hs : ∀ w', Kept S wr w' → SrcB w' (.slice a ys.length c) ys) (hl : ys.length ≤ 1000000) (hc : ys.length ≤ c) (hc2 : c ≤ 9223372036854775807) :
    Calls Tryd.prog 10 #[.pointer (some ⟨p, 0, none⟩), .slice a ys.length c] wr (BwAdded w wr S p bl ys) := by
  have hkk : ∀ w', Kept S wr w' → Kept [] w w' := fun w' h => hk.trans' h (fun x hx hm => by have := (hb.low x hm).1; omega)
  refine (b_add S p (ens bl) bl.flatten a c ys wr hb.bd (fun w' h => hts.kept (hkk w' h) (by simp) (by simp)) hs hl hc hc2).mono ?_
  rintro e w' (⟨h1, rfl, h2⟩ | ⟨h1, rfl, h2, S', h3, h4⟩)
  · have ht : took bl ys = false := by unfold took; exact decide_eq_false h1
    refine ⟨S, hk.trans h2, h2.wider (by simp), ?_, fun x hx => Or.inl hx, Or.inr ⟨ht, rfl⟩⟩
    unfold more1; rw [ht]
    exact hb.kept h2 (by simp)
  · have ht : took bl ys = true := by unfold took; exact decide_eq_true h1
    rw [← ens_snoc] at h3
    obtain ⟨S2, h5, h6, h7⟩ := h3.small
    have e1 : bl.flatten ++ ys = (bl ++ [ys]).flatten := by simp
    rw [e1] at h5
    refine ⟨S2, hkk w' h2, h2, ?_, fun x hx => h4 x (h6 x hx), Or.inl ⟨ht, rfl⟩⟩
    have em : more1 bl ys = bl ++ [ys] := by unfold more1; rw [ht]; rfl
    rw [em]
    refine ⟨h5, fun x hx => ⟨?_, h7 x hx⟩, hb.good.snoc ht⟩
    rcases h4 x (h6 x hx) with h | h
    · exact (hb.low x h).1
    · exact Nat.le_trans hk.size h
theorem kept_cells (b : Nat) : ∀ (vs : List Value) (o : Nat) (w : World), Kept [b] w (w.setCells b o vs)
  | [], o, w => Kept.refl _ _
  | v :: r, o, w => ((Kept.refl [b] w).setCell (p := ⟨b, o, none⟩) (fun _ => by simp) v).trans (kept_cells b r (o + 1) _)
/-- A row of bytes of the call's own is cleared. -/
theorem clear_row (w : World) {base : Nat} {a : Option Addr} {n c : Nat} {xs : List Value} (h : w.ownsRow base 5 1 (.slice a n c) n xs) :
    ∃ w', (∀ ty, (Builtin.clear_ #[29] ty #[.slice a n c]).run Tryd.prog w = .ok (.tuple #[]) w') ∧ Kept (Value.slice a n c).ownBlock.toList w w' := by
  have hu : (underlying 29).run Tryd.prog w = .ok (.slice 5) w := run_underlying Tryd.underlying29 w
  rcases h.2 with ⟨h1, h2⟩ | ⟨g, cap, cur, h1, hb, hh, h3, h4, h5, _⟩
  · simp at h1; obtain ⟨rfl, rfl, rfl⟩ := h1
    exact ⟨w, fun ty => by unfold Builtin.clear_; simp [Sem.run_bind, hu, Result.andThen_ok, Sem.run_pure], Kept.refl _ _⟩
  · simp at h1; obtain ⟨rfl, rfl⟩ := h1
    by_cases hn : 0 < n
    · refine ⟨_, fun ty => Lib.run_clear_slice w 29 5 ty (.int .u8 0) Tryd.underlying29 (fun w => by kernel_rfl) rfl rfl g 0 n c hn (fun j hj => ?_) (fun j hj => ?_), ?_⟩
      · rw [cell_of_row w _ _ _ _ _ hh]; simp; omega
      · exact free_of_row hh
      · simpa [Value.ownBlock] using kept_cells g _ 0 w
    · obtain rfl : n = 0 := by omega
      exact ⟨w, fun ty => by unfold Builtin.clear_; simp [Sem.run_bind, hu, Result.andThen_ok, Sem.run_pure], Kept.refl _ _⟩
/-- A pack's blob by its place. -/
theorem packL_blob {bl : List (List UInt8)} {i : Nat} {b : List UInt8} (h : bl[i]? = some b) :
    blobAt (packL bl) ((bl.take i).flatten.length : Int) (b.length : Int) = b ∧ blobErr (packL bl) (Sha.sum b) ((bl.take i).flatten.length : Int) (b.length : Int) = 0 ∧ (bl.take i).flatten.length + b.length ≤ (packL bl).length := by
  have h1 := flat_part bl i b h
  have h2 := flat_le bl i b h
  have h3 : (packL bl).length = bl.flatten.length + (tailP (ens bl)).length := by unfold packL; rw [packB_eq, List.length_append]
  have e : ((packL bl).drop (bl.take i).flatten.length).take b.length = b := by
    unfold packL
    rw [packB_eq, List.drop_append_of_le_length (by omega), List.take_append_of_le_length (by rw [List.length_drop]; omega), h1]
  have e2 : blobAt (packL bl) ((bl.take i).flatten.length : Int) (b.length : Int) = b := by unfold blobAt; simpa using e
  refine ⟨e2, ?_, by omega⟩
  unfold blobAt at e2
  unfold blobErr
  rw [if_neg (by omega), e2, if_neg (by simp)]
theorem packL_sh {bl : List (List UInt8)} (h : Good bl) : shErr (packL bl) = 0 ∧ shOf (packL bl) = sealed 80 (headB (ens bl)) := by
  unfold packL; rw [packB_eq]; exact sh_at _ _ (seal_lt (ens_ids bl) (by rw [ens_len]; exact h.size.2))
theorem more1_take (bl : List (List UInt8)) (b : List UInt8) {i : Nat} {x : List UInt8} (h : bl[i]? = some x) : (more1 bl b)[i]? = some x ∧ (more1 bl b).take i = bl.take i := by
  have hl := (List.getElem?_eq_some_iff.1 h).1
  unfold more1
  split
  · exact ⟨by rw [List.getElem?_append_left hl]; exact h, by rw [List.take_append_of_le_length (by omega)]⟩
  · exact ⟨h, rfl⟩
theorem wpList_bs {P : Program} {ops : Array Oper} {rest : List Oper} {o : Oper} {a : Act} {w : World} {Q : Exit → Act → World → Prop} (hgd : o.guard = none) (t n : Nat) (parts : Array (Nat × Operand)) (_ : o.op = .buildSlice t n parts) (v : Value) (w' : World) (hr : (execOp a.eval o).run P w = .ok (.value v) w') (h : wpList P ops Q rest (a.put o.dst v) w') : wpList P ops Q (o :: rest) a w := wpList_val hgd v w' hr h
/-- Behind so many blobs. -/
structure SzI (w : World) (p : Nat) (bl : List (List UInt8)) (vp : Value) (S : List Nat) (wr : World) : Prop where
  kept : Kept [] w wr
  bw : Bw w wr S p bl
  row : wr.ownsRow w.heap.size 38 34 vp bl.length ((ens bl).flatMap c34)
  apart : ∀ g, vp.ownBlock = some g → g ∉ S

set_option maxRecDepth 100000 in
set_option maxHeartbeats 16000000 in
theorem pack_sizes (a : Option Addr) (c : Nat) (rows : List (List UInt8)) (a1 : Option Addr) (c1 : Nat) (bs : List UInt8) (w : World) (ht : Tab w) (hts : Tabs w) (h : RowsC w a rows) (hm : rows.length ≤ 9223372036854775807) (hl : ∀ r ∈ rows, r.length ≤ 9223372036854775807)
    (hb : SrcB w (.slice a1 bs.length c1) bs) (hbl : bs.length ≤ c1) (hbc : c1 ≤ 9223372036854775807) :
    Calls Tryd.prog 5 #[.slice a rows.length c, .slice a1 bs.length c1] w fun e w' => e = .returned (.bool true) ∧ Kept [] w w' := by
  have Ht := hid ht; have Hts := hid hts; have H := hid h; have Hl := hid hl; have Hm := hid hm; have Hb := hid hb; have Hbl := hid hbl; have Hbc := hid hbc
  have hal := hid (alive12 w ht hts)
  have hzb := zero_bd
  have hzv := zero_en
  obtain ⟨i0, hi0, hz0, hz1, hz2⟩ := info_parts info_u8
  obtain ⟨j0, hj0, hy0, hy1, hy2⟩ := info_parts en_zero
  obtain ⟨n, hn⟩ : ∃ n, n = rows.length := ⟨_, rfl⟩
  have HN := hid hn
  obtain ⟨nb, hnb⟩ : ∃ nb, nb = bs.length := ⟨_, rfl⟩
  have HNB := hid hnb
  rw [← hn, ← hnb]
  clear ht hts h hl hm hn hb hbl hbc hnb
  go_enter Tryd.func5, Tryd.ntmps5
  go_wp2_with fail
  refine hal.out.mono ?_
  rintro e w1 ⟨rfl, k1⟩
  have K1 := hid k1
  have hfw := hid (few12 a c rows w1 (H.out.kept k1).is Hm.out Hl.out)
  rw [← HN.out] at hfw
  clear k1 hal
  go_wp2_with fail
  refine hfw.out.mono ?_
  rintro e w2 ⟨rfl, rfl⟩
  cases hfe : few12B rows
  · clear hfw
    go_wp2
    go_ret
    exact ⟨rfl, K1.out⟩
  have Hfe := hid hfe
  clear hfe hfw
  by_cases hb200 : 200 < nb
  · have q1 : (200 : Int) < (nb : Int) := by omega
    clear hb200
    go_wp2
    go_ret
    exact ⟨rfl, K1.out⟩
  have q1 : ¬ (200 : Int) < (nb : Int) := by omega
  have Hnb := hid (show nb ≤ 200 by omega)
  clear hb200
  go_wp2_with fail
  obtain ⟨W3, hW3⟩ : ∃ W3, W3 = (w1.alloc (.cells zBd.toArray 31)).alloc (.cells #[] 38) := ⟨_, rfl⟩
  have K3 := hid (show Kept [] w W3 from hW3 ▸ ((K1.out).alloc _).alloc _)
  have hI0 := hid (show SzI w w1.heap.size (accAll (rows.take 0)) (.slice (some ⟨w1.heap.size + 1, 0, none⟩) 0 0) [w1.heap.size] W3 from
    ⟨K3.out, Bw.zero (hW3 ▸ heap_alloc_old (heap_alloc_at rfl)) K1.out.size, ⟨by simp [accAll, ens, ensFrom], Or.inr ⟨w1.heap.size + 1, 0, #[], rfl, by have := K1.out.size; omega, hW3 ▸ heap_alloc_at (by simp), by simp [accAll], by unfold maxLen; omega, by simp, by simp [accAll, ens, ensFrom]⟩⟩, fun g hg => by simp [Value.ownBlock] at hg; simp; omega⟩)
  rw [← hW3]
  obtain ⟨p, hp⟩ : ∃ p, p = w1.heap.size := ⟨_, rfl⟩
  obtain ⟨p2, hp2⟩ : ∃ p2, p2 = w1.heap.size + 1 := ⟨_, rfl⟩
  rw [← hp2, ← hp] at hI0
  rw [← hp2, ← hp]
  have hn20 : n ≤ 20 := by have h1 := (few12_spec Hfe.out).2; have h2 := HN.out; omega
  clear hW3 hp hp2 K1 K3
  go_loopw [6, 7, 8, 37] (fun s6 s7 s8 s wr => ∃ i : Nat, i ≤ n ∧ s = .int .i64 i ∧ ∃ S, s6 = .int .i64 (ends (ens (accAll (rows.take i))) : Int) ∧ s7 = .int .i64 ((accAll (rows.take i)).length : Int) ∧ Hid (SzI w p (accAll (rows.take i)) s8 S wr)) (fun _ _ _ s _ => n - (intOf s).toNat)
  case atStart => exact ⟨0, Nat.zero_le _, rfl, _, rfl, rfl, hI0⟩
  case round =>
    clear hI0
    obtain ⟨i, hi, rfl, S, rfl, rfl, hst⟩ := hrel
    by_cases hlt : i < n
    · have hlt' : i < rows.length := by have := HN.out; omega
      cases a with
      | none => exact absurd (H.out.1 rfl) (fun e => by rw [e] at hlt'; simp at hlt')
      | some x =>
        obtain ⟨ar, cr, g0, s0, cr1, cr2⟩ := (H.out.kept hst.out.kept).2 x rfl i rows[i] (by simp [hlt'])
        have hok := (few12_spec Hfe.out).1 rows[i] (List.getElem_mem hlt')
        have htk := hid (accAll_take rows i hlt')
        have hbls := hid (acc_small (rows := rows.take i) (fun r hr => (few12_spec Hfe.out).1 r (List.mem_of_mem_take hr)))
        have hbl20 := hid (show (accAll (rows.take i)).length ≤ 20 from by have := accAll_len (rows.take i); have := List.length_take_le i rows; have := HN.out; omega)
        generalize rows[i] = r at *
        generalize accAll (rows.take i) = bl at *
        obtain ⟨vp, hvp⟩ : ∃ v, v = u8 := ⟨_, rfl⟩
        rw [← hvp] at hst ⊢
        obtain ⟨pa, pc, rfl⟩ := owns_slice hst.out.row
        clear hvp
        have Hst := hid hst.out
        have hrl := hid hok.le
        have hs0 := hid (srcB_old s0 ((Kept.refl [] wr).alloc (.cells #[] 5)))
        have Hlt := hid hlt
        clear hst s0 hlt' hok hlt
        go_wp2_with (at_builtin; refine halt ?_)
        refine Halt.mk ?_
        have hrl2 := hrl.out
        refine wpList_append_src _ rfl _ _ _ rfl wr.heap.size 5 i0 _ 1 Tryd.underlying29 hi0 hz0 hz1 hz2 rfl (.slice (some ⟨wr.heap.size, 0, none⟩) 0 0) 0 [] rfl (World.ownsRow_made wr (base := wr.heap.size) (e := 5) (size := 1) #[] 0 (Nat.le_refl _) (by decide) (by simp)) (.slice ar r.length cr) r.length (r.map B) rfl hs0.out (by simp) (B_oneCell r) (by unfold maxLen; omega) (by omega) (by simp) ?_
        intro v4 w4 o4 g4 _ f4
        simp only [Nat.zero_add, List.nil_append] at o4
        obtain ⟨a4, c4, rfl⟩ := owns_slice o4
        have k4 := hid (show Kept [] wr w4 from ((Kept.refl [] wr).alloc (.cells #[] 5)).trans' (Kept.of_row g4) (fun y hy hm => by simp [Value.ownBlock] at hm; omega))
        have O4 := hid o4
        have hw4 := hid (Hst.out.kept.trans k4.out)
        have Bw4 := hid (Hst.out.bw.kept k4.out (by simp))
        have hcap4 := owns_caps o4
        have hoS := hid (show ∀ g, (Value.slice a4 r.length c4).ownBlock = some g → wr.heap.size ≤ g ∧ g < w4.heap.size ∧ g ∉ S from fun g hg => ⟨(o4.lt g hg).1, (o4.lt g hg).2, fun hm => by have := (Hst.out.bw.low g hm).2; have := (o4.lt g hg).1; omega⟩)
        have hadd := hid (l_add' w w4 S p bl a4 c4 r hw4.out Bw4.out Hts.out (fun w' hk => ownsRow_src (hk.owns O4.out (fun g hg => (hoS.out g hg).2.2))) (by omega) hcap4.1 hcap4.2.1)
        clear o4 g4 f4 hs0 hcap4
        go_wp2_with fail
        refine hadd.out.mono ?_
        rintro e w5 ⟨S5, k5, ks5, b5, n5, hr5⟩
        have K5 := hid k5; have KS5 := hid ks5; have B5 := hid b5; have N5 := hid n5
        have O5 := hid (ks5.owns O4.out (fun g hg => (hoS.out g hg).2.2))
        have R5 := hid (ks5.owns (k4.out.owns Hst.out.row (by simp)) Hst.out.apart)
        have hpS5 := hid (show ∀ g, (Value.slice pa bl.length pc).ownBlock = some g → g ∉ S5 ∧ g < wr.heap.size from fun g hg => ⟨fun hm => by
          rcases n5 g hm with h1 | h1
          · exact Hst.out.apart g hg h1
          · have := (Hst.out.row.lt g hg).2; have := k4.out.size; omega, (Hst.out.row.lt g hg).2⟩)
        have hoS5 := hid (show ∀ g, (Value.slice a4 r.length c4).ownBlock = some g → g ∉ S5 from fun g hg hm => by
          rcases n5 g hm with h1 | h1
          · exact (hoS.out g hg).2.2 h1
          · have := (hoS.out g hg).2.1; omega)
        clear k5 ks5 b5 n5 hadd
        rcases hr5 with ⟨ht5, rfl⟩ | ⟨ht5, rfl⟩
        · obtain ⟨en, hen⟩ : ∃ en, en = addE (ens bl) (Sha.sum r) r.length := ⟨_, rfl⟩
          have h32 : en.id.length = 32 := by rw [hen]; exact sum32 r
          rw [← hen]
          have hbs := hid (fun W => build_ens en h32 W)
          have hrow2 := hid (show (ens (bl ++ [r])).flatMap c34 = (ens bl).flatMap c34 ++ en.cells from by rw [ens_snoc, ← hen, List.flatMap_append]; simp [c34_of h32])
          obtain ⟨ce, hce⟩ : ∃ ce, ce = en.cells := ⟨_, rfl⟩
          rw [← hce] at hbs hrow2 ⊢
          have lce := hid (show ce.length = 34 by rw [hce]; exact en_size h32)
          have ice := hid (show (Tryd.prog.info? 38).map (·.size) = some ce.length by rw [lce.out]; exact en_info)
          have fce := hid (show 0 + ce.length ≤ zEnC.length by rw [lce.out, zEnC_len]; decide)
          have sce := hid (splice36 zEnC ce (by rw [lce.out, zEnC_len]))
          have oce := hid (show ∀ v ∈ ce, v.oneCell' = true by rw [hce]; exact en_one _)
          have ce32 := hid (show ce[32]? = some (.int .i64 (ends (ens bl) : Int)) by rw [hce, en_c32 h32, hen]; rfl)
          have ce33 := hid (show ce[33]? = some (.int .i64 (r.length : Int)) by rw [hce, en_c33 h32, hen]; rfl)
          clear hce hen h32
          go_wp2_with (refine wpList_store_at rfl 38 (.tmp 12) (.tmp 47) rfl w5.heap.size 0 ce rfl rfl 38 zEnC (heap_alloc_at rfl) ice.out fce.out oce.out ?_; refine halt ?_)
          rw [sce.out]
          refine Halt.mk ?_
          obtain ⟨W6, hW6⟩ : ∃ W6, W6 = (w5.alloc (.cells zEnC.toArray 38)).setRow w5.heap.size ce.toArray := ⟨_, rfl⟩
          have k6 := hid (show Kept [] w5 W6 from hW6 ▸ ((Kept.refl [] w5).alloc _).setRow (fun h => absurd h (Nat.lt_irrefl _)) _)
          have E6 := hid (show W6.heap[w5.heap.size]? = some (.cells ce.toArray 38 (0, 0)) from hW6 ▸ setRow_heap _ _ _ _ _ _ (heap_alloc_at rfl))
          rw [← hW6]
          clear hW6
          obtain ⟨w7, hclr, k7⟩ := clear_row W6 (k6.out.owns O5.out (by simp))
          have K7 := hid k7
          have hz5 := hid (show w4.heap.size ≤ w5.heap.size from KS5.out.size)
          have E7 := hid (show w7.heap[w5.heap.size]? = some (.cells ce.toArray 38 (0, 0)) from k7.at E6.out (fun hm => by simp at hm; have := (hoS.out _ hm).2.1; have := hz5.out; omega))
          have c32 : w7.cell? ⟨w5.heap.size, 32, none⟩ = some (.int .i64 (ends (ens bl) : Int)) := by rw [cell_of_row w7 _ 32 _ _ _ E7.out]; simpa using ce32.out
          have c33 : w7.cell? ⟨w5.heap.size, 33, none⟩ = some (.int .i64 (r.length : Int)) := by rw [cell_of_row w7 _ 33 _ _ _ E7.out]; simpa using ce33.out
          have R7 := hid (k7.owns (k6.out.owns R5.out (by simp)) (fun g hg hm => by simp at hm; have := (hpS5.out g hg).2; have := (hoS.out g hm).1; omega))
          have hen2 := hid (show ends (ens (bl ++ [r])) = ends (ens bl) + r.length from by rw [ens_snoc, ends_snoc]; rfl)
          have hes := hid (show ends (ens bl) ≤ 4000 from by have h1 := flat_small hbls.out; have h2 := hbl20.out; rw [ens_ends]; omega)
          have ws1 : IntKind.i64.wrap ((ends (ens bl) : Int) + (r.length : Int)) = ((ends (ens (bl ++ [r])) : Nat) : Int) := by have h1 := hes.out; rw [hen2.out, IntKind.wrap_i64]; omega
          have ws2 : IntKind.i64.wrap ((bl.length : Int) + 1) = ((bl.length + 1 : Nat) : Int) := by have h1 := hbl20.out; rw [IntKind.wrap_i64]; omega
          clear k7
          go_wp2_with (first | (simp only [hclr]) | (refine wpList_load_cells rfl 38 (.tmp 12) rfl ⟨w5.heap.size, 0, none⟩ rfl ce _ Tryd.underlying38 rfl ice.out (ld_en E7.out) ?_; refine halt ?_))
          refine Halt.mk ?_
          go_wp2_with (first | (refine wpList_bs rfl _ _ _ rfl (.slice (some ⟨w7.heap.size, 0, none⟩) 1 1) (w7.alloc (.cells ce.toArray 38)) (by have h := hbs.out w7; unfold execOp; simp [Act.eval, Act.put, h]) ?_) | (at_builtin; refine halt ?_))
          refine Halt.mk ?_
          have hb20 := hbl20.out
          refine wpList_append_k _ rfl _ _ _ rfl w.heap.size 38 j0 _ 34 48 Tryd.underlying25 hj0 hy0 hy1 hy2 (by rw [Value.cells, List.size_toArray, zEnC_len]) (by decide) (.slice pa bl.length pc) bl.length _ rfl (((Kept.refl [] w7).alloc (.cells ce.toArray 38)).owns R7.out (by simp)) (.slice (some ⟨w7.heap.size, 0, none⟩) 1 1) 1 ce rfl (one_src (heap_alloc_at rfl)) (by rw [lce.out]) oce.out (by unfold maxLen; omega) (by omega) (by have h1 := K5.out.size; have h2 := k6.out.size; have h3 := K7.out.size; simp; omega) ?_
          intro v8 w8 o8 g8 _ f8
          obtain ⟨a8, c8, rfl⟩ := owns_slice o8
          have k78 := hid (show Kept [] w7 (w7.alloc (.cells ce.toArray 38)) from (Kept.refl [] w7).alloc _)
          have k8 := hid (Kept.of_row g8)
          have hz7 := hid (show w5.heap.size ≤ w7.heap.size from by have h2 := k6.out.size; have h3 := K7.out.size; omega)
          have hrow8 := hid (show w8.ownsRow w.heap.size 38 34 (.slice a8 (bl.length + 1) c8) (bl.length + 1) ((ens (bl ++ [r])).flatMap c34) from by rw [hrow2.out]; exact o8)
          have hI := hid (show SzI w p (bl ++ [r]) (.slice a8 (bl.length + 1) c8) S5 w8 from by
            have hm1 : more1 bl r = bl ++ [r] := by unfold more1; rw [ht5]; rfl
            have hb5 := B5.out
            rw [hm1] at hb5
            have hwz := Hst.out.kept.size
            refine ⟨(((K5.out.trans k6.out).trans' K7.out (fun y hy hm => ?_)).trans k78.out).trans' k8.out (fun y hy hm => ?_), ((hb5.kept k6.out (by simp)).kept K7.out (fun y hy hm => ?_)).kept k78.out (by simp) |>.kept k8.out (fun y hy hm => ?_), by simpa using hrow8.out, fun g hg hm => ?_⟩
            · simp at hm; have := (hoS.out y hm).1; omega
            · simp at hm; have := (Hst.out.row.lt y hm).1; omega
            · simp at hm; exact hoS5.out y hm hy
            · simp at hm; exact (hpS5.out y hm).1 hy
            · rcases f8 g hg with h1 | h1
              · exact (hpS5.out g h1).1 hm
              · have := (hb5.low g hm).2; have := hz7.out; simp at h1; omega)
          have hm2 := hid (show accAll (rows.take (i + 1)) = bl ++ [r] from by rw [htk.out]; unfold more1; rw [ht5]; rfl)
          have hin := Hlt.out
          clear o8 g8 f8 hclr c32 c33
          go_wp2
          go_roundw
          case rel => exact ⟨i + 1, hin, by go_num, S5, by rw [hm2.out], by rw [hm2.out, List.length_append]; rfl, by rw [hm2.out]; exact hI⟩
          case measure => simp [intOf]; omega
        · have izz := hid (show (Tryd.prog.info? 38).map (·.size) = some zEnC.length by rw [zEnC_len]; exact en_info)
          obtain ⟨er, her⟩ : ∃ er, er = addErr (ens bl) (Sha.sum r) r.length := ⟨_, rfl⟩
          have hne : (er == 0) = false := by
            have h1 : addErr (ens bl) (Sha.sum r) r.length ≠ 0 := of_decide_eq_false ht5
            rw [← her] at h1; simpa using h1
          rw [← her]
          clear her
          go_wp2_with (refine wpList_store_at rfl 38 (.tmp 12) (.tmp 47) rfl w5.heap.size 0 zEnC rfl rfl 38 zEnC (heap_alloc_at rfl) izz.out (by omega) zEnC_one ?_; refine halt ?_)
          rw [splice36 zEnC zEnC rfl]
          refine Halt.mk ?_
          obtain ⟨W6, hW6⟩ : ∃ W6, W6 = (w5.alloc (.cells zEnC.toArray 38)).setRow w5.heap.size zEnC.toArray := ⟨_, rfl⟩
          have k6 := hid (show Kept [] w5 W6 from hW6 ▸ ((Kept.refl [] w5).alloc _).setRow (fun h => absurd h (Nat.lt_irrefl _)) _)
          rw [← hW6]
          clear hW6
          obtain ⟨w7, hclr, k7⟩ := clear_row W6 (k6.out.owns O5.out (by simp))
          have K7 := hid k7
          have hm1 : more1 bl r = bl := by unfold more1; rw [ht5]; rfl
          have hm2 := hid (show accAll (rows.take (i + 1)) = bl from by rw [htk.out, hm1])
          have hI := hid (show SzI w p bl (.slice pa bl.length pc) S5 w7 from by
            have hb5 := B5.out
            rw [hm1] at hb5
            have hwz := Hst.out.kept.size
            refine ⟨(K5.out.trans k6.out).trans' k7 (fun y hy hm => ?_), (hb5.kept k6.out (by simp)).kept k7 (fun y hy hm => ?_), k7.owns (k6.out.owns R5.out (by simp)) (fun g hg hm => ?_), fun g hg => (hpS5.out g hg).1⟩
            · simp at hm; have := (hoS.out y hm).1; omega
            · simp at hm; exact hoS5.out y hm hy
            · simp at hm; have := (hpS5.out g hg).2; have := (hoS.out g hm).1; omega)
          have hin := Hlt.out
          clear k7 hm1
          go_wp2_with (simp only [hclr])
          go_roundw
          case rel => exact ⟨i + 1, hin, by go_num, S5, by rw [hm2.out], by rw [hm2.out], by rw [hm2.out]; exact hI⟩
          case measure => simp [intOf]; omega
    · obtain rfl : i = n := by omega
      rw [HN.out, List.take_length] at hst ⊢
      have hbls := hid (acc_small (rows := rows) (few12_spec Hfe.out).1)
      have hbl20 := hid (show (accAll rows).length ≤ 20 from (packL_small Hfe.out).2)
      generalize accAll rows = bl at *
      obtain ⟨vp, hvp⟩ : ∃ v, v = u8 := ⟨_, rfl⟩
      rw [← hvp] at hst ⊢
      obtain ⟨pa, pc, rfl⟩ := owns_slice hst.out.row
      clear hvp
      have Hst := hid hst.out
      have hd1 := hid (l_done w wr S p bl Hst.out.kept Hst.out.bw Ht.out)
      have hes := hid (show ends (ens bl) ≤ 4000 from by have h1 := flat_small hbls.out; have h2 := hbl20.out; rw [ens_ends]; omega)
      have hPl := hid (show (packL bl).length = ends (ens bl) + bl.length * 36 + 13 from by rw [packL_len]; unfold sizeP; rw [ens_len])
      have hGood := hid Hst.out.bw.good
      clear hst hlt hi
      go_wp2_with fail
      refine hd1.out.mono ?_
      rintro e w4 ⟨a4, c4, rfl, k4, o4⟩
      have K4 := hid (Hst.out.kept.trans k4)
      have B4 := hid (Hst.out.bw.kept k4 (by simp))
      have R4 := hid (k4.owns Hst.out.row (by simp))
      have O4 := hid o4
      have hln := hid (b_len S p _ _ w4 B4.out.bd)
      rw [ens_len] at hln
      obtain ⟨pl, hpl⟩ : ∃ pl, pl = (packL bl).length := ⟨_, rfl⟩
      have HPL := hid hpl
      rw [← hpl] at o4 ⊢
      have ws1 : IntKind.i64.wrap ((ends (ens bl) : Int) + 13) = ((ends (ens bl) : Nat) : Int) + 13 := by have h1 := hes.out; rw [IntKind.wrap_i64]; omega
      have ws2 : IntKind.i64.wrap (36 * (bl.length : Int)) = 36 * (bl.length : Int) := by have h1 := hbl20.out; rw [IntKind.wrap_i64]; omega
      have ws3 : IntKind.i64.wrap ((ends (ens bl) : Int) + 13 + 36 * (bl.length : Int)) = (pl : Int) := by have h1 := hes.out; have h2 := hbl20.out; have h3 := hPl.out; rw [IntKind.wrap_i64]; omega
      clear k4 hd1 hpl o4
      go_wp2_with fail
      refine hln.out.mono ?_
      rintro e w5 ⟨rfl, k5⟩
      have K5 := hid (K4.out.trans k5)
      have B5 := hid (B4.out.kept k5 (by simp))
      have R5 := hid (k5.owns R4.out (by simp))
      have O5 := hid (k5.owns O4.out (by simp))
      have hadd := hid (l_add' w w5 S p bl a1 c1 bs K5.out B5.out Hts.out (fun w' hk => srcB_old Hb.out (K5.out.trans' hk (fun x hx hm => by have := (B5.out.low x hm).1; omega))) (by have := Hnb.out; have := HNB.out; omega) Hbl.out Hbc.out)
      rw [← HNB.out] at hadd
      have hPlow := hid (show ∀ g, (Value.slice a4 (packL bl).length c4).ownBlock = some g → g ∉ S from fun g hg hm => by have h1 := (O4.out.lt g hg).1; have := (Hst.out.bw.low g hm).2; omega)
      clear k5 hln ws1 ws2 ws3
      go_wp2_with fail
      refine hadd.out.mono ?_
      rintro e w6 hw6
      obtain ⟨S6, v1, v2, rfl, k6, ks6, b6, n6⟩ := hw6.any
      have K6 := hid k6; have B6 := hid b6
      have R6 := hid (ks6.owns R5.out Hst.out.apart)
      have O6 := hid (ks6.owns O5.out hPlow.out)
      obtain ⟨bl2, hbl2⟩ : ∃ b, b = more1 bl bs := ⟨_, rfl⟩
      rw [← hbl2] at b6
      have HBL2 := hid hbl2
      have hG2 := hid (show Good bl2 from hbl2 ▸ hGood.out.more bs)
      have B62 := hid b6
      have hd6 := hid (l_done w w6 S6 p bl2 K6.out B62.out Ht.out)
      clear hw6 k6 ks6 b6 n6 hadd hbl2
      go_wp2_with fail
      refine hd6.out.mono ?_
      rintro e w7 ⟨a7, c7, rfl, k7, o7⟩
      have K7 := hid (K6.out.trans k7)
      have B7 := hid (B62.out.kept k7 (by simp))
      have R7 := hid (fun v (hv : Kept [] w7 v) => hv.owns (k7.owns R6.out (by simp)) (by simp))
      have O4f := hid (fun v (hv : Kept [] w7 v) => hv.owns (k7.owns O6.out (by simp)) (by simp))
      have O7f := hid (fun v (hv : Kept [] w7 v) => hv.owns o7 (by simp))
      have hcp4 := hid (owns_caps O4.out); have hcp7 := hid (owns_caps o7)
      have hPl2 := hid hG2.out.plen; have hPl1 := hid hGood.out.plen
      have hblob := hid (fun (j : Nat) (b : List UInt8) (hj : bl[j]? = some b) => packL_blob hj)
      have hblob2 := hid (fun (j : Nat) (b : List UInt8) (hj : bl[j]? = some b) => show _ ∧ _ ∧ _ from by
        have h1 := more1_take bl bs hj
        rw [← HBL2.out] at h1
        have h2 := packL_blob h1.1
        rw [h1.2] at h2
        exact h2)
      obtain ⟨pl2, hpl2⟩ : ∃ pl2, pl2 = (packL bl2).length := ⟨_, rfl⟩
      have HPL2 := hid hpl2
      rw [← hpl2]
      clear k7 o7 hd6 hpl2
      obtain ⟨nn, HNN⟩ : ∃ nn, Hid (nn = bl.length) := ⟨_, hid rfl⟩
      have hnn20 : nn ≤ 20 := by have h1 := hbl20.out; have h2 := HNN.out; omega
      rw [← HNN.out] at R7 ⊢
      go_wp2_with fail
      go_loopw [93] (fun s wr => ∃ j : Nat, j ≤ nn ∧ s = .int .i64 j ∧ Hid (Kept [] w7 wr)) (fun s _ => nn - (intOf s).toNat)
      case atStart => exact ⟨0, Nat.zero_le _, rfl, hid (Kept.refl _ _)⟩
      case round =>
        obtain ⟨j, hj, rfl, hkj⟩ := hrel
        by_cases hlj : j < nn
        · have hlj' : j < bl.length := by have := HNN.out; omega
          obtain ⟨b, hbj⟩ : ∃ b, bl[j]? = some b := ⟨bl[j], by simp⟩
          obtain ⟨en, hen⟩ : ∃ en : En, en = ⟨Sha.sum b, (bl.take j).flatten.length, b.length⟩ := ⟨_, rfl⟩
          have h32 : en.id.length = 32 := by rw [hen]; exact sum32 b
          have heg : (ens bl)[j]? = some en := by rw [ens_get, hbj, hen]; rfl
          obtain ⟨ce, hce⟩ : ∃ ce, ce = en.cells := ⟨_, rfl⟩
          have hpl' : (plC (Sha.sum b) ((bl.take j).flatten.length : Int) (b.length : Int)).toArray = ce.toArray := by rw [hce, hen]; rfl
          have lce := hid (show ce.length = 34 by rw [hce]; exact en_size h32)
          have ice := hid (show (Tryd.prog.info? 38).map (·.size) = some ce.length by rw [lce.out]; exact en_info)
          have fce := hid (show 0 + ce.length ≤ zEnC.length by rw [lce.out, zEnC_len]; decide)
          have sce := hid (splice36 zEnC ce (by rw [lce.out, zEnC_len]))
          have oce := hid (show ∀ v ∈ ce, v.oneCell' = true by rw [hce]; exact en_one _)
          obtain ⟨g, rfl⟩ : ∃ g, pa = some ⟨g, 0, none⟩ := by
            rcases (R7.out w7 (Kept.refl _ _)).2 with ⟨h1, h2⟩ | ⟨g, cap, cur, h1, _⟩
            · exfalso; omega
            · simp at h1; exact ⟨g, h1.1⟩
          have hreads := hid (show ∀ (k : Nat) v, ce[k]? = some v → wr.cell? ((⟨g, j * 34, none⟩ : Addr).add k) = some v from fun k v hk => by
            have hk34 : k < 34 := by have := (List.getElem?_eq_some_iff.1 hk).1; rw [lce.out] at this; exact this
            have hc := (R7.out wr hkj.out).cells (g := g) rfl (j * 34 + k) v (by rw [flat_get c34 34 c34_len (ens bl) j k en heg hk34, c34_of h32, ← hce]; exact hk)
            rw [plain_add] at hc ⊢
            simpa using hc)
          have hB1 := hblob.out j b hbj
          have hB2 := hblob2.out j b hbj
          obtain ⟨off, hoff⟩ : ∃ off, off = (bl.take j).flatten.length := ⟨_, rfl⟩
          rw [← hoff] at hB1 hB2 hpl'
          have HB1 := hid hB1; have HB2 := hid hB2
          have hcall1 := hid (fun v (hv : Kept [] w7 v) => p_blob_near a4 c4 (packL bl) (Sha.sum b) off b.length v (Hts.out.kept (K7.out.trans hv) (by simp) (by simp)) (sum32 b) (by have := hPl1.out; omega) HB1.out.2.2 hcp4.out.1 hcp4.out.2.1 hcp4.out.2.2.1 (fun u hu => ownsRow_src (O4f.out u (hv.trans hu))))
          have hcall2 := hid (fun v (hv : Kept [] w7 v) => p_blob_near a7 c7 (packL bl2) (Sha.sum b) off b.length v (Hts.out.kept (K7.out.trans hv) (by simp) (by simp)) (sum32 b) (by have := hPl2.out; omega) HB2.out.2.2 hcp7.out.1 hcp7.out.2.1 hcp7.out.2.2.1 (fun u hu => ownsRow_src (O7f.out u (hv.trans hu))))
          rw [hpl', ← HPL.out] at hcall1
          rw [hpl', ← HPL2.out] at hcall2
          have hsame := hid (fun v a c b' d (h1 : SrcB v (.slice a b.length c) b) (h2 : SrcB v (.slice b' b.length d) b) => same_src a b' c d b v h1 h2)
          have Hlj := hid hlj; have Hkj := hid hkj.out
          clear hB1 hB2 hpl' hce hen heg hbj hlj' h32 hoff hlj hkj
          go_wp2_with (first | (refine wpList_load_cells rfl 38 (.tmp 95) rfl ⟨g, j * 34, none⟩ rfl ce _ Tryd.underlying38 rfl ice.out hreads.out ?_) | (refine wpList_store_at rfl 38 (.tmp 17) (.tmp 96) rfl wr.heap.size 0 ce rfl rfl 38 zEnC (heap_alloc_at rfl) ice.out fce.out oce.out ?_; refine halt ?_))
          rw [sce.out]
          refine Halt.mk ?_
          obtain ⟨wb, hwb⟩ : ∃ wb : World, wb = (wr.alloc (.cells zEnC.toArray 38)).setRow wr.heap.size ce.toArray := ⟨_, rfl⟩
          have kb := hid (show Kept [] wr wb by rw [hwb]; exact ((Kept.refl [] wr).alloc _).setRow (fun h => absurd h (Nat.lt_irrefl _)) _)
          have qb := hid (show wb.heap[wr.heap.size]? = some (.cells ce.toArray 38 (0, 0)) from by rw [hwb]; exact setRow_heap _ _ _ _ _ _ (heap_alloc_at rfl))
          have Kb := hid (Hkj.out.trans kb.out)
          rw [← hwb]
          clear hwb hreads
          go_wp2_with (refine wpList_load_cells rfl 38 (.tmp 17) rfl ⟨wr.heap.size, 0, none⟩ rfl ce _ Tryd.underlying38 rfl ice.out (ld_en qb.out) ?_)
          refine (hcall1.out wb Kb.out).mono ?_
          rintro e wc ⟨kc, (⟨hbd, -⟩ | ⟨-, ba, bc, rfl, oc⟩)⟩
          · exact absurd HB1.out.2.1 hbd
          rw [HB1.out.1] at oc ⊢
          have Kc := hid (Kb.out.trans kc)
          have qc := hid (kc.at qb.out (by simp))
          have Oc := hid oc
          clear kc oc hcall1
          go_wp2_with (refine wpList_load_cells rfl 38 (.tmp 17) rfl ⟨wr.heap.size, 0, none⟩ rfl ce _ Tryd.underlying38 rfl ice.out (ld_en qc.out) ?_)
          refine (hcall2.out wc Kc.out).mono ?_
          rintro e wd ⟨kd, (⟨hbd, -⟩ | ⟨-, da, dc, rfl, od⟩)⟩
          · exact absurd HB2.out.2.1 hbd
          rw [HB2.out.1] at od ⊢
          have Kd := hid (Kc.out.trans kd)
          have hsm := hid (hsame.out wd ba bc da dc (ownsRow_src (kd.owns Oc.out (by simp))) (ownsRow_src od))
          clear kd od hcall2
          go_wp2_with fail
          refine hsm.out.mono ?_
          rintro e we ⟨rfl, rfl⟩
          have hin := Hlj.out
          clear hsm
          go_wp2
          go_roundw
          case rel => exact ⟨j + 1, hin, by go_num, Kd⟩
          case measure => simp [intOf]; omega
        · obtain rfl : j = nn := by omega
          have hsh := packL_sh hG2.out
          have hrd := hid (p_read_good a7 c7 (packL bl2) wr (Ht.out.kept (K7.out.trans hkj.out) (by simp)) (ownsRow_src (O7f.out wr hkj.out)) hcp7.out.1 hcp7.out.2.2.1 (by have := hPl2.out; omega) (ens bl2) hsh.1 hsh.2 hG2.out (by rw [ens_len]; exact hG2.out.size.2))
          rw [← HPL2.out] at hrd
          have Hkj := hid hkj.out
          clear hkj hsh hlj
          go_wp2_with fail
          refine hrd.out.mono ?_
          rintro e w8 ⟨k8, (⟨-, la, lc, rfl, -⟩ | ⟨hbd, -⟩)⟩
          rotate_left
          · exact absurd (packL_len bl2).symm hbd
          have K8 := hid (Hkj.out.trans k8)
          have hln := hid (b_len S6 p _ _ w8 (B7.out.kept K8.out (by simp)).bd)
          clear k8 hrd
          go_wp2_with fail
          refine hln.out.mono ?_
          rintro e w9 ⟨rfl, k9⟩
          have K9 := hid (K8.out.trans k9)
          have hsz := hid (b_size S6 p _ _ w9 (B7.out.kept K9.out (by simp)).bd)
          rw [← packL_len, ← HPL2.out] at hsz
          clear k9 hln
          go_wp2_with fail
          refine hsz.out.mono ?_
          rintro e w10 ⟨rfl, k10⟩
          have K10 := hid (K7.out.trans (K9.out.trans k10))
          clear k10 hsz
          go_wp2
          go_ret
          exact ⟨by simp, K10.out⟩
end Go.Proofs.YtlapomkckcoppaaDoor
