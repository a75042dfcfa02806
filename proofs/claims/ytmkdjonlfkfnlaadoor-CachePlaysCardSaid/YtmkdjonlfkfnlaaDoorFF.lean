import Derived.Test.YtmkdjonlfkfnlaaDoorFE

/- coldstorelaw14.alive. -/
namespace Go.Proofs.YtmkdjonlfkfnlaaDoor
open Go.RowKit Go.Lib Go.Maps
theorem sum_ab_c : Sha.sum [97, 98] ≠ Sha.sum [99] := by decide +kernel
theorem sum_ab_d : Sha.sum [97, 98] ≠ Sha.sum [100] := by decide +kernel
theorem sum_c_d : Sha.sum [99] ≠ Sha.sum [100] := by decide +kernel
theorem sum_l_d : Sha.sum [108] ≠ Sha.sum [100] := by decide +kernel
theorem conv_mark_k (W : World) (g n c : Nat) (C : Array Value) (fr : Nat × Nat) (hg : W.heap[g]? = some (.cells C 5 fr)) :
    ∃ W' fr', (convert 30 30 (.slice (some ⟨g, 0, none⟩) n c)).run Tryd.prog W = .ok (.slice (some ⟨g, 0, none⟩) n c) W' ∧ Kept [g] W W' ∧ W'.heap[g]? = some (.cells C 5 fr') := by
  have hsh : W.shape? g = some (5, C.size) := by unfold World.shape?; rw [hg]
  obtain ⟨lo, hi⟩ := fr
  refine ⟨W.freeze ⟨g, C.size, none⟩ 1, if lo == hi then (C.size, C.size + 1) else (min lo C.size, max hi (C.size + 1)), ?_, ?_, ?_⟩
  · simp [convert, run_underlying Tryd.underlying30, run_underlying Tryd.underlying5, markStringish, hsh]
  · refine ⟨rfl, rfl, rfl, ?_, fun k hk hm => ?_⟩
    · simp [World.freeze]
    · simp at hm
      simp [World.freeze, Array.getElem?_modify, Ne.symm hm]
  · simp [World.freeze, Array.getElem?_modify, hg]
theorem bytes_back_k (w : World) (a : Option Addr) (n c : Nat) (l : List UInt8) (hn : n = l.length) (hl : l ≠ []) (h : Src w (.slice a n c) n (l.map B)) : (convert 30 9 (.slice a n c)).run Tryd.prog w = .ok (.string ⟨l.toArray⟩) w := by
  subst hn
  rcases h with ⟨h1, h2, _⟩ | ⟨ad, c', h1, hc⟩
  · exact absurd (List.eq_nil_of_length_eq_zero h2) hl
  · simp at h1
    obtain ⟨rfl, rfl⟩ := h1
    refine run_convert_bytes_back w _ _ 5 ad c l Tryd.underlying30 Tryd.underlying5 Tryd.underlying9 (fun j hj => ?_)
    exact hc j (.int .u8 (l[j].toNat : Int)) (by simp [hj, B])
theorem reads_lit {W : World} {g : Nat} {fr : Nat × Nat} {ys : List UInt8} (h : W.heap[g]? = some (.cells (ys.map B).toArray 5 fr)) : Reads W (some ⟨g, 0, none⟩) ys := by
  refine ⟨fun h => by simp at h, fun ad had j u hj => ?_⟩
  simp at had
  subst had
  have e : (⟨g, 0, none⟩ : Addr).add j = ⟨g, j, none⟩ := by unfold Addr.add; split <;> simp_all
  rw [e, cell_of_row _ _ j _ _ _ h]
  simpa using hj
set_option maxRecDepth 100000 in
set_option maxHeartbeats 8000000 in
theorem alive14 (w : World) (ht : Tabs w) : Calls Tryd.prog 5 #[] w fun e w' => e = .returned (.bool true) ∧ Kept [] w w' := by
  obtain ⟨x0, hx0⟩ : ∃ x, x = Sha.sum [97, 98] := ⟨_, rfl⟩
  obtain ⟨x1, hx1⟩ : ∃ x, x = Sha.sum [99] := ⟨_, rfl⟩
  obtain ⟨x2, hx2⟩ : ∃ x, x = Sha.sum [100] := ⟨_, rfl⟩
  have n01 : x0 ≠ x1 := by rw [hx0, hx1]; exact sum_ab_c
  have n02 : x0 ≠ x2 := by rw [hx0, hx2]; exact sum_ab_d
  have n12 : x1 ≠ x2 := by rw [hx1, hx2]; exact sum_c_d
  have L0 := hid (show x0.length = 32 from by rw [hx0]; exact Sha.sum_len _)
  have L1 := hid (show x1.length = 32 from by rw [hx1]; exact Sha.sum_len _)
  have L2 := hid (show x2.length = 32 from by rw [hx2]; exact Sha.sum_len _)
  have p1 := hid (show putD 3 [] [97, 98] = [(x0, [97, 98])] from by unfold putD; rw [← hx0]; simp [dropD, evict])
  have p2 := hid (show putD 3 [(x0, [97, 98])] [99] = [(x0, [97, 98]), (x1, [99])] from by unfold putD; rw [← hx1]; simp [dropD, evict, szD, n01])
  have p3 := hid (show putD 3 [(x0, [97, 98]), (x1, [99])] [100] = [(x1, [99]), (x2, [100])] from by unfold putD; rw [← hx2]; simp [dropD, evict, szD, n02, n12])
  have g0 := hid (show getO x0 [(x1, [99]), (x2, [100])] = none from by simp [getO, findD, n01.symm, n02.symm])
  have g0l := hid (show getL x0 [(x1, [99]), (x2, [100])] = [(x1, [99]), (x2, [100])] from by unfold getL; rw [g0.out]; simp [dropD, n01.symm, n02.symm])
  have g1 := hid (show getO x1 [(x1, [99]), (x2, [100])] = some [99] from by simp [getO, findD, hx1])
  have g1l := hid (show getL x1 [(x1, [99]), (x2, [100])] = [(x2, [100]), (x1, [99])] from by unfold getL; rw [g1.out]; simp [dropD, n12.symm])
  have s2 := hid (show spoilL x2 3 [(x2, [100]), (x1, [99])] = some [(x2, [108]), (x1, [99])] from by
    have e : flipB [100] (bitAt 3 [100]) = [108] := by decide
    simp [spoilL, findD, n12, e])
  have g2 := hid (show getO x2 [(x2, [108]), (x1, [99])] = none from by
    have e : ¬ Sha.sum [108] = x2 := by rw [hx2]; exact sum_l_d
    simp [getO, findD, e])
  have g2l := hid (show getL x2 [(x2, [108]), (x1, [99])] = [(x1, [99])] from by unfold getL; rw [g2.out]; simp [dropD, n12])
  obtain ⟨i0, hi0⟩ : ∃ i, i = (x0.map B).toArray := ⟨_, rfl⟩
  obtain ⟨i1, hi1⟩ : ∃ i, i = (x1.map B).toArray := ⟨_, rfl⟩
  obtain ⟨i2, hi2⟩ : ∃ i, i = (x2.map B).toArray := ⟨_, rfl⟩
  have hnew := hid (cs_new w w (Kept.refl _ _) ht 3 (by decide))
  have e3 : max (3 : Int) 0 = 3 := by decide
  rw [e3] at hnew
  have X0 := hid hx0; have X1 := hid hx1; have X2 := hid hx2; have I0 := hid hi0; have I1 := hid hi1; have I2 := hid hi2
  clear hx0 hx1 hx2 n01 n02 n12 ht hi0 hi1 hi2 e3
  go_enter Tryd.func5, Tryd.ntmps5
  go_wp2_with fail
  refine hnew.out.mono ?_
  rintro e w1 ⟨rfl, k1, c1⟩
  obtain ⟨p, hp⟩ : ∃ p, p = w.heap.size := ⟨_, rfl⟩
  rw [← hp] at c1 ⊢
  have C1 := hid c1
  clear k1 c1 hp hnew
  obtain ⟨w2, frw2, hcw2, kcw2, hgw2⟩ := conv_mark_k (w1.alloc (.cells #[.int .u8 97, .int .u8 98] 5)) w1.heap.size 2 2 _ _ (heap_alloc_at rfl)
  have c2 := C1.out.keep ((((Kept.refl [] w1).alloc (.cells #[.int .u8 97, .int .u8 98] 5)).wider (fun x _ hx => by simp at hx)).trans kcw2) (fun x hx hm => by have := (C1.out.bound x hx).2; simp at hm; omega) (fun x hx => by have := C1.out.kept.size; simp at hx; omega)
  go_wp2_with fail
  have hq1 := hid (cs_put c2 (by decide) (by decide) (some ⟨w1.heap.size, 0, none⟩) 2 [97, 98] (reads_lit hgw2) (fun _ x hx => by simp at hx; subst hx; intro hm; have := (C1.out.bound _ hm).2; simp at this) (by simp) (by decide) (by decide) (by decide))
  rw [← X0.out, ← I0.out, p1.out] at hq1
  clear hcw2 kcw2 hgw2 c2
  refine hq1.out.mono ?_
  rintro e w3 ⟨rfl, k3, U3, m3, c3⟩
  have C3 := hid c3
  clear c3 k3 m3 hq1 C1
  obtain ⟨w4, frw4, hcw4, kcw4, hgw4⟩ := conv_mark_k (w3.alloc (.cells #[.int .u8 99] 5)) w3.heap.size 1 1 _ _ (heap_alloc_at rfl)
  have c4 := C3.out.keep ((((Kept.refl [] w3).alloc (.cells #[.int .u8 99] 5)).wider (fun x _ hx => by simp at hx)).trans kcw4) (fun x hx hm => by have := (C3.out.bound x hx).2; simp at hm; omega) (fun x hx => by have := C3.out.kept.size; simp at hx; omega)
  go_wp2_with fail
  have hq2 := hid (cs_put c4 (by simp [szD]) (by simp) (some ⟨w3.heap.size, 0, none⟩) 1 [99] (reads_lit hgw4) (fun _ x hx => by simp at hx; subst hx; intro hm; have := (C3.out.bound _ hm).2; simp at this) (by simp) (by decide) (by decide) (by decide))
  rw [← X1.out, ← I1.out, p2.out] at hq2
  clear hcw4 kcw4 hgw4 c4
  refine hq2.out.mono ?_
  rintro e w5 ⟨rfl, k5, U5, m5, c5⟩
  have C5 := hid c5
  clear c5 k5 m5 hq2 C3
  obtain ⟨w6, frw6, hcw6, kcw6, hgw6⟩ := conv_mark_k (w5.alloc (.cells #[.int .u8 100] 5)) w5.heap.size 1 1 _ _ (heap_alloc_at rfl)
  have c6 := C5.out.keep ((((Kept.refl [] w5).alloc (.cells #[.int .u8 100] 5)).wider (fun x _ hx => by simp at hx)).trans kcw6) (fun x hx hm => by have := (C5.out.bound x hx).2; simp at hm; omega) (fun x hx => by have := C5.out.kept.size; simp at hx; omega)
  go_wp2_with fail
  have hq3 := hid (cs_put c6 (by simp [szD]) (by simp) (some ⟨w5.heap.size, 0, none⟩) 1 [100] (reads_lit hgw6) (fun _ x hx => by simp at hx; subst hx; intro hm; have := (C5.out.bound _ hm).2; simp at this) (by simp) (by decide) (by decide) (by decide))
  rw [← X2.out, ← I2.out, p3.out] at hq3
  clear hcw6 kcw6 hgw6 c6
  refine hq3.out.mono ?_
  rintro e w7 ⟨rfl, k7, U7, m7, c7⟩
  have C7 := hid c7
  clear c7 k7 m7 hq3 C5
  obtain ⟨zv, hzv⟩ : ∃ zv, zv = (idz.map B).toArray := ⟨_, rfl⟩
  have hzz : ∀ W, (zeroValue 34).run Tryd.prog W = .ok (.agg zv) W := by rw [hzv]; exact zero_idN
  have hzs : zv.size = 32 := by rw [hzv]; simp [idz]
  have si : ∀ (x : List UInt8) (i : Array Value), x.length = 32 → i = (x.map B).toArray → (Tryd.prog.info? 34).map (·.size) = some i.size ∧ zv.size = i.size ∧ i.all (·.oneCell') = true := fun x i h1 h2 => by
    have e : i.size = 32 := by rw [h2]; simp [h1]
    exact ⟨by rw [e]; kernel_rfl, by rw [e, hzs], by rw [h2]; exact id_one x⟩
  have S0 := hid (si x0 i0 L0.out I0.out); have S1 := hid (si x1 i1 L1.out I1.out); have S2 := hid (si x2 i2 L2.out I2.out)
  obtain ⟨q, hq⟩ : ∃ q, q = w7.heap.size := ⟨_, rfl⟩
  obtain ⟨z3, hz3⟩ : ∃ z3, z3 = ((w7.alloc (.cells zv 34)).alloc (.cells zv 34)).alloc (.cells zv 34) := ⟨_, rfl⟩
  have r0 : z3.heap[q]? = some (.cells zv 34 (0, 0)) := by rw [hz3, hq]; exact heap_alloc_old (heap_alloc_old (heap_alloc_at rfl))
  have r1 : z3.heap[q + 1]? = some (.cells zv 34 (0, 0)) := by rw [hz3, hq]; exact heap_alloc_old (heap_alloc_at (by simp))
  have r2 : z3.heap[q + 1 + 1]? = some (.cells zv 34 (0, 0)) := by rw [hz3, hq]; exact heap_alloc_at (by simp)
  obtain ⟨z4, hz4⟩ : ∃ z4, z4 = z3.setRow q i0 := ⟨_, rfl⟩
  have k34 : Kept [q] z3 z4 := by rw [hz4]; exact (Kept.refl _ z3).setRow (fun _ => by simp) _
  obtain ⟨z5, hz5⟩ : ∃ z5, z5 = z4.setRow (q + 1) i1 := ⟨_, rfl⟩
  have k45 : Kept [q + 1] z4 z5 := by rw [hz5]; exact (Kept.refl _ z4).setRow (fun _ => by simp) _
  obtain ⟨z6, hz6⟩ : ∃ z6, z6 = z5.setRow (q + 1 + 1) i2 := ⟨_, rfl⟩
  have k56 : Kept [q + 1 + 1] z5 z6 := by rw [hz6]; exact (Kept.refl _ z5).setRow (fun _ => by simp) _
  have t0 : z4.heap[q]? = some (.cells i0 34 (0, 0)) := by rw [hz4]; exact setRow_heap _ _ _ _ _ _ r0
  have t1 : z5.heap[q + 1]? = some (.cells i1 34 (0, 0)) := by rw [hz5]; exact setRow_heap _ _ _ _ _ _ (k34.at r1 (by simp <;> omega))
  have r2' := k45.at (k34.at r2 (by simp <;> omega)) (by simp <;> omega)
  have t2 : z6.heap[q + 1 + 1]? = some (.cells i2 34 (0, 0)) := by rw [hz6]; exact setRow_heap _ _ _ _ _ _ r2'
  have k73 : Kept [] w7 z3 := by rw [hz3]; exact (((Kept.refl [] w7).alloc _).alloc _).alloc _
  have K7 := hid (show Kept [q, q + 1, q + 1 + 1] w7 z6 from (((k73.wider (fun x _ h => by simp at h)).trans (k34.wider (fun x _ h => by simp at h; simp [h]))).trans (k45.wider (fun x _ h => by simp at h; simp [h]))).trans (k56.wider (fun x _ h => by simp at h; simp [h])))
  have C8 := hid (C7.out.keep K7.out (fun x hx hm => by have := (C7.out.bound x hx).2; simp at hm; omega) (fun x hx => by have := C7.out.kept.size; simp at hx; omega))
  have T0 := hid (k56.at (k45.at t0 (by simp <;> omega)) (by simp <;> omega)); have T1 := hid (k56.at t1 (by simp <;> omega)); have T2 := hid t2
  have R0 := hid r0; have R1 := hid (k34.at r1 (by simp <;> omega)); have R2 := hid r2'
  have HQ := hid hq; have HZ3 := hid hz3; have HZ4 := hid hz4; have HZ5 := hid hz5; have HZ6 := hid hz6
  clear hq hz3 hz4 hz5 hz6 r0 r1 r2 t0 t1 t2 r2' k34 k45 k56 hzs si hzv
  go_wp2_with (refine wpList_store_row rfl 34 (.tmp 2) (.tmp 19) rfl w7.heap.size i0 rfl rfl _ _ (by rw [← HZ3.out, ← HQ.out]; exact R0.out) S0.out.1 S0.out.2.1 S0.out.2.2 ?_; refine halt ?_)
  refine Halt.mk ?_
  rw [← HZ3.out, ← HQ.out, ← HZ4.out]
  go_wp2_with (refine wpList_store_row rfl 34 (.tmp 3) (.tmp 23) rfl (q + 1) i1 rfl rfl _ _ R1.out S1.out.1 S1.out.2.1 S1.out.2.2 ?_; refine halt ?_)
  refine Halt.mk ?_
  rw [← HZ5.out]
  go_wp2_with (refine wpList_store_row rfl 34 (.tmp 4) (.tmp 27) rfl (q + 1 + 1) i2 rfl rfl _ _ R2.out S2.out.1 S2.out.2.1 S2.out.2.2 ?_; refine halt ?_)
  refine Halt.mk ?_
  rw [← HZ6.out]
  have hqU7 := hid (show ∀ x ∈ U7, x < q from fun x hx => by have := (C7.out.bound x hx).2; have := HQ.out; omega)
  have LD0 := hid (ld_idB z6 q x0 L0.out (by rw [← I0.out]; exact T0.out))
  rw [← I0.out] at LD0
  have hg0 := hid (cs_get C8.out (by simp [szD]) (by simp) x0 L0.out)
  rw [← I0.out, g0.out, g0l.out] at hg0
  simp only [Option.isSome_none] at hg0
  clear HZ3 HZ4 HZ5 HZ6 R0 R1 R2 K7 S0 S1 S2 hzz k73
  go_wp2_with (refine wpList_ldv rfl 34 (.tmp 2) rfl ⟨q, 0, none⟩ rfl (.agg i0) LD0.out ?_; refine halt ?_)
  refine Halt.mk ?_
  go_wp2_with fail
  refine hg0.out.mono ?_
  rintro e y1 ⟨v, U9, rfl, k9, m9, c9, ha⟩
  have ha : v = .slice none 0 0 := ha
  subst ha
  have C9 := hid c9
  have T1b := hid (k9.at T1.out (fun hm => by have := hqU7.out _ hm; omega))
  have T2b := hid (k9.at T2.out (fun hm => by have := hqU7.out _ hm; omega))
  have hqU9 := hid (show ∀ x ∈ U9, x ≠ q + 1 + 1 from fun x hx e => by
    rcases m9.1 x hx with h | h
    · have := hqU7.out x h; omega
    · have := lt_of_block T2.out; omega)
  have LD1 := hid (ld_idB y1 (q + 1) x1 L1.out (by rw [← I1.out]; exact T1b.out))
  rw [← I1.out] at LD1
  have hg1 := hid (cs_get C9.out (by simp [szD]) (by simp) x1 L1.out)
  rw [← I1.out, g1.out, g1l.out] at hg1
  simp only [Option.isSome_some] at hg1
  clear c9 k9 m9 hg0 LD0 C8 T0 T1 T2
  go_wp2_with (refine wpList_ldv rfl 34 (.tmp 3) rfl ⟨q + 1, 0, none⟩ rfl (.agg i1) LD1.out ?_; refine halt ?_)
  refine Halt.mk ?_
  go_wp2_with fail
  refine hg1.out.mono ?_
  rintro e y2 ⟨v, U10, rfl, k10, m10, c10, ha⟩
  have ha : y2.ownsRow y1.heap.size 5 1 v [99].length ([99].map B) ∧ _ := ha
  obtain ⟨av, cv, rfl⟩ := owns_slice ha.1
  have hcs := bytes_back_k y2 av 1 cv [99] rfl (by simp) (src_reads (reads_row ha.1).1 (reads_row ha.1).2.2.2.2)
  have C10 := hid c10
  have T2c := hid (k10.at T2b.out (fun hm => hqU9.out _ hm rfl))
  have hqU10 := hid (show ∀ x ∈ U10, x ≠ q + 1 + 1 from fun x hx e => by
    rcases m10.1 x hx with h | h
    · exact hqU9.out x h e
    · have := lt_of_block T2b.out; omega)
  have hsz := hid (cs_size C10.out)
  have e2 : szD [(x2, [100]), (x1, [99])] = 2 := by simp [szD]
  rw [e2] at hsz
  clear c10 k10 m10 hg1 LD1 C9 T1b T2b hqU9 hqU7 ha e2
  go_wp2_with fail
  refine hsz.out.mono ?_
  rintro e y3 ⟨rfl, rfl⟩
  have LD2 := hid (ld_idB y2 (q + 1 + 1) x2 L2.out (by rw [← I2.out]; exact T2c.out))
  rw [← I2.out] at LD2
  have hsp := hid (cs_spoil C10.out (by simp [szD]) x2 L2.out 3 (by decide) (by decide))
  rw [← I2.out, s2.out] at hsp
  simp only [Option.isSome_some, Option.getD_some] at hsp
  clear hsz hcs
  go_wp2_with (refine wpList_ldv rfl 34 (.tmp 4) rfl ⟨q + 1 + 1, 0, none⟩ rfl (.agg i2) LD2.out ?_; refine halt ?_)
  refine Halt.mk ?_
  go_wp2_with fail
  refine hsp.out.mono ?_
  rintro e y4 ⟨rfl, k11, c11⟩
  have C11 := hid c11
  have T2d := hid (k11.at T2c.out (fun hm => hqU10.out _ hm rfl))
  have LD3 := hid (ld_idB y4 (q + 1 + 1) x2 L2.out (by rw [← I2.out]; exact T2d.out))
  rw [← I2.out] at LD3
  have hg2 := hid (cs_get C11.out (by simp [szD]) (by simp) x2 L2.out)
  rw [← I2.out, g2.out, g2l.out] at hg2
  simp only [Option.isSome_none] at hg2
  clear c11 k11 hsp LD2 C10 T2c hqU10
  go_wp2_with (refine wpList_ldv rfl 34 (.tmp 4) rfl ⟨q + 1 + 1, 0, none⟩ rfl (.agg i2) LD3.out ?_; refine halt ?_)
  refine Halt.mk ?_
  go_wp2_with fail
  refine hg2.out.mono ?_
  rintro e y5 ⟨v, U12, rfl, k12, m12, c12, ha⟩
  have ha : v = .slice none 0 0 := ha
  subst ha
  have hal := hid (cs_all c12 (by simp) 9 (by decide) (by decide))
  have hea : (([(x1, [99])] : List (List UInt8 × List UInt8)).map (·.1)).take 9 = [x1] := rfl
  rw [hea] at hal
  have C12 := hid c12
  clear c12 k12 m12 hg2 LD3 C11 T2d hea
  go_wp2_with fail
  refine hal.out.mono ?_
  rintro e y6 ⟨a6, c6, rfl, k13, _⟩
  have C13 := hid (C12.out.keep0 k13)
  have hwi := hid (cs_wipe C13.out)
  clear k13 hal C12
  go_wp2_with fail
  refine hwi.out.mono ?_
  rintro e y7 ⟨rfl, k14, c14⟩
  have hle := hid (cs_len c14)
  have hsi := hid (cs_size c14)
  have C14 := hid c14
  clear k14 c14 hwi C13
  go_wp2_with fail
  refine hle.out.mono ?_
  rintro e y8 ⟨rfl, rfl⟩
  go_wp2_with fail
  refine hsi.out.mono ?_
  rintro e y8 ⟨rfl, rfl⟩
  go_wp2
  go_ret
  exact ⟨rfl, C14.out.kept⟩
end Go.Proofs.YtmkdjonlfkfnlaaDoor
