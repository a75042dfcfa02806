import Derived.Test.YtfefpblneihmgaaDoorFA

/- coldstorelaw14.all: up to so many sums. -/
namespace Go.Proofs.YtfefpblneihmgaaDoor
open Go.RowKit Go.Lib Go.Maps
attribute [local go_sem] Oper.semAt_some

theorem wpListIn_buildSlice1 {F : Fence} {n : Nat} {P : Program} {ops : Array Oper} {rest : List Oper} {o : Oper} {a : Act} {w : World} {Q : Exit → Act → World → Prop} (hgd : o.guard = none) (t k : Nat) (parts : Array (Nat × Operand)) (ho : o.op = .buildSlice t k parts) (v : Value) (w' : World)
    (hrun : (execOp a.eval o).run P w = .ok (.value v) w') (h : wpListIn F n P ops Q rest (a.put o.dst v) w') : wpListIn F n P ops Q (o :: rest) a w := by
  refine wpListIn_plain hgd fun K hK => ?_
  unfold Oper.wpIn
  constructor
  · simp [Oper.about, ho, resolve, Target.leads, Sem.run_pure]
  · rw [Oper.semAt_plain F _ _ (by rw [ho]; intro c hc; cases hc)]
    rw [hrun]
    exact hK _ _ h

/-- The call's own variables: s is the first block. -/
structure BlB (s : Nat) (v : Value) (most : Nat) (W : World) : Prop where
  most : W.heap[s]? = some (.cells #[.int .i64 (most : Int)] 3 (0, 0))
  res : W.heap[s + 1]? = some (.cells #[.slice none 0 0] 46 (0, 0))
  out : W.heap[s + 3]? = some (.cells #[v] 46 (0, 0))
theorem BlB.kept {S : List Nat} {s most : Nat} {v : Value} {W W' : World} (h : BlB s v most W) (hk : Kept S W W') (hS : s ∉ S ∧ s + 1 ∉ S ∧ s + 3 ∉ S) : BlB s v most W' :=
  ⟨hk.at h.most hS.1, hk.at h.res hS.2.1, hk.at h.out hS.2.2⟩
structure BlI (w : World) (D : Nat) (v : Value) (pre : List (List UInt8)) (W : World) : Prop where
  row : W.ownsRow w.heap.size 34 32 v pre.length (pre.flatMap e32)
  kept : Kept [] w W
  own : ∀ g, v.ownBlock = some g → g = w.heap.size + 2 ∨ D + 2 < g
theorem BlI.keep {S : List Nat} {w : World} {D : Nat} {v : Value} {pre : List (List UInt8)} {W W' : World} (h : BlI w D v pre W) (hk : Kept S W W') (hS : ∀ k ∈ S, k ≠ w.heap.size + 2 ∧ w.heap.size ≤ k ∧ k ≤ D + 2) : BlI w D v pre W' :=
  ⟨hk.owns h.row (fun g hg hm => by rcases h.own g hg with e | e <;> have := hS g hm <;> omega), h.kept.trans' hk (fun k hl hm => by have := hS k hm; omega), h.own⟩

def idsK (ks : List Kn) : List (List UInt8) := ks.map (·.id)
set_option maxRecDepth 100000 in
set_option maxHeartbeats 4000000 in
theorem ca_lall (D : Nat) (w : World) (U : List Nat) (cp : Nat) (lim : Int) (ks : List Kn) (h : Ca D w U cp lim ks) (hl0 : ks.length ≤ 1000000) (most : Nat) (hm1 : 1 ≤ most) (hm2 : most ≤ 2000000000) :
    Calls Tryd.prog 21 #[.pointer (some ⟨cp, 0, none⟩), .int .i64 (most : Int)] w fun e w' => ∃ a2 c2, e = .returned (.slice a2 ((idsK ks).take most).length c2) ∧ Kept [] w w' ∧ w'.ownsRow w.heap.size 34 32 (.slice a2 ((idsK ks).take most).length c2) ((idsK ks).take most).length (((idsK ks).take most).flatMap e32) := by
  have hl : (idsK ks).length ≤ 100000000 := by unfold idsK; simp; omega
  have h0 : ¬ ((most : Int) ≤ 0) := by omega
  have hzv := zero_id
  have hall := hid (fun (W : World) (k : Kept [] w W) => ca_all D W U cp lim ks (h.kept k (by simp)) hl0)
  clear h
  refine (callsIn_wide (n := 4)).1 ?_
  refine callsIn_of_wp_marks Tryd.func21 rfl trivial ?_ rfl
  simp only [Tryd.ntmps21, List.size_toArray, List.length_cons, List.length_nil, Nat.reduceAdd, Nat.reduceSub, Array.replicate_succ, Array.replicate_zero, List.push_toArray, List.append_toArray, List.nil_append, List.cons_append]
  gi_wp2_with (refine ⟨trivial, ?_⟩; gi_at_call 33; refine (callsIn_wide.2 (hall.out _ (((((Kept.refl [] w).alloc _).alloc _).alloc _).alloc _))).mono ?_; rintro e w1 ⟨b, pa, pc, rfl, k1, hb, hv, hx⟩)
  obtain ⟨W0, hW0⟩ : ∃ W0, W0 = ((((w.alloc (.cells #[.int .i64 (most : Int)] 3)).alloc (.cells #[.slice none 0 0] 46)).alloc (.cells #[] 34)).alloc (.cells #[.slice (some ⟨w.heap.size + 1 + 1, 0, none⟩) 0 0] 46)) := ⟨_, rfl⟩
  have k00 : Kept [] w W0 := hW0 ▸ (((((Kept.refl [] w).alloc _).alloc _).alloc _).alloc _)
  have hB0 : BlB w.heap.size (.slice (some ⟨w.heap.size + 2, 0, none⟩) 0 0) most W0 := by
    rw [hW0]
    refine ⟨?_, ?_, ?_⟩
    · exact heap_alloc_old (heap_alloc_old (heap_alloc_old (heap_alloc_at rfl)))
    · exact heap_alloc_old (heap_alloc_old (heap_alloc_at (by simp)))
    · exact heap_alloc_at (by simp)
  have hr0 : W0.heap[w.heap.size + 2]? = some (.cells #[] 34 (0, 0)) := by
    rw [hW0]; exact heap_alloc_old (heap_alloc_at (by simp))
  have hs0 : W0.heap.size = w.heap.size + 4 := by rw [hW0]; simp
  rw [← hW0] at k1 hb hx
  rw [show w.heap.size + 1 + 1 = w.heap.size + 2 by omega]
  clear hW0 hall
  rw [hs0] at hb hx
  have hk01 := hid (k00.trans k1)
  have hB1 := hid (hB0.kept k1 (by simp))
  have hr1 := hid (k1.at hr0 (by simp))
  have hS32 := hid hv.ids.h32
  have hblt := lt_of_block hv.box
  have hneed := hid (show ∀ k, VNeed b pa k → k < w1.heap.size ∧ w.heap.size + 4 ≤ k from by
    rintro k (rfl | ⟨x, h1, rfl⟩)
    · exact ⟨hblt, hb⟩
    · exact ⟨hv.lt x h1, (hx x h1).1⟩)
  have hw1 : w.heap.size + 4 ≤ w1.heap.size := by omega
  have HV := hid hv
  clear k1 hb hx hv k00 hB0 hr0 hs0
  obtain ⟨i0, hi0, hz0, hz1, hz2⟩ := info_parts id_zero
  refine range_v (β := Nat) rfl (by omega) (gf := 42) (lb := #[.pointer (some ⟨b, 0, none⟩)]) rfl trivial (enters_of Tryd.func42 (by kernel_rfl) rfl)
    (vals_seq (4 - 1) (by omega) b pa pc (idsK ks) w1 HV.out hl) (fun k hk => (hneed.out k hk).1) (fun _ => rfl) (fun x A B hf hk => by unfold VFt at hf ⊢; have := hk.size; omega)
    (fun pre W => pre.length < most ∧ ∃ v, BlB w.heap.size v most W ∧ BlI w w1.heap.size v pre W)
    (fun pre W => pre.length = most ∧ ∃ v, W.heap[w.heap.size + 1]? = some (.cells #[v] 46 (0, 0)) ∧ BlI w w1.heap.size v pre W) ?hI ?hIx ?h0
    (fun x p => { tmps := #[.pointer (some ⟨cp, 0, none⟩), .int .i64 (most : Int), undef, .pointer (some ⟨w.heap.size, 0, none⟩), .pointer (some ⟨w.heap.size + 1, 0, none⟩), .pointer (some ⟨w.heap.size + 2 + 1, 0, none⟩), .pointer (some ⟨p, 0, none⟩), .slice (some ⟨w.heap.size + 2, 0, none⟩) 0 0, .int .i64 (most : Int), .bool false, undef, .pointer (some ⟨cp, 0, none⟩), .func (.func 42) #[] #[.pointer (some ⟨b, 0, none⟩)], .agg (e32 x).toArray, undef, undef, undef, undef, undef, undef, undef, undef, undef, undef], defers := [] })
    (fun x p W => W.heap[p]? = some (.cells (e32 x).toArray 34 (0, 0)) ∧ w1.heap.size + 2 < p) (fun x p A B ⟨h1, h2⟩ hk => ⟨hk.at h1 (by simp; omega), h2⟩) ?assign ?body ?fs ?done ?stop
  case hI =>
    rintro s A B ⟨hlt, v, hb, hi⟩ hkk
    exact ⟨hlt, v, hb.kept hkk (by simp; omega), hi.keep hkk (fun k hk => by simp at hk; omega)⟩
  case hIx =>
    rintro s A B ⟨hlt, v, hb1, hi⟩ hkk
    exact ⟨hlt, v, hkk.at hb1 (by simp; omega), hi.keep hkk (fun k hk => by simp at hk; omega)⟩
  case h0 =>
    refine ⟨by show 0 < most; omega, _, hB1.out, ⟨⟨by simp, Or.inr ⟨w.heap.size + 2, 0, #[], rfl, by omega, hr1.out, by simp, by unfold maxLen; omega, by simp, by simp⟩⟩, hk01.out, fun g hg => ?_⟩⟩
    simp [Value.ownBlock] at hg; omega
  case assign =>
    intro l x W K hsz hK
    have hszi := hid (show (Tryd.prog.info? 34).map (·.size) = some (e32 x).length by rw [e32_len]; exact ninfo32)
    have hone := hid (show ∀ v ∈ e32 x, v.oneCell' = true by have := e32_one [x]; simpa using this)
    have hspl := hid (splice36 (zid.map B) (e32 x) (by rw [e32_len]; simp [zid]))
    have hfit := hid (show 0 + (e32 x).length ≤ (zid.map B).length by rw [e32_len]; simp [zid])
    have HK := hid hK
    clear hK
    dsimp only [vvals]
    gi_wp2_with (refine wpListIn_store_at rfl 34 (.tmp 6) (.tmp 13) rfl W.heap.size 0 (e32 x) rfl rfl 34 (zid.map B) (heap_alloc_at rfl) hszi.out hfit.out hone.out ?_; refine halt ?_)
    rw [hspl.out]
    refine Halt.mk ?_
    gi_wp2
    refine HK.out W.heap.size _ (((Kept.refl [] W).alloc _).setRow (fun h => absurd h (Nat.lt_irrefl _)) _) ⟨setRow_heap _ _ _ _ _ _ (heap_alloc_at rfl), hsz⟩
  case body =>
    rintro l pre x p W ⟨hlt, v, hB, hi⟩ hft hzp hsz ⟨hp, hpg⟩
    have hlen : pre.length + 1 ≤ 100000000 := by
      have := hzp.length_le; simp at this; omega
    have hx32 := hid (show x.length = 32 from hS32.out x (hzp.subset (by simp)))
    have c5 : W.cell? ⟨w.heap.size + 2 + 1, 0, none⟩ = some v := cell_of_one hB.out
    have hno := hid (show ∀ k, k < w.heap.size ∨ (k ≠ w.heap.size + 2 ∧ w.heap.size ≤ k ∧ k ≤ w1.heap.size + 2) → k ∉ v.ownBlock.toList from fun k h1 hm => by
      rw [Option.mem_toList] at hm; have h2 := (ow_ge hi.row hm); rcases hi.own k hm with e | e <;> omega)
    have HB := hid hB; have Hi := hid hi; have Hl := hid hlt; have Hp := hid hp
    have hszi := hid (show (Tryd.prog.info? 34).map (·.size) = some (e32 x).length by rw [e32_len]; exact ninfo32)
    have hbn := hid (fun W => show (Instr.buildSlice 46 1 #[(0, .agg (e32 x).toArray)]).run Tryd.prog W = .ok (.slice (some ⟨W.heap.size, 0, none⟩) 1 1) (W.alloc (.cells (e32 x).toArray 34)) by rw [e32_of hx32.out]; exact build_idN x hx32.out W)
    have hld := hid (show ∀ (j : Nat) u, (e32 x)[j]? = some u → W.cell? ((⟨p, 0, none⟩ : Addr).add j) = some u from fun j u hj => by
      have e : (⟨p, 0, none⟩ : Addr).add j = ⟨p, j, none⟩ := by unfold Addr.add; split <;> simp_all
      rw [e, cell_of_row W _ j _ _ _ hp]; simpa using hj)
    obtain ⟨wc, hwc⟩ : ∃ wc : World, wc = W.alloc (.cells (e32 x).toArray 34) := ⟨_, rfl⟩
    have hkc := hid (show Kept [] W wc from by rw [hwc]; exact (Kept.refl [] W).alloc _)
    have hnew := hid (show ∀ (j : Nat) u, (e32 x)[j]? = some u → wc.cell? ((⟨W.heap.size, 0, none⟩ : Addr).add j) = some u from by
      intro j u hj
      have e : (⟨W.heap.size, 0, none⟩ : Addr).add j = ⟨W.heap.size, j, none⟩ := by unfold Addr.add; split <;> simp_all
      rw [e, hwc, cell_of_row _ _ j _ _ _ (heap_alloc_at rfl)]; simpa using hj)
    have hrow := hid (hkc.out.owns hi.row (by simp))
    have hsc := hid hkc.out.size
    have hone := hid (show ∀ v ∈ e32 x, v.oneCell' = true by have := e32_one [x]; simpa using this)
    have HWC := hid hwc
    obtain ⟨q, hq⟩ : ∃ q, ((pre.length : Int) + 1 == (most : Int)) = q := ⟨_, rfl⟩
    have hQ := hid hq
    have hsw := hid (show w.heap.size ≤ W.heap.size from hi.kept.size)
    clear hB hi hft hzp hp hwc hlt
    gi_wp2_with (first | (refine wpListIn_load_cells rfl 34 (.tmp 6) rfl ⟨p, 0, none⟩ rfl (e32 x) _ Tryd.underlying34 rfl hszi.out hld.out ?_) | (refine wpListIn_buildSlice1 rfl _ _ _ rfl (.slice (some ⟨W.heap.size, 0, none⟩) 1 1) wc (by have h := hbn.out W; rw [← HWC.out] at h; unfold execOp; simp [Act.eval, Act.put, h]) ?_; refine halt ?_))
    refine Halt.mk ?_
    gi_wp2_with (gi_at_builtin; refine halt ?_)
    refine Halt.mk ?_
    refine wpListIn_append_k _ rfl _ _ _ rfl w.heap.size 34 i0 _ 32 32 Tryd.underlying46 hi0 hz0 hz1 hz2 (by rw [Value.cells]; rfl) (by decide) v pre.length _ rfl hrow.out (.slice (some ⟨W.heap.size, 0, none⟩) 1 1) 1 (e32 x) rfl (Or.inr ⟨_, _, rfl, hnew.out⟩) (by rw [e32_len]) hone.out (by unfold maxLen; omega) (by omega) (by have := hsw.out; have := hsc.out; omega) ?_
    intro v' w2 hown' hgrow hfr
    obtain ⟨a2, c2, rfl⟩ := owns_slice hown'
    have hkg := hid (show Kept v.ownBlock.toList W w2 from (hkc.out.wider (fun _ _ h => by simp at h)).trans (Kept.of_row hgrow))
    have hB2 := hid (HB.out.kept hkg.out ⟨hno.out _ (by omega), hno.out _ (by omega), hno.out _ (by omega)⟩)
    have hAI2 : BlI w w1.heap.size (.slice a2 (pre.length + 1) c2) (pre ++ [x]) w2 := by
      refine ⟨by simpa using hown', Hi.out.kept.trans' hkg.out (fun k hl hm => absurd hm (hno.out k (Or.inl hl))), fun g' hg => ?_⟩
      rcases hfr g' hg with e | e
      · exact Hi.out.own g' e
      · have := hsc.out; omega
    have HAI2 := hid hAI2
    have c4 : w2.cell? ⟨w.heap.size + 2 + 1, 0, none⟩ = some v := cell_of_one hB2.out.out
    have f4 : w2.frozen? ⟨w.heap.size + 2 + 1, 0, none⟩ = false := free_of_one hB2.out.out
    have c0 : w2.cell? ⟨w.heap.size, 0, none⟩ = some (.int .i64 (most : Int)) := cell_of_one hB2.out.most
    have r1 : w2.cell? ⟨w.heap.size + 1, 0, none⟩ = some (.slice none 0 0) := cell_of_one hB2.out.res
    have q1 : w2.frozen? ⟨w.heap.size + 1, 0, none⟩ = false := free_of_one hB2.out.res
    have hkeep2 : Keep (fun k => VNeed b pa k ∨ k = w1.heap.size ∨ k = w1.heap.size + 1 ∨ k = w1.heap.size + 2) W w2 := hkg.out.keep fun k _ hk => by
      rcases hk with h | h
      · have := hneed.out k h; exact hno.out k (by omega)
      · exact hno.out k (by omega)
    have HK2 := hid hkeep2
    clear hown' hgrow hfr hAI2 hkeep2
    cases q
    · gi_wp2
      have hk3 : Kept [w.heap.size + 3] w2 (w2.setCell ⟨w.heap.size + 2 + 1, 0, none⟩ (.slice a2 (pre.length + 1) c2)) := (Kept.refl _ _).setCell (p := ⟨w.heap.size + 3, 0, none⟩) (fun _ => by simp) _
      refine ⟨HK2.out.trans (hk3.keep fun k _ hk => ?_), ?_, _, ⟨hk3.at hB2.out.most (by simp), hk3.at hB2.out.res (by simp), one_setCell hB2.out.out⟩, HAI2.out.keep hk3 (fun k hk => by simp at hk; omega)⟩
      · rcases hk with h | h
        · have := hneed.out k h; simp; omega
        · simp; omega
      · have h1 := hQ.out; have h2 := Hl.out
        simp at h1
        simp; omega
    · gi_wp2
      have h1 := hQ.out
      simp at h1
      obtain ⟨w3, hw3⟩ : ∃ w3, w3 = w2.setCell ⟨w.heap.size + 2 + 1, 0, none⟩ (.slice a2 (pre.length + 1) c2) := ⟨_, rfl⟩
      have hk3 : Kept [w.heap.size + 3] w2 w3 := hw3 ▸ (Kept.refl _ _).setCell (p := ⟨w.heap.size + 3, 0, none⟩) (fun _ => by simp) _
      rw [← hw3]
      have hres := hk3.at hB2.out.res (by simp)
      have hk4 : Kept [w.heap.size + 1] w3 (w3.setCell ⟨w.heap.size + 1, 0, none⟩ (.slice a2 (pre.length + 1) c2)) := (Kept.refl _ w3).setCell (p := ⟨w.heap.size + 1, 0, none⟩) (fun _ => by simp) _
      refine ⟨(HK2.out.trans (hk3.keep fun k _ hk => ?_)).less (fun k _ hk => by rcases hk with h | h <;> simp [h]) |>.trans (hk4.keep fun k _ hk => ?_), by simp; omega, _, one_setCell hres, (HAI2.out.keep hk3 (fun k hk => by simp at hk; omega)).keep hk4 (fun k hk => by simp at hk; omega)⟩
      · rcases hk with h | h
        · have := hneed.out k h; simp; omega
        · simp; omega
      · rcases hk with h | h <;> (simp; omega)
  case fs => exact fun x A hf => hf
  case done =>
    rintro xs W rfl ⟨hlt, v, hB, hi⟩ hK
    have c5 : W.cell? ⟨w.heap.size + 2 + 1, 0, none⟩ = some v := cell_of_one hB.out
    have r1 : W.cell? ⟨w.heap.size + 1, 0, none⟩ = some (.slice none 0 0) := cell_of_one hB.res
    have q1 : W.frozen? ⟨w.heap.size + 1, 0, none⟩ = false := free_of_one hB.res
    obtain ⟨a9, c9, rfl⟩ := owns_slice hi.row
    have HB := hid hB; have Hi := hid hi; have Hlt := hid hlt
    clear hB hi hlt
    gi_wp2
    have hk4 : Kept [w.heap.size + 1] W (W.setCell ⟨w.heap.size + 1, 0, none⟩ (.slice a9 (idsK ks).length c9)) := (Kept.refl _ W).setCell (p := ⟨w.heap.size + 1, 0, none⟩) (fun _ => by simp) _
    have hK2 := hk4.at hK (by simp; omega)
    refine ⟨by simp, .inl ⟨_, _, rfl, run_takeDeferred hK2, ?_⟩⟩
    have e1 : (W.setCell ⟨w.heap.size + 1, 0, none⟩ (.slice a9 (idsK ks).length c9)).heap[w.heap.size + 1]? = some (.cells #[.slice a9 (idsK ks).length c9] 46 (0, 0)) := one_setCell HB.out.res
    obtain ⟨w5, hw5⟩ : ∃ w5, w5 = W.setCell ⟨w.heap.size + 1, 0, none⟩ (.slice a9 (idsK ks).length c9) := ⟨_, rfl⟩
    rw [← hw5] at hk4 e1 ⊢
    have hkd := kept_putObj w5 w1.heap.size (.deferred none)
    have e3 := cell_of_one (hkd.at e1 (by simp; omega))
    have hfin := (Hi.out.keep hk4 (fun k hk => by simp at hk; omega)).keep hkd (fun k hk => by simp at hk; omega)
    have htk : (idsK ks).take most = idsK ks := List.take_of_length_le (by have := Hlt.out; omega)
    rw [htk]
    refine ⟨.slice a9 (idsK ks).length c9, ?_, a9, c9, rfl, hfin.kept, hfin.row⟩
    simp [results, Tryd.f21, go_sem, e3]
  case stop =>
    rintro pre W hZp ⟨hlt, v, e1, hi⟩ hK
    obtain ⟨a9, c9, rfl⟩ := owns_slice hi.row
    have Hi := hid hi; have Hlt := hid hlt
    have htk := hid (show (idsK ks).take most = pre from by
      obtain ⟨r, hr⟩ := hZp
      rw [← hr, List.take_left' hlt])
    clear hi hZp hlt
    gi_wp2
    refine ⟨by simp, .inl ⟨_, _, rfl, run_takeDeferred hK, ?_⟩⟩
    have hkd := kept_putObj W w1.heap.size (.deferred none)
    have e3 := cell_of_one (hkd.at e1 (by simp; omega))
    have hfin := Hi.out.keep hkd (fun k hk => by simp at hk; omega)
    rw [htk.out]
    refine ⟨.slice a9 pre.length c9, ?_, a9, c9, rfl, hfin.kept, hfin.row⟩
    simp [results, Tryd.f21, go_sem, e3]
end Go.Proofs.YtfefpblneihmgaaDoor
