import Derived.Test.YtmkdjonlfkfnlaaDoorFA

/- coldstorelaw14.all: up to so many sums. -/
namespace Go.Proofs.YtmkdjonlfkfnlaaDoor
open Go.RowKit Go.Lib Go.Maps
attribute [local go_sem] Oper.semAt_some

theorem wpListIn_buildSlice1 {F : Fence} {n : Nat} {P : Program} {ops : Array Oper} {rest : List Oper} {o : Oper} {a : Act} {w : World} {Q : Exit → Act → World → Prop} (hgd : o.guard = none) (t k : Nat) (parts : Array (Nat × Operand)) (ho : o.op = .buildSlice t k parts) (v : Value) (w' : World)
    (hrun : (execOp a.eval o).run P w = .ok (.value v) w') (h : wpListIn F n P ops Q rest (a.put o.dst v) w') : wpListIn F n P ops Q (o :: rest) a w := by
  refine wpListIn_plain hgd fun K hK => ?_
  unfold Oper.wpIn
  constructor
  · simp [Oper.about, ho, resolve, Target.leads, Sem.run_pure]
  · rw [Oper.semAt_plain F _ _ (by rw [ho]; intro c hc; cases hc)]
    rw [hrun]
    exact hK _ _ h

/-- The call's own variables: s is the first block. -/
structure BlB (s : Nat) (v : Value) (most : Nat) (W : World) : Prop where
  most : W.heap[s]? = some (.cells #[.int .i64 (most : Int)] 3 (0, 0))
  res : W.heap[s + 1]? = some (.cells #[.slice none 0 0] 46 (0, 0))
  out : W.heap[s + 3]? = some (.cells #[v] 46 (0, 0))
theorem BlB.kept {S : List Nat} {s most : Nat} {v : Value} {W W' : World} (h : BlB s v most W) (hk : Kept S W W') (hS : s ∉ S ∧ s + 1 ∉ S ∧ s + 3 ∉ S) : BlB s v most W' :=
  ⟨hk.at h.most hS.1, hk.at h.res hS.2.1, hk.at h.out hS.2.2⟩
structure BlI (w : World) (D : Nat) (v : Value) (pre : List (List UInt8)) (W : World) : Prop where
  row : W.ownsRow w.heap.size 34 32 v pre.length (pre.flatMap e32)
  kept : Kept [] w W
  own : ∀ g, v.ownBlock = some g → g = w.heap.size + 2 ∨ D + 2 < g
theorem BlI.keep {S : List Nat} {w : World} {D : Nat} {v : Value} {pre : List (List UInt8)} {W W' : World} (h : BlI w D v pre W) (hk : Kept S W W') (hS : ∀ k ∈ S, k ≠ w.heap.size + 2 ∧ w.heap.size ≤ k ∧ k ≤ D + 2) : BlI w D v pre W' :=
  ⟨hk.owns h.row (fun g hg hm => by rcases h.own g hg with e | e <;> have := hS g hm <;> omega), h.kept.trans' hk (fun k hl hm => by have := hS k hm; omega), h.own⟩

def idsK (ks : List Kn) : List (List UInt8) := ks.map (·.id)
set_option maxRecDepth 100000 in
set_option maxHeartbeats 4000000 in
theorem ca_lall (D : Nat) (w : World) (U : List Nat) (cp : Nat) (lim : Int) (ks : List Kn) (h : Ca D w U cp lim ks) (hl0 : ks.length ≤ 1000000) (most : Nat) (hm1 : 1 ≤ most) (hm2 : most ≤ 2000000000) :
    Calls Tryd.prog 18 #[.pointer (some ⟨cp, 0, none⟩), .int .i64 (most : Int)] w fun e w' => ∃ a2 c2, e = .returned (.slice a2 ((idsK ks).take most).length c2) ∧ Kept [] w w' ∧ w'.ownsRow w.heap.size 34 32 (.slice a2 ((idsK ks).take most).length c2) ((idsK ks).take most).length (((idsK ks).take most).flatMap e32) := by
  have hl : (idsK ks).length ≤ 100000000 := by unfold idsK; simp; omega
  have h0 : ¬ ((most : Int) ≤ 0) := by omega
  have hzv := zero_id
  have hall := hid (fun (W : World) (k : Kept [] w W) => ca_all D W U cp lim ks (h.kept k (by simp)) hl0)
  clear h
  refine (callsIn_wide (n := 4)).1 ?_
  refine callsIn_of_wp_marks Tryd.func18 rfl trivial ?_ rfl
  simp only [Tryd.ntmps18, List.size_toArray, List.length_cons, List.length_nil, Nat.reduceAdd, Nat.reduceSub, Array.replicate_succ, Array.replicate_zero, List.push_toArray, List.append_toArray, List.nil_append, List.cons_append]
  gi_wp2_with (refine ⟨trivial, ?_⟩; gi_at_call 30; refine (callsIn_wide.2 (hall.out _ (((((Kept.refl [] w).alloc _).alloc _).alloc _).alloc _))).mono ?_; rintro e w1 ⟨b, pa, pc, rfl, k1, hb, hv, hx⟩)
  obtain ⟨W0, hW0⟩ : ∃ W0, W0 = ((((w.alloc (.cells #[.int .i64 (most : Int)] 3)).alloc (.cells #[.slice none 0 0] 46)).alloc (.cells #[] 34)).alloc (.cells #[.slice (some ⟨w.heap.size + 1 + 1, 0, none⟩) 0 0] 46)) := ⟨_, rfl⟩
  have k00 : Kept [] w W0 := hW0 ▸ (((((Kept.refl [] w).alloc _).alloc _).alloc _).alloc _)
  have hB0 : BlB w.heap.size (.slice (some ⟨w.heap.size + 2, 0, none⟩) 0 0) most W0 := by
    rw [hW0]
    refine ⟨?_, ?_, ?_⟩
    · exact heap_alloc_old (heap_alloc_old (heap_alloc_old (heap_alloc_at rfl)))
    · exact heap_alloc_old (heap_alloc_old (heap_alloc_at (by simp)))
    · exact heap_alloc_at (by simp)
  have hr0 : W0.heap[w.heap.size + 2]? = some (.cells #[] 34 (0, 0)) := by
    rw [hW0]; exact heap_alloc_old (heap_alloc_at (by simp))
  have hs0 : W0.heap.size = w.heap.size + 4 := by rw [hW0]; simp
  rw [← hW0] at k1 hb hx
  rw [show w.heap.size + 1 + 1 = w.heap.size + 2 by omega]
  clear hW0 hall
  rw [hs0] at hb hx
  have hk01 := hid (k00.trans k1)
  have hB1 := hid (hB0.kept k1 (by simp))
  have hr1 := hid (k1.at hr0 (by simp))
  have hS32 := hid hv.ids.h32
  have hblt := lt_of_block hv.box
  have hneed := hid (show ∀ k, VNeed b pa k → k < w1.heap.size ∧ w.heap.size + 4 ≤ k from by
    rintro k (rfl | ⟨x, h1, rfl⟩)
    · exact ⟨hblt, hb⟩
    · exact ⟨hv.lt x h1, (hx x h1).1⟩)
  have hw1 : w.heap.size + 4 ≤ w1.heap.size := by omega
  have HV := hid hv
  clear k1 hb hx hv k00 hB0 hr0 hs0
  obtain ⟨i0, hi0, hz0, hz1, hz2⟩ := info_parts id_zero
  refine range_v (β := Nat) rfl (by omega) (gf := 39) (lb := #[.pointer (some ⟨b, 0, none⟩)]) rfl trivial (enters_of Tryd.func39 (by kernel_rfl) rfl)
    (vals_seq (4 - 1) (by omega) b pa pc (idsK ks) w1 HV.out hl) (fun k hk => (hneed.out k hk).1) (fun _ => rfl) (fun x A B hf hk => by unfold VFt at hf ⊢; have := hk.size; omega)
    (fun pre W => pre.length < most ∧ ∃ v, BlB w.heap.size v most W ∧ BlI w w1.heap.size v pre W)
    (fun pre W => pre.length = most ∧ ∃ v, W.heap[w.heap.size + 1]? = some (.cells #[v] 46 (0, 0)) ∧ BlI w w1.heap.size v pre W) ?hI ?hIx ?h0
    (fun x p => { tmps := #[.pointer (some ⟨cp, 0, none⟩), .int .i64 (most : Int), undef, .pointer (some ⟨w.heap.size, 0, none⟩), .pointer (some ⟨w.heap.size + 1, 0, none⟩), .pointer (some ⟨w.heap.size + 2 + 1, 0, none⟩), .pointer (some ⟨p, 0, none⟩), .slice (some ⟨w.heap.size + 2, 0, none⟩) 0 0, .int .i64 (most : Int), .bool false, undef, .pointer (some ⟨cp, 0, none⟩), .func (.func 39) #[] #[.pointer (some ⟨b, 0, none⟩)], .agg (e32 x).toArray, undef, undef, undef, undef, undef, undef, undef, undef, undef, undef], defers := [] })
    (fun x p W => W.heap[p]? = some (.cells (e32 x).toArray 34 (0, 0)) ∧ w1.heap.size + 2 < p) (fun x p A B ⟨h1, h2⟩ hk => ⟨hk.at h1 (by simp; omega), h2⟩) ?assign ?body ?fs ?done ?stop
  case hI =>
    rintro s A B ⟨hlt, v, hb, hi⟩ hkk
    exact ⟨hlt, v, hb.kept hkk (by simp; omega), hi.keep hkk (fun k hk => by simp at hk; omega)⟩
  case hIx =>
    rintro s A B ⟨hlt, v, hb1, hi⟩ hkk
    exact ⟨hlt, v, hkk.at hb1 (by simp; omega), hi.keep hkk (fun k hk => by simp at hk; omega)⟩
  case h0 =>
    refine ⟨by show 0 < most; omega, _, hB1.out, ⟨⟨by simp, Or.inr ⟨w.heap.size + 2, 0, #[], rfl, by omega, hr1.out, by simp, by unfold maxLen; omega, by simp, by simp⟩⟩, hk01.out, fun g hg => ?_⟩⟩
    simp [Value.ownBlock] at hg; omega
  case assign =>
    intro l x W K hsz hK
    have hszi := hid (show (Tryd.prog.info? 34).map (·.size) = some (e32 x).length by rw [e32_len]; exact ninfo32)
    have hone := hid (show ∀ v ∈ e32 x, v.oneCell' = true by have := e32_one [x]; simpa using this)
    have hspl := hid (splice36 (zid.map B) (e32 x) (by rw [e32_len]; simp [zid]))
    have hfit := hid (show 0 + (e32 x).length ≤ (zid.map B).length by rw [e32_len]; simp [zid])
    have HK := hid hK
    clear hK
    dsimp only [vvals]
    gi_wp2_with (refine wpListIn_store_at rfl 34 (.tmp 6) (.tmp 13) rfl W.heap.size 0 (e32 x) rfl rfl 34 (zid.map B) (heap_alloc_at rfl) hszi.out hfit.out hone.out ?_; refine halt ?_)
    rw [hspl.out]
    refine Halt.mk ?_
    gi_wp2
    refine HK.out W.heap.size _ (((Kept.refl [] W).alloc _).setRow (fun h => absurd h (Nat.lt_irrefl _)) _) ⟨setRow_heap _ _ _ _ _ _ (heap_alloc_at rfl), hsz⟩
  case body =>
    rintro l pre x p W ⟨hlt, v, hB, hi⟩ hft hzp hsz ⟨hp, hpg⟩
    have hlen : pre.length + 1 ≤ 100000000 := by
      have := hzp.length_le; simp at this; omega
    have hx32 := hid (show x.length = 32 from hS32.out x (hzp.subset (by simp)))
    have c5 : W.cell? ⟨w.heap.size + 2 + 1, 0, none⟩ = some v := cell_of_one hB.out
    have hno := hid (show ∀ k, k < w.heap.size ∨ (k ≠ w.heap.size + 2 ∧ w.heap.size ≤ k ∧ k ≤ w1.heap.size + 2) → k ∉ v.ownBlock.toList from fun k h1 hm => by
      rw [Option.mem_toList] at hm; have h2 := (ow_ge hi.row hm); rcases hi.own k hm with e | e <;> omega)
    have HB := hid hB; have Hi := hid hi; have Hl := hid hlt; have Hp := hid hp
    have hszi := hid (show (Tryd.prog.info? 34).map (·.size) = some (e32 x).length by rw [e32_len]; exact ninfo32)
    have hbn := hid (fun W => show (Instr.buildSlice 46 1 #[(0, .agg (e32 x).toArray)]).run Tryd.prog W = .ok (.slice (some ⟨W.heap.size, 0, none⟩) 1 1) (W.alloc (.cells (e32 x).toArray 34)) by rw [e32_of hx32.out]; exact build_idN x hx32.out W)
    have hld := hid (show ∀ (j : Nat) u, (e32 x)[j]? = some u → W.cell? ((⟨p, 0, none⟩ : Addr).add j) = some u from fun j u hj => by
      have e : (⟨p, 0, none⟩ : Addr).add j = ⟨p, j, none⟩ := by unfold Addr.add; split <;> simp_all
      rw [e, cell_of_row W _ j _ _ _ hp]; simpa using hj)
    obtain ⟨wc, hwc⟩ : ∃ wc : World, wc = W.alloc (.cells (e32 x).toArray 34) := ⟨_, rfl⟩
    have hkc := hid (show Kept [] W wc from by rw [hwc]; exact (Kept.refl [] W).alloc _)
    have hnew := hid (show ∀ (j : Nat) u, (e32 x)[j]? = some u → wc.cell? ((⟨W.heap.size, 0, none⟩ : Addr).add j) = some u from by
      intro j u hj
      have e : (⟨W.heap.size, 0, none⟩ : Addr).add j = ⟨W.heap.size, j, none⟩ := by unfold Addr.add; split <;> simp_all
      rw [e, hwc, cell_of_row _ _ j _ _ _ (heap_alloc_at rfl)]; simpa using hj)
    have hrow := hid (hkc.out.owns hi.row (by simp))
    have hsc := hid hkc.out.size
    have hone := hid (show ∀ v ∈ e32 x, v.oneCell' = true by have := e32_one [x]; simpa using this)
    have HWC := hid hwc
    obtain ⟨q, hq⟩ : ∃ q, ((pre.length : Int) + 1 == (most : Int)) = q := ⟨_, rfl⟩
    have hQ := hid hq
    have hsw := hid (show w.heap.size ≤ W.heap.size from hi.kept.size)
    clear hB hi hft hzp hp hwc hlt
    gi_wp2_with (first | (refine wpListIn_load_cells rfl 34 (.tmp 6) rfl ⟨p, 0, none⟩ rfl (e32 x) _ Tryd.underlying34 rfl hszi.out hld.out ?_) | (refine wpListIn_buildSlice1 rfl _ _ _ rfl (.slice (some ⟨W.heap.size, 0, none⟩) 1 1) wc (by have h := hbn.out W; rw [← HWC.out] at h; unfold execOp; simp [Act.eval, Act.put, h]) ?_; refine halt ?_))
    refine Halt.mk ?_
    gi_wp2_with (gi_at_builtin; refine halt ?_)
    refine Halt.mk ?_
    refine wpListIn_append_k _ rfl _ _ _ rfl w.heap.size 34 i0 _ 32 32 Tryd.underlying46 hi0 hz0 hz1 hz2 (by rw [Value.cells]; rfl) (by decide) v pre.length _ rfl hrow.out (.slice (some ⟨W.heap.size, 0, none⟩) 1 1) 1 (e32 x) rfl (Or.inr ⟨_, _, rfl, hnew.out⟩) (by rw [e32_len]) hone.out (by unfold maxLen; omega) (by omega) (by have := hsw.out; have := hsc.out; omega) ?_
    intro v' w2 hown' hgrow hfr
    obtain ⟨a2, c2, rfl⟩ := owns_slice hown'
    have hkg := hid (show Kept v.ownBlock.toList W w2 from (hkc.out.wider (fun _ _ h => by simp at h)).trans (Kept.of_row hgrow))
    have hB2 := hid (HB.out.kept hkg.out ⟨hno.out _ (by omega), hno.out _ (by omega), hno.out _ (by omega)⟩)
    have hAI2 : BlI w w1.heap.size (.slice a2 (pre.length + 1) c2) (pre ++ [x]) w2 := by
      refine ⟨by simpa using hown', Hi.out.kept.trans' hkg.out (fun k hl hm => absurd hm (hno.out k (Or.inl hl))), fun g' hg => ?_⟩
      rcases hfr g' hg with e | e
      · exact Hi.out.own g' e
      · have := hsc.out; omega
    have HAI2 := hid hAI2
    have c4 : w2.cell? ⟨w.heap.size + 2 + 1, 0, none⟩ = some v := cell_of_one hB2.out.out
    have f4 : w2.frozen? ⟨w.heap.size + 2 + 1, 0, none⟩ = false := free_of_one hB2.out.out
    have c0 : w2.cell? ⟨w.heap.size, 0, none⟩ = some (.int .i64 (most : Int)) := cell_of_one hB2.out.most
    have r1 : w2.cell? ⟨w.heap.size + 1, 0, none⟩ = some (.slice none 0 0) := cell_of_one hB2.out.res
    have q1 : w2.frozen? ⟨w.heap.size + 1, 0, none⟩ = false := free_of_one hB2.out.res
    have hkeep2 : Keep (fun k => VNeed b pa k ∨ k = w1.heap.size ∨ k = w1.heap.size + 1 ∨ k = w1.heap.size + 2) W w2 := hkg.out.keep fun k _ hk => by
      rcases hk with h | h
      · have := hneed.out k h; exact hno.out k (by omega)
      · exact hno.out k (by omega)
    have HK2 := hid hkeep2
    clear hown' hgrow hfr hAI2 hkeep2
    cases q
    · gi_wp2
      have hk3 : Kept [w.heap.size + 3] w2 (w2.setCell ⟨w.heap.size + 2 + 1, 0, none⟩ (.slice a2 (pre.length + 1) c2)) := (Kept.refl _ _).setCell (p := ⟨w.heap.size + 3, 0, none⟩) (fun _ => by simp) _
      refine ⟨HK2.out.trans (hk3.keep fun k _ hk => ?_), ?_, _, ⟨hk3.at hB2.out.most (by simp), hk3.at hB2.out.res (by simp), one_setCell hB2.out.out⟩, HAI2.out.keep hk3 (fun k hk => by simp at hk; omega)⟩
      · rcases hk with h | h
        · have := hneed.out k h; simp; omega
        · simp; omega
      · have h1 := hQ.out; have h2 := Hl.out
        simp at h1
        simp; omega
    · gi_wp2
      have h1 := hQ.out
      simp at h1
      obtain ⟨w3, hw3⟩ : ∃ w3, w3 = w2.setCell ⟨w.heap.size + 2 + 1, 0, none⟩ (.slice a2 (pre.length + 1) c2) := ⟨_, rfl⟩
      have hk3 : Kept [w.heap.size + 3] w2 w3 := hw3 ▸ (Kept.refl _ _).setCell (p := ⟨w.heap.size + 3, 0, none⟩) (fun _ => by simp) _
      rw [← hw3]
      have hres := hk3.at hB2.out.res (by simp)
      have hk4 : Kept [w.heap.size + 1] w3 (w3.setCell ⟨w.heap.size + 1, 0, none⟩ (.slice a2 (pre.length + 1) c2)) := (Kept.refl _ w3).setCell (p := ⟨w.heap.size + 1, 0, none⟩) (fun _ => by simp) _
      refine ⟨(HK2.out.trans (hk3.keep fun k _ hk => ?_)).less (fun k _ hk => by rcases hk with h | h <;> simp [h]) |>.trans (hk4.keep fun k _ hk => ?_), by simp; omega, _, one_setCell hres, (HAI2.out.keep hk3 (fun k hk => by simp at hk; omega)).keep hk4 (fun k hk => by simp at hk; omega)⟩
      · rcases hk with h | h
        · have := hneed.out k h; simp; omega
        · simp; omega
      · rcases hk with h | h <;> (simp; omega)
  case fs => exact fun x A hf => hf
  case done =>
    rintro xs W rfl ⟨hlt, v, hB, hi⟩ hK
    have c5 : W.cell? ⟨w.heap.size + 2 + 1, 0, none⟩ = some v := cell_of_one hB.out
    have r1 : W.cell? ⟨w.heap.size + 1, 0, none⟩ = some (.slice none 0 0) := cell_of_one hB.res
    have q1 : W.frozen? ⟨w.heap.size + 1, 0, none⟩ = false := free_of_one hB.res
    obtain ⟨a9, c9, rfl⟩ := owns_slice hi.row
    have HB := hid hB; have Hi := hid hi; have Hlt := hid hlt
    clear hB hi hlt
    gi_wp2
    have hk4 : Kept [w.heap.size + 1] W (W.setCell ⟨w.heap.size + 1, 0, none⟩ (.slice a9 (idsK ks).length c9)) := (Kept.refl _ W).setCell (p := ⟨w.heap.size + 1, 0, none⟩) (fun _ => by simp) _
    have hK2 := hk4.at hK (by simp; omega)
    refine ⟨by simp, .inl ⟨_, _, rfl, run_takeDeferred hK2, ?_⟩⟩
    have e1 : (W.setCell ⟨w.heap.size + 1, 0, none⟩ (.slice a9 (idsK ks).length c9)).heap[w.heap.size + 1]? = some (.cells #[.slice a9 (idsK ks).length c9] 46 (0, 0)) := one_setCell HB.out.res
    obtain ⟨w5, hw5⟩ : ∃ w5, w5 = W.setCell ⟨w.heap.size + 1, 0, none⟩ (.slice a9 (idsK ks).length c9) := ⟨_, rfl⟩
    rw [← hw5] at hk4 e1 ⊢
    have hkd := kept_putObj w5 w1.heap.size (.deferred none)
    have e3 := cell_of_one (hkd.at e1 (by simp; omega))
    have hfin := (Hi.out.keep hk4 (fun k hk => by simp at hk; omega)).keep hkd (fun k hk => by simp at hk; omega)
    have htk : (idsK ks).take most = idsK ks := List.take_of_length_le (by have := Hlt.out; omega)
    rw [htk]
    refine ⟨.slice a9 (idsK ks).length c9, ?_, a9, c9, rfl, hfin.kept, hfin.row⟩
    simp [results, Tryd.f18, go_sem, e3]
  case stop =>
    rintro pre W hZp ⟨hlt, v, e1, hi⟩ hK
    obtain ⟨a9, c9, rfl⟩ := owns_slice hi.row
    have Hi := hid hi; have Hlt := hid hlt
    have htk := hid (show (idsK ks).take most = pre from by
      obtain ⟨r, hr⟩ := hZp
      rw [← hr, List.take_left' hlt])
    clear hi hZp hlt
    gi_wp2
    refine ⟨by simp, .inl ⟨_, _, rfl, run_takeDeferred hK, ?_⟩⟩
    have hkd := kept_putObj W w1.heap.size (.deferred none)
    have e3 := cell_of_one (hkd.at e1 (by simp; omega))
    have hfin := Hi.out.keep hkd (fun k hk => by simp at hk; omega)
    rw [htk.out]
    refine ⟨.slice a9 pre.length c9, ?_, a9, c9, rfl, hfin.kept, hfin.row⟩
    simp [results, Tryd.f18, go_sem, e3]
end Go.Proofs.YtmkdjonlfkfnlaaDoor


/- cache: Spoil. -/
namespace Go.Proofs.YtmkdjonlfkfnlaaDoor
open Go.RowKit Go.Lib Go.Maps
def flipB (bs : List UInt8) (at_ : Nat) : List UInt8 := bs.set (at_ / 8) (bs.getD (at_ / 8) 0 ^^^ UInt8.ofNat (2 ^ (at_ % 8)))
def bitAt (bit : Int) (bs : List UInt8) : Nat := (bit % ((8 * bs.length : Nat) : Int)).toNat
def spoilL (id : List UInt8) (bit : Int) (l : List (List UInt8 × List UInt8)) : Option (List (List UInt8 × List UInt8)) := match findD id l with
  | some bs => if bs = [] then none else some (l.map fun e => if e.1 = id then (e.1, flipB e.2 (bitAt bit bs)) else e)
  | none => none
theorem sh_u8 (r : Nat) (h : r < 8) : ∃ m : UInt8, m = UInt8.ofNat (2 ^ r) ∧ ∀ w : World, (Op.shift .shl .u8 1 .i64 (r : Int)).run Tryd.prog w = .ok (.int .u8 (m.toNat : Int)) w :=
  match r, h with
  | 0, _ => ⟨1, rfl, fun _ => by kernel_rfl⟩
  | 1, _ => ⟨2, rfl, fun _ => by kernel_rfl⟩
  | 2, _ => ⟨4, rfl, fun _ => by kernel_rfl⟩
  | 3, _ => ⟨8, rfl, fun _ => by kernel_rfl⟩
  | 4, _ => ⟨16, rfl, fun _ => by kernel_rfl⟩
  | 5, _ => ⟨32, rfl, fun _ => by kernel_rfl⟩
  | 6, _ => ⟨64, rfl, fun _ => by kernel_rfl⟩
  | 7, _ => ⟨128, rfl, fun _ => by kernel_rfl⟩
theorem po_8 (r : Nat) (h : r < 8) : (2 : Int) ^ min r 8 % 256 = ((UInt8.ofNat (2 ^ r)).toNat : Int) := by
  have : ∀ k : Fin 8, (2 : Int) ^ min k.val 8 % 256 = ((UInt8.ofNat (2 ^ k.val)).toNat : Int) := by decide
  exact this ⟨r, h⟩
theorem xo_8 (a b : UInt8) : bits .xor .u8 (a.toNat : Int) (b.toNat : Int) = (((a ^^^ b).toNat : Nat) : Int) := by
  have ha := a.toNat_lt
  have hb := b.toNat_lt
  have key : (BitVec.ofInt 8 (a.toNat : Int) ^^^ BitVec.ofInt 8 (b.toNat : Int)).toNat = a.toNat ^^^ b.toNat := by
    rw [BitVec.toNat_xor, BitVec.toNat_ofInt, BitVec.toNat_ofInt]
    have h1 : ((a.toNat : Int) % ((2 ^ 8 : Nat) : Int)).toNat = a.toNat := by omega
    have h2 : ((b.toNat : Int) % ((2 ^ 8 : Nat) : Int)).toNat = b.toNat := by omega
    rw [h1, h2]
  have hx : a.toNat ^^^ b.toNat < 2 ^ 8 := Nat.xor_lt_two_pow (by omega) (by omega)
  show IntKind.u8.wrap ((BitVec.ofInt 8 (a.toNat : Int) ^^^ BitVec.ofInt 8 (b.toNat : Int)).toNat : Nat) = _
  rw [key, UInt8.toNat_xor, IntKind.wrap_u8]
  omega
theorem rem_twice (bit : Int) (N : Int) (h : 0 < N) : (bit.tmod N + N).tmod N = bit % N := by
  have h0 : -N < bit.tmod N := Int.lt_tmod_of_pos bit h
  rw [Int.tmod_eq_emod_of_nonneg (by omega), Int.add_emod_right, Int.tmod_eq_emod]
  split
  · simp
  · have : (N.natAbs : Int) = N := Int.natAbs_of_nonneg (by omega)
    rw [this, Int.sub_emod, Int.emod_self, Int.sub_zero, Int.emod_emod, Int.emod_emod]

theorem own_sb {w : World} {base g n c : Nat} {xs : List UInt8} (h : w.ownsRow base 5 1 (.slice (some ⟨g, 0, none⟩) n c) n (xs.map B)) (i : Nat) (b : UInt8) :
    (w.setCell ⟨g, i, none⟩ (B b)).ownsRow base 5 1 (.slice (some ⟨g, 0, none⟩) n c) n ((xs.set i b).map B) := by
  have := (h.stored i (B b)).1
  rwa [← List.map_set] at this
theorem Lk.turn {w : World} {pv nx : Option Nat} {n : Kn} {bs : List UInt8} (A C : List Kn) (h : Lk w pv (A ++ n :: C) nx) : Lk w pv (A ++ { n with bs := bs } :: C) nx := by
  obtain ⟨h1, h2, h3⟩ := Lk.app.1 h
  exact Lk.app.2 ⟨h1, h2, h3⟩
/-- A blob's bytes are turned in place. -/
theorem ca_turn {D : Nat} {w w' : World} {U : List Nat} {p : Nat} {lim : Int} {A C : List Kn} {n : Kn} {bs : List UInt8} {g : Nat} (h : Ca D w U p lim (A ++ n :: C)) (hk : Kept [g] w w') (hg : n.v.ownBlock = some g) (hl : bs.length = n.bs.length)
    (hr : w'.ownsRow D 5 1 n.v bs.length (bs.map B)) : Ca D w' U p lim (A ++ { n with bs := bs } :: C) := by
  obtain ⟨⟨mv, h1, h2, h3⟩, h4, h5, h6, h7, h8, h9, h10⟩ := h
  obtain ⟨cur, hc⟩ := ow_type (h5 n (by simp)).1 hg
  have hgp : p ≠ g := fun e => by
    have h1' := h1
    unfold CaAt at h1'
    rw [e, hc] at h1'
    simp at h1'
  have hgn : ∀ y ∈ A ++ n :: C, y.b ≠ g := fun y hy e => by
    obtain ⟨a, b, h11⟩ := h4.mem hy
    have h12 := h11.2
    rw [e, hc] at h12
    simp at h12
  have hgm : ∀ b, mv = .map (some b) → b ≠ g := fun b hb e => by
    subst hb
    rcases h2 with ⟨h2, _⟩ | ⟨b', hb', _, _, Dm, ho, _⟩
    · cases h2
    · cases hb'
      obtain ⟨es, clock, hm, _⟩ := ho
      rw [e, hc] at hm
      simp at hm
  have hsz : sizeK (A ++ { n with bs := bs } :: C) = sizeK (A ++ n :: C) := by rw [sizeK_mid, sizeK_mid, hl]
  have hf : fstP (A ++ { n with bs := bs } :: C) none = fstP (A ++ n :: C) none := by rw [fst_app, fst_app]; rfl
  have hls : lstP none (A ++ { n with bs := bs } :: C) = lstP none (A ++ n :: C) := by rw [lst_app, lst_app]; rfl
  have hpk : pairK (A ++ { n with bs := bs } :: C) = pairK (A ++ n :: C) := by unfold pairK; simp
  have hoth : ∀ m ∈ A ++ C, ∀ x, m.v.ownBlock = some x → x ≠ g := fun m hm x hx e => by
    rw [List.pairwise_append, List.pairwise_cons] at h6
    subst e
    rcases List.mem_append.1 hm with hm | hm
    · exact h6.2.2 m hm n (by simp) x hx hg
    · exact h6.2.1.1 m hm x hg hx
  have hap : (A ++ { n with bs := bs } :: C).Pairwise (fun a b => ∀ g, a.v.ownBlock = some g → b.v.ownBlock ≠ some g) := by
    rw [List.pairwise_append, List.pairwise_cons] at h6 ⊢
    refine ⟨h6.1, ⟨h6.2.1.1, h6.2.1.2⟩, fun a ha b hb => ?_⟩
    rcases List.mem_cons.1 hb with rfl | hb
    · exact h6.2.2 a ha n (by simp)
    · exact h6.2.2 a ha b (by simp [hb])
  refine ⟨⟨mv, by rw [hsz, hf, hls]; exact hk.at h1 (by simpa using hgp), by rw [hpk]; exact h2.kept hk (fun b hb => by simpa using hgm b hb), h3⟩, (h4.kept hk (fun y hy => by simpa using hgn y hy)).turn, fun m hm => ?_, hap, h7, fun y hy => ?_, fun x hx => ⟨(h9 x hx).1, Nat.lt_of_lt_of_le (h9 x hx).2 hk.size⟩, h10⟩
  · rcases List.mem_append.1 hm with hm | hm
    · exact ⟨hk.owns (h5 m (by simp [hm])).1 (fun x hx hm2 => hoth m (by simp [hm]) x hx (by simpa using hm2)), (h5 m (by simp [hm])).2⟩
    · rcases List.mem_cons.1 hm with rfl | hm
      · exact ⟨hr, (h5 n (by simp)).2⟩
      · exact ⟨hk.owns (h5 m (by simp [hm])).1 (fun x hx hm2 => hoth m (by simp [hm]) x hx (by simpa using hm2)), (h5 m (by simp [hm])).2⟩
  · rcases List.mem_append.1 hy with hy | hy
    · exact h8 y (by simp [hy])
    · rcases List.mem_cons.1 hy with rfl | hy
      · exact h8 n (by simp)
      · exact h8 y (by simp [hy])
set_option maxRecDepth 100000 in
set_option maxHeartbeats 8000000 in
theorem ca_spoil_some (D : Nat) (w : World) (U : List Nat) (p : Nat) (lim : Int) (A : List Kn) (n : Kn) (C : List Kn) (h : Ca D w U p lim (A ++ n :: C)) (hz : sizeK (A ++ n :: C) ≤ 100000000) (hne : n.bs ≠ []) (bit : Int) (hb1 : -9223372036854775808 ≤ bit) (hb2 : bit ≤ 9223372036854775807) :
    Calls Tryd.prog 15 #[.pointer (some ⟨p, 0, none⟩), .agg (n.id.map B).toArray, .int .i64 bit] w fun e w' => e = .returned (.bool true) ∧ Kept U w w' ∧ Ca D w' U p lim (A ++ { n with bs := flipB n.bs (bitAt bit n.bs) } :: C) := by
  have hids := h.ids
  have HC := hid h
  obtain ⟨⟨mv, h1, h2, h3⟩, h4, h5, h6, h7, h8, h9, h10⟩ := h
  have hln := (Lk.app.1 h4).2.1
  have h32 := hln.1
  obtain ⟨W, hW⟩ : ∃ W, W = w.alloc (.cells (n.id.map B).toArray 34) := ⟨_, rfl⟩
  have hk := hid (show Kept [] w W from hW ▸ (Kept.refl [] w).alloc _)
  have hb := hid (show W.heap[w.heap.size]? = some (.cells (n.id.map B).toArray 34 (0, 0)) from hW ▸ heap_alloc_at rfl)
  have HW := hid hW
  have hmv := hid (fun v (hv : Kept [] W v) => (ca_cells (show CaAt v p lim (sizeK (A ++ n :: C)) mv (fstP (A ++ n :: C) none) (lstP none (A ++ n :: C)) from (hk.out.trans hv).at h1 (by simp))).2.2.1)
  have hld := hid (fun v (hv : Kept [] W v) => ld_idB v w.heap.size n.id h32 (hv.at hb.out (by simp)))
  have hlk := hid (fun v (hv : Kept [] W v) => (show (Instr.lookup 56 mv (.agg (n.id.map B).toArray) true).run Tryd.prog v = .ok (.tuple #[.pointer (some ⟨n.b, 0, none⟩), .bool true]) v from by
    have := im_look (h2.kept (hk.out.trans hv) (fun b _ => by simp)) n.id h32
    rw [find_here hids] at this
    exact this))
  have hrow := (h5 n (by simp)).1
  have hnl : n.bs.length ≤ 100000000 := by have h1 := sizeK_mid A C n; omega
  have hn0 : 0 < n.bs.length := List.length_pos_iff.2 hne
  obtain ⟨g, vc, hv0⟩ : ∃ g c, n.v = .slice (some ⟨g, 0, none⟩) n.bs.length c := by
    rcases hrow.2 with ⟨_, h0⟩ | ⟨g, cap, cur, hv, _⟩
    · omega
    · exact ⟨g, cap, hv⟩
  have HV := hid hv0
  obtain ⟨k, hkl⟩ : ∃ k, k = n.bs.length := ⟨_, rfl⟩
  have HKL := hid hkl
  obtain ⟨u, hu⟩ : ∃ u, u = bitAt bit n.bs := ⟨_, rfl⟩
  have hul : u < 8 * k ∧ (u : Int) = bit % ((8 * k : Nat) : Int) := by
    have e1 : (0 : Int) ≤ bit % ((8 * n.bs.length : Nat) : Int) := Int.emod_nonneg _ (by omega)
    have e2 : bit % ((8 * n.bs.length : Nat) : Int) < ((8 * n.bs.length : Nat) : Int) := Int.emod_lt_of_pos _ (by omega)
    unfold bitAt at hu
    rw [hkl]
    omega
  have HU := hid hu
  obtain ⟨d, hd⟩ : ∃ d : Nat, d = 8 * k := ⟨_, rfl⟩
  have w1 : IntKind.i64.wrap (8 * (k : Int)) = (d : Int) := by rw [IntKind.wrap_i64]; omega
  have hd0 : ((d : Int) == 0) = false := by simp; omega
  have hd1 : ¬ (d : Int) = 0 := by omega
  have hr1 : -(d : Int) < bit.tmod (d : Int) := Int.lt_tmod_of_pos bit (by omega)
  have hr2 : bit.tmod (d : Int) < (d : Int) := Int.tmod_lt_of_pos bit (by omega)
  obtain ⟨r, hr⟩ : ∃ r : Int, r = bit.tmod (d : Int) := ⟨_, rfl⟩
  have w2 : IntKind.i64.wrap (bit.tmod (d : Int)) = r := by rw [← hr, IntKind.wrap_i64]; omega
  obtain ⟨rd, hrd⟩ : ∃ rd : Int, rd = r + (d : Int) := ⟨_, rfl⟩
  have w3 : IntKind.i64.wrap (r + (d : Int)) = rd := by rw [hrd, IntKind.wrap_i64]; omega
  have w4 : rd.tmod (d : Int) = (u : Int) := by rw [hrd, hr, rem_twice bit _ (by omega), hul.2, hd]
  have w5 : IntKind.i64.wrap (u : Int) = (u : Int) := by rw [IntKind.wrap_i64]; omega
  have hr' := hr.symm
  obtain ⟨iv, hiv⟩ : ∃ iv, iv = (n.id.map B).toArray := ⟨_, rfl⟩
  have hcd := hid (fun V (hV : Kept [] w V) => (show V.cell? ⟨n.b, 32, none⟩ = some (.slice (some ⟨g, 0, none⟩) k vc) from by
    have h1 := (kn_cells h32 (hV.at hln.2 (by simp))).1
    rw [hv0, ← hkl] at h1
    exact h1))
  rw [← hiv] at hld hlk HW ⊢
  have HNL := hid hnl
  have HUL := hid hul; have HD := hid hd; have HROW := hid hrow
  have hk0 : ((k : Int) == 0) = false := by simp; omega
  clear h1 h2 h3 h4 h5 h6 h7 h8 h9 h10 hW hiv hb hids hln hrow hnl hn0 hv0 hkl hu hul hd hr1 hr2 hr hrd
  go_enter Tryd.func15, Tryd.ntmps15
  go_wp2_with fail
  rw [← HW.out]
  have hH0 : Kept [] W W.drew := (Kept.refl [] W).drew
  refine wp_region_held_drew (S := fun v => Kept [] W v) (by kernel_rfl) hH0 (fun hH => ?_)
  refine takeH 0 (.pointer (some ⟨p, 0, none⟩)) rfl (by kernel_rfl) (by kernel_rfl) (by kernel_rfl) (fun _ _ _ h => h) (by rfl) (fun v hv => by go_simp) hH ?_
  simp only [Act.put, List.setIfInBounds_toArray, List.set_cons_succ, List.set_cons_zero]
  refine takeH 1 (.pointer (some ⟨p, 0, none⟩)) rfl (by kernel_rfl) (by kernel_rfl) (by kernel_rfl) (fun _ _ _ h => h) (by rfl) (fun v hv => by go_simp) hH ?_
  simp only [Act.put, List.setIfInBounds_toArray, List.set_cons_succ, List.set_cons_zero]
  refine takeH 2 (.pointer (some ⟨p, 2, none⟩)) rfl (by kernel_rfl) (by kernel_rfl) (by kernel_rfl) (fun _ _ _ h => h) (by rfl) (fun v hv => by go_simp) hH ?_
  simp only [Act.put, List.setIfInBounds_toArray, List.set_cons_succ, List.set_cons_zero]
  refine takeH 3 (mv) rfl (by kernel_rfl) (by kernel_rfl) (by kernel_rfl) (fun _ _ _ h => h) (by rfl) (fun v hv => by have h := hmv.out v hv; go_simp) hH ?_
  simp only [Act.put, List.setIfInBounds_toArray, List.set_cons_succ, List.set_cons_zero]
  refine takeH 4 (.agg iv) rfl (by kernel_rfl) (by kernel_rfl) (by kernel_rfl) (fun _ _ _ h => h) (by rfl) (fun v hv => by have h := hld.out v hv; unfold execOp; simp [Instr.loadAt, Instr.sureAddr, Sem.run_bind, Sem.run_pure, Result.andThen_ok, Act.eval, h]) hH ?_
  simp only [Act.put, List.setIfInBounds_toArray, List.set_cons_succ, List.set_cons_zero]
  refine takeH 5 (.tuple #[.pointer (some ⟨n.b, 0, none⟩), .bool true]) rfl (by kernel_rfl) (by kernel_rfl) (by kernel_rfl) (fun _ _ _ h => h) (by rfl) (fun v hv => by have h := hlk.out v hv; unfold execOp; simp [Act.eval, Sem.run_bind, Sem.run_pure, Result.andThen_ok, h]) hH ?_
  simp only [Act.put, List.setIfInBounds_toArray, List.set_cons_succ, List.set_cons_zero]
  refine takeH 6 (.tuple #[.pointer (some ⟨n.b, 0, none⟩), .bool true]) rfl (by kernel_rfl) (by kernel_rfl) (by kernel_rfl) (fun _ _ _ h => h) (by rfl) (fun v hv => by go_simp) hH ?_
  simp only [Act.put, List.setIfInBounds_toArray, List.set_cons_succ, List.set_cons_zero]
  refine takeH 7 (.pointer (some ⟨n.b, 0, none⟩)) rfl (by kernel_rfl) (by kernel_rfl) (by kernel_rfl) (fun _ _ _ h => h) (by rfl) (fun v hv => by go_simp) hH ?_
  simp only [Act.put, List.setIfInBounds_toArray, List.set_cons_succ, List.set_cons_zero]
  refine takeH 8 (.bool true) rfl (by kernel_rfl) (by kernel_rfl) (by kernel_rfl) (fun _ _ _ h => h) (by rfl) (fun v hv => by go_simp) hH ?_
  simp only [Act.put, List.setIfInBounds_toArray, List.set_cons_succ, List.set_cons_zero]
  refine takeH 9 (.pointer (some ⟨n.b, 0, none⟩)) rfl (by kernel_rfl) (by kernel_rfl) (by kernel_rfl) (fun _ _ _ h => h) (by rfl) (fun v hv => by go_simp) hH ?_
  simp only [Act.put, List.setIfInBounds_toArray, List.set_cons_succ, List.set_cons_zero]
  refine takeH 10 (.bool true) rfl (by kernel_rfl) (by kernel_rfl) (by kernel_rfl) (fun _ _ _ h => h) (by rfl) (fun v hv => by go_simp) hH ?_
  simp only [Act.put, List.setIfInBounds_toArray, List.set_cons_succ, List.set_cons_zero]
  refine wpAnyH_done (by kernel_rfl) ?_ _
  have hK1 := hid (hk.out.trans hH0)
  have c32 : W.drew.cell? ⟨n.b, 32, none⟩ = some (.slice (some ⟨g, 0, none⟩) k vc) := hcd.out _ hK1.out
  clear hmv hld hlk
  generalize W.drew = W1 at *
  go_wp2_with fail
  have hul2 := HUL.out.1
  have hk8 : k ≤ 100000000 := by have h1 := HNL.out; have h2 := HKL.out; omega
  have hrw := hK1.out.owns HROW.out (by simp)
  rw [HV.out] at hrw
  obtain ⟨sb, hsb⟩ : ∃ sb, n.bs[u / 8]? = some sb := ⟨n.bs[u / 8]'(by rw [← HKL.out]; omega), by simp⟩
  have gl := hrw.cellAt (u / 8) (by rw [← HKL.out]; omega)
  rw [List.getElem?_map, hsb] at gl
  have gld : W1.drew.cell? ⟨g, u / 8, none⟩ = some (.int .u8 (sb.toNat : Int)) := gl
  have gfd : W1.drew.frozen? ⟨g, u / 8, none⟩ = false := hrw.frozenAt _
  have c32d : W1.drew.cell? ⟨n.b, 32, none⟩ = some (.slice (some ⟨g, 0, none⟩) k vc) := c32
  have HRW := hid hrw; have Hsb := hid hsb
  obtain ⟨kk, hkk⟩ : ∃ kk, kk = u / 8 := ⟨_, rfl⟩
  obtain ⟨rr, hr8⟩ : ∃ rr, rr = u % 8 := ⟨_, rfl⟩
  obtain ⟨m, hm2, hsh⟩ := sh_u8 rr (by omega)
  rw [← hkk] at gld gfd
  have f1 : (0 : Int) ≤ (kk : Int) := by omega
  have f2 : (kk : Int) < (k : Int) := by omega
  have f3 : kk < k := by omega
  obtain ⟨Z, hZ⟩ : ∃ Z : Int, Z = (u : Int) := ⟨_, rfl⟩
  have hZ0 : 0 ≤ Z := by omega
  have d2 : Z.tdiv 8 = (kk : Int) := by rw [Int.tdiv_eq_ediv_of_nonneg hZ0]; omega
  have d3 : Z.tmod 8 = (rr : Int) := by rw [Int.tmod_eq_emod_of_nonneg hZ0]; omega
  have e2 : IntKind.i64.wrap (Z.tdiv 8) = (kk : Int) := by rw [d2]; exact IntWalk.i64_in _ (by omega)
  have e4 : IntKind.i64.wrap (Z.tmod 8) = (rr : Int) := by rw [d3]; exact IntWalk.i64_in _ (by omega)
  rw [← hZ]
  have HKK := hid hkk; have HR8 := hid hr8; have HM2 := hid hm2; have HR9 := hid (show rr < 8 by omega)
  have E2 := hid e2
  clear d2 hZ hul2 hrw hsb gl c32 hkk hr8 hm2 w1 w2 w3 w4 w5 hd0 hd1 hr' hk0 hH hH0
  refine wp_region_still_tail 12 (by kernel_rfl) (by kernel_rfl) ?_
  simp only [List.take_succ_cons, List.take_zero, List.drop_succ_cons, List.drop_zero]
  change wpStill _ _ W1.drew _ _ _
  repeat still_step
  refine wpStill_nil ?_
  go_wp2_with fail
  have hxv := xo_8 sb m
  have hp8 : (2 : Int) ^ min rr 8 % 256 = (m.toNat : Int) := by rw [HM2.out]; exact po_8 rr HR9.out
  rw [hp8, hxv]
  go_ret
  obtain ⟨V, hV⟩ : ∃ V, V = (W1.setCell ⟨g, kk, none⟩ (.int .u8 ((sb ^^^ m).toNat : Int))).drew := ⟨_, rfl⟩
  rw [← hV]
  have hkg : Kept [g] W1 V := by rw [hV]; exact (kset W1 g kk _).drew
  have C1 := HC.out.kept hK1.out (by simp)
  have hrowV : V.ownsRow D 5 1 n.v (n.bs.set kk (sb ^^^ m)).length ((n.bs.set kk (sb ^^^ m)).map B) := by
    rw [hV, HV.out, List.length_set]
    exact own_sb (w := W1) HRW.out kk (sb ^^^ m)
  have hflip : flipB n.bs (bitAt bit n.bs) = n.bs.set kk (sb ^^^ m) := by
    unfold flipB
    rw [← HU.out, ← HKK.out, HM2.out, HR8.out]
    have h1 := Hsb.out
    rw [← HKK.out] at h1
    rw [List.getD_eq_getElem?_getD, h1]
    rfl
  have hg : n.v.ownBlock = some g := by rw [HV.out]; rfl
  have hgU : g ∈ U := (C1.data n (by simp)).2 g hg
  refine ⟨rfl, (hK1.out.wider (fun x _ hx => by simp at hx)).trans (hkg.wider (fun x _ hx => by simp at hx; subst hx; exact hgU)), ?_⟩
  rw [hflip]
  exact ca_turn C1 hkg hg (by simp) hrowV
end Go.Proofs.YtmkdjonlfkfnlaaDoor


/- cache: Spoil of any sum. -/
namespace Go.Proofs.YtmkdjonlfkfnlaaDoor
open Go.RowKit Go.Lib Go.Maps
set_option maxRecDepth 100000 in
set_option maxHeartbeats 4000000 in
theorem ca_spoil_none (D : Nat) (w : World) (U : List Nat) (p : Nat) (lim : Int) (ns : List Kn) (h : Ca D w U p lim ns) (id : List UInt8) (h32 : id.length = 32) (hf : id ∉ ns.map (·.id)) (bit : Int) :
    Calls Tryd.prog 15 #[.pointer (some ⟨p, 0, none⟩), .agg (id.map B).toArray, .int .i64 bit] w fun e w' => e = .returned (.bool false) ∧ Kept [] w w' := by
  have HC := hid h
  obtain ⟨⟨mv, h1, h2, h3⟩, h4, h5, _⟩ := h
  have hfind := find_not hf
  obtain ⟨W, hW⟩ : ∃ W, W = w.alloc (.cells (id.map B).toArray 34) := ⟨_, rfl⟩
  have hk := hid (show Kept [] w W from hW ▸ (Kept.refl [] w).alloc _)
  have hb := hid (show W.heap[w.heap.size]? = some (.cells (id.map B).toArray 34 (0, 0)) from hW ▸ heap_alloc_at rfl)
  have HW := hid hW
  have hmv := hid (fun v (hv : Kept [] W v) => (ca_cells (show CaAt v p lim (sizeK ns) mv (fstP ns none) (lstP none ns) from (hk.out.trans hv).at h1 (by simp))).2.2.1)
  have hld := hid (fun v (hv : Kept [] W v) => ld_idB v w.heap.size id h32 (hv.at hb.out (by simp)))
  have hlk := hid (fun v (hv : Kept [] W v) => (show (Instr.lookup 56 mv (.agg (id.map B).toArray) true).run Tryd.prog v = .ok (.tuple #[.pointer none, .bool false]) v from by
    have := im_look (h2.kept (hk.out.trans hv) (fun b _ => by simp)) id h32
    rw [hfind] at this
    exact this))
  obtain ⟨iv, hiv⟩ : ∃ iv, iv = (id.map B).toArray := ⟨_, rfl⟩
  rw [← hiv] at hld hlk HW ⊢
  clear h1 h2 h3 h4 h5 hW hfind hiv hb hf
  go_enter Tryd.func15, Tryd.ntmps15
  go_wp2_with fail
  rw [← HW.out]
  have hH0 : Kept [] W W.drew := (Kept.refl [] W).drew
  refine wp_region_held_drew (S := fun v => Kept [] W v) (by kernel_rfl) hH0 (fun hH => ?_)
  refine takeH 0 (.pointer (some ⟨p, 0, none⟩)) rfl (by kernel_rfl) (by kernel_rfl) (by kernel_rfl) (fun _ _ _ h => h) (by rfl) (fun v hv => by go_simp) hH ?_
  simp only [Act.put, List.setIfInBounds_toArray, List.set_cons_succ, List.set_cons_zero]
  refine takeH 1 (.pointer (some ⟨p, 0, none⟩)) rfl (by kernel_rfl) (by kernel_rfl) (by kernel_rfl) (fun _ _ _ h => h) (by rfl) (fun v hv => by go_simp) hH ?_
  simp only [Act.put, List.setIfInBounds_toArray, List.set_cons_succ, List.set_cons_zero]
  refine takeH 2 (.pointer (some ⟨p, 2, none⟩)) rfl (by kernel_rfl) (by kernel_rfl) (by kernel_rfl) (fun _ _ _ h => h) (by rfl) (fun v hv => by go_simp) hH ?_
  simp only [Act.put, List.setIfInBounds_toArray, List.set_cons_succ, List.set_cons_zero]
  refine takeH 3 (mv) rfl (by kernel_rfl) (by kernel_rfl) (by kernel_rfl) (fun _ _ _ h => h) (by rfl) (fun v hv => by have h := hmv.out v hv; go_simp) hH ?_
  simp only [Act.put, List.setIfInBounds_toArray, List.set_cons_succ, List.set_cons_zero]
  refine takeH 4 (.agg iv) rfl (by kernel_rfl) (by kernel_rfl) (by kernel_rfl) (fun _ _ _ h => h) (by rfl) (fun v hv => by have h := hld.out v hv; unfold execOp; simp [Instr.loadAt, Instr.sureAddr, Sem.run_bind, Sem.run_pure, Result.andThen_ok, Act.eval, h]) hH ?_
  simp only [Act.put, List.setIfInBounds_toArray, List.set_cons_succ, List.set_cons_zero]
  refine takeH 5 (.tuple #[.pointer none, .bool false]) rfl (by kernel_rfl) (by kernel_rfl) (by kernel_rfl) (fun _ _ _ h => h) (by rfl) (fun v hv => by have h := hlk.out v hv; unfold execOp; simp [Act.eval, Sem.run_bind, Sem.run_pure, Result.andThen_ok, h]) hH ?_
  simp only [Act.put, List.setIfInBounds_toArray, List.set_cons_succ, List.set_cons_zero]
  refine takeH 6 (.tuple #[.pointer none, .bool false]) rfl (by kernel_rfl) (by kernel_rfl) (by kernel_rfl) (fun _ _ _ h => h) (by rfl) (fun v hv => by go_simp) hH ?_
  simp only [Act.put, List.setIfInBounds_toArray, List.set_cons_succ, List.set_cons_zero]
  refine takeH 7 (.pointer none) rfl (by kernel_rfl) (by kernel_rfl) (by kernel_rfl) (fun _ _ _ h => h) (by rfl) (fun v hv => by go_simp) hH ?_
  simp only [Act.put, List.setIfInBounds_toArray, List.set_cons_succ, List.set_cons_zero]
  refine takeH 8 (.bool false) rfl (by kernel_rfl) (by kernel_rfl) (by kernel_rfl) (fun _ _ _ h => h) (by rfl) (fun v hv => by go_simp) hH ?_
  simp only [Act.put, List.setIfInBounds_toArray, List.set_cons_succ, List.set_cons_zero]
  refine takeH 9 (.pointer none) rfl (by kernel_rfl) (by kernel_rfl) (by kernel_rfl) (fun _ _ _ h => h) (by rfl) (fun v hv => by go_simp) hH ?_
  simp only [Act.put, List.setIfInBounds_toArray, List.set_cons_succ, List.set_cons_zero]
  refine takeH 10 (.bool false) rfl (by kernel_rfl) (by kernel_rfl) (by kernel_rfl) (fun _ _ _ h => h) (by rfl) (fun v hv => by go_simp) hH ?_
  simp only [Act.put, List.setIfInBounds_toArray, List.set_cons_succ, List.set_cons_zero]
  refine wpAnyH_done (by kernel_rfl) ?_ _
  go_wp2
  go_ret
  exact ⟨rfl, hk.out.trans hH0⟩
set_option maxRecDepth 100000 in
set_option maxHeartbeats 4000000 in
theorem ca_spoil_empty (D : Nat) (w : World) (U : List Nat) (p : Nat) (lim : Int) (ns : List Kn) (h : Ca D w U p lim ns) (n : Kn) (hn : n ∈ ns) (hne : n.bs = []) (id : List UInt8) (hid0 : id = n.id) (bit : Int) :
    Calls Tryd.prog 15 #[.pointer (some ⟨p, 0, none⟩), .agg (id.map B).toArray, .int .i64 bit] w fun e w' => e = .returned (.bool false) ∧ Kept [] w w' := by
  have HC := hid h
  obtain ⟨⟨mv, h1, h2, h3⟩, h4, h5, _⟩ := h
  obtain ⟨xa, xb, hln⟩ := h4.mem hn
  have h32 : id.length = 32 := by rw [hid0]; exact hln.1
  have hfind : findI id (pairK ns) = some n.b := by
    obtain ⟨A, C, rfl⟩ := List.append_of_mem hn
    rw [hid0]
    exact find_here HC.out.ids
  obtain ⟨va, vc, hv0⟩ : ∃ a c, n.v = .slice a 0 c := by
    obtain ⟨a, c, e⟩ := owns_slice (h5 n hn).1
    rw [hne] at e
    exact ⟨a, c, e⟩
  have hcd := hid (fun V (hV : Kept [] w V) => (show V.cell? ⟨n.b, 32, none⟩ = some (.slice va 0 vc) from by
    have h1 := (kn_cells hln.1 (hV.at hln.2 (by simp))).1
    rw [hv0] at h1
    exact h1))
  obtain ⟨W, hW⟩ : ∃ W, W = w.alloc (.cells (id.map B).toArray 34) := ⟨_, rfl⟩
  have hk := hid (show Kept [] w W from hW ▸ (Kept.refl [] w).alloc _)
  have hb := hid (show W.heap[w.heap.size]? = some (.cells (id.map B).toArray 34 (0, 0)) from hW ▸ heap_alloc_at rfl)
  have HW := hid hW
  have hmv := hid (fun v (hv : Kept [] W v) => (ca_cells (show CaAt v p lim (sizeK ns) mv (fstP ns none) (lstP none ns) from (hk.out.trans hv).at h1 (by simp))).2.2.1)
  have hld := hid (fun v (hv : Kept [] W v) => ld_idB v w.heap.size id h32 (hv.at hb.out (by simp)))
  have hlk := hid (fun v (hv : Kept [] W v) => (show (Instr.lookup 56 mv (.agg (id.map B).toArray) true).run Tryd.prog v = .ok (.tuple #[.pointer (some ⟨n.b, 0, none⟩), .bool true]) v from by
    have := im_look (h2.kept (hk.out.trans hv) (fun b _ => by simp)) id h32
    rw [hfind] at this
    exact this))
  obtain ⟨iv, hiv⟩ : ∃ iv, iv = (id.map B).toArray := ⟨_, rfl⟩
  rw [← hiv] at hld hlk HW ⊢
  clear h1 h2 h3 h4 h5 hW hfind hiv hb hn hne hid0 hln hv0
  go_enter Tryd.func15, Tryd.ntmps15
  go_wp2_with fail
  rw [← HW.out]
  have hH0 : Kept [] W W.drew := (Kept.refl [] W).drew
  refine wp_region_held_drew (S := fun v => Kept [] W v) (by kernel_rfl) hH0 (fun hH => ?_)
  refine takeH 0 (.pointer (some ⟨p, 0, none⟩)) rfl (by kernel_rfl) (by kernel_rfl) (by kernel_rfl) (fun _ _ _ h => h) (by rfl) (fun v hv => by go_simp) hH ?_
  simp only [Act.put, List.setIfInBounds_toArray, List.set_cons_succ, List.set_cons_zero]
  refine takeH 1 (.pointer (some ⟨p, 0, none⟩)) rfl (by kernel_rfl) (by kernel_rfl) (by kernel_rfl) (fun _ _ _ h => h) (by rfl) (fun v hv => by go_simp) hH ?_
  simp only [Act.put, List.setIfInBounds_toArray, List.set_cons_succ, List.set_cons_zero]
  refine takeH 2 (.pointer (some ⟨p, 2, none⟩)) rfl (by kernel_rfl) (by kernel_rfl) (by kernel_rfl) (fun _ _ _ h => h) (by rfl) (fun v hv => by go_simp) hH ?_
  simp only [Act.put, List.setIfInBounds_toArray, List.set_cons_succ, List.set_cons_zero]
  refine takeH 3 (mv) rfl (by kernel_rfl) (by kernel_rfl) (by kernel_rfl) (fun _ _ _ h => h) (by rfl) (fun v hv => by have h := hmv.out v hv; go_simp) hH ?_
  simp only [Act.put, List.setIfInBounds_toArray, List.set_cons_succ, List.set_cons_zero]
  refine takeH 4 (.agg iv) rfl (by kernel_rfl) (by kernel_rfl) (by kernel_rfl) (fun _ _ _ h => h) (by rfl) (fun v hv => by have h := hld.out v hv; unfold execOp; simp [Instr.loadAt, Instr.sureAddr, Sem.run_bind, Sem.run_pure, Result.andThen_ok, Act.eval, h]) hH ?_
  simp only [Act.put, List.setIfInBounds_toArray, List.set_cons_succ, List.set_cons_zero]
  refine takeH 5 (.tuple #[.pointer (some ⟨n.b, 0, none⟩), .bool true]) rfl (by kernel_rfl) (by kernel_rfl) (by kernel_rfl) (fun _ _ _ h => h) (by rfl) (fun v hv => by have h := hlk.out v hv; unfold execOp; simp [Act.eval, Sem.run_bind, Sem.run_pure, Result.andThen_ok, h]) hH ?_
  simp only [Act.put, List.setIfInBounds_toArray, List.set_cons_succ, List.set_cons_zero]
  refine takeH 6 (.tuple #[.pointer (some ⟨n.b, 0, none⟩), .bool true]) rfl (by kernel_rfl) (by kernel_rfl) (by kernel_rfl) (fun _ _ _ h => h) (by rfl) (fun v hv => by go_simp) hH ?_
  simp only [Act.put, List.setIfInBounds_toArray, List.set_cons_succ, List.set_cons_zero]
  refine takeH 7 (.pointer (some ⟨n.b, 0, none⟩)) rfl (by kernel_rfl) (by kernel_rfl) (by kernel_rfl) (fun _ _ _ h => h) (by rfl) (fun v hv => by go_simp) hH ?_
  simp only [Act.put, List.setIfInBounds_toArray, List.set_cons_succ, List.set_cons_zero]
  refine takeH 8 (.bool true) rfl (by kernel_rfl) (by kernel_rfl) (by kernel_rfl) (fun _ _ _ h => h) (by rfl) (fun v hv => by go_simp) hH ?_
  simp only [Act.put, List.setIfInBounds_toArray, List.set_cons_succ, List.set_cons_zero]
  refine takeH 9 (.pointer (some ⟨n.b, 0, none⟩)) rfl (by kernel_rfl) (by kernel_rfl) (by kernel_rfl) (fun _ _ _ h => h) (by rfl) (fun v hv => by go_simp) hH ?_
  simp only [Act.put, List.setIfInBounds_toArray, List.set_cons_succ, List.set_cons_zero]
  refine takeH 10 (.bool true) rfl (by kernel_rfl) (by kernel_rfl) (by kernel_rfl) (fun _ _ _ h => h) (by rfl) (fun v hv => by go_simp) hH ?_
  simp only [Act.put, List.setIfInBounds_toArray, List.set_cons_succ, List.set_cons_zero]
  refine wpAnyH_done (by kernel_rfl) ?_ _
  have c32 : W.drew.cell? ⟨n.b, 32, none⟩ = some (.slice va 0 vc) := hcd.out _ (hk.out.trans hH0)
  go_wp2
  go_ret
  exact ⟨rfl, hk.out.trans hH0⟩
theorem spoil_mid {A C : List Kn} {n : Kn} (h : ((A ++ n :: C).map (·.id)).Nodup) (f : List UInt8) : (datK (A ++ n :: C)).map (fun e => if e.1 = n.id then (e.1, f) else e) = datK (A ++ { n with bs := f } :: C) := by
  rw [List.map_append, List.map_cons] at h
  have h1 := (List.nodup_append.1 h).2.2
  have h2 := (List.nodup_cons.1 (List.nodup_append.1 h).2.1).1
  unfold datK
  rw [List.map_append, List.map_append, List.map_append, List.map_cons, List.map_cons, List.map_cons]
  have e1 : (A.map fun n => (n.id, n.bs)).map (fun e => if e.1 = n.id then (e.1, f) else e) = A.map fun n => (n.id, n.bs) := by
    rw [List.map_map]
    refine List.map_congr_left fun x hx => ?_
    have : x.id ≠ n.id := h1 x.id (List.mem_map_of_mem hx) n.id (by simp)
    simp [this]
  have e2 : (C.map fun n => (n.id, n.bs)).map (fun e => if e.1 = n.id then (e.1, f) else e) = C.map fun n => (n.id, n.bs) := by
    rw [List.map_map]
    refine List.map_congr_left fun x hx => ?_
    have : x.id ≠ n.id := fun e => h2 (by rw [← e]; exact List.mem_map_of_mem hx)
    simp [this]
  rw [e1, e2]
  simp
theorem spoilL_map {id : List UInt8} {l : List (List UInt8 × List UInt8)} {bs : List UInt8} {bit : Int} (h : findD id l = some bs) (hnd : (l.map (·.1)).Nodup) : (l.map fun e => if e.1 = id then (e.1, flipB e.2 (bitAt bit bs)) else e) = l.map fun e => if e.1 = id then (e.1, flipB bs (bitAt bit bs)) else e := by
  induction l with
  | nil => rfl
  | cons e r ih =>
    rw [List.map_cons, List.nodup_cons] at hnd
    unfold findD at h
    by_cases he : e.1 = id
    · rw [if_pos he] at h
      have hb : e.2 = bs := Option.some.inj h
      have hr : ∀ x ∈ r, x.1 ≠ id := fun x hx hxe => hnd.1 (by rw [he, ← hxe]; exact List.mem_map_of_mem hx)
      rw [List.map_cons, List.map_cons, if_pos he, if_pos he, hb]
      congr 1
      exact List.map_congr_left fun x hx => by rw [if_neg (hr x hx), if_neg (hr x hx)]
    · rw [if_neg he] at h
      rw [List.map_cons, List.map_cons, if_neg he, if_neg he, ih h hnd.2]
theorem ca_spoil (D : Nat) (w : World) (U : List Nat) (p : Nat) (lim : Int) (ns : List Kn) (h : Ca D w U p lim ns) (hz : sizeK ns ≤ 100000000) (id : List UInt8) (h32 : id.length = 32) (bit : Int) (hb1 : -9223372036854775808 ≤ bit) (hb2 : bit ≤ 9223372036854775807) :
    Calls Tryd.prog 15 #[.pointer (some ⟨p, 0, none⟩), .agg (id.map B).toArray, .int .i64 bit] w fun e w' => e = .returned (.bool (spoilL id bit (datK ns)).isSome) ∧ Kept U w w' ∧ ∃ ns', Ca D w' U p lim ns' ∧ datK ns' = (spoilL id bit (datK ns)).getD (datK ns) := by
  by_cases hf : id ∈ ns.map (·.id)
  · obtain ⟨n, hn, rfl⟩ := List.mem_map.1 hf
    by_cases hne : n.bs = []
    · refine (ca_spoil_empty D w U p lim ns h n hn hne n.id rfl bit).mono ?_
      rintro e w' ⟨rfl, hk⟩
      have hs : spoilL n.id bit (datK ns) = none := by
        obtain ⟨A, C, rfl⟩ := List.append_of_mem hn
        unfold spoilL
        rw [findD_mid h.ids]
        simp [hne]
      rw [hs]
      exact ⟨rfl, hk.wider (fun x _ hx => by simp at hx), ns, h.kept hk (by simp), rfl⟩
    · obtain ⟨A, C, rfl⟩ := List.append_of_mem hn
      refine (ca_spoil_some D w U p lim A n C h hz hne bit hb1 hb2).mono ?_
      rintro e w' ⟨rfl, hk, hc⟩
      have hfd := findD_mid h.ids
      have hs : spoilL n.id bit (datK (A ++ n :: C)) = some (datK (A ++ { n with bs := flipB n.bs (bitAt bit n.bs) } :: C)) := by
        unfold spoilL
        rw [hfd]
        simp only
        rw [if_neg hne, spoilL_map hfd (by rw [ids_dat]; exact h.ids), spoil_mid h.ids]
      rw [hs]
      exact ⟨rfl, hk, _, hc, rfl⟩
  · refine (ca_spoil_none D w U p lim ns h id h32 hf bit).mono ?_
    rintro e w' ⟨rfl, hk⟩
    have hs : spoilL id bit (datK ns) = none := by unfold spoilL; rw [findD_not hf]
    rw [hs]
    exact ⟨rfl, hk.wider (fun x _ hx => by simp at hx), ns, h.kept hk (by simp), rfl⟩
end Go.Proofs.YtmkdjonlfkfnlaaDoor
