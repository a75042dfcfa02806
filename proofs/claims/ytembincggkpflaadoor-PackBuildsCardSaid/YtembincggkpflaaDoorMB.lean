import Derived.Test.YtembincggkpflaaDoorMA
import Derived.Test.YtembincggkpflaaDoorMI
import Derived.Test.YtembincggkpflaaDoorHX
import Derived.Test.YtembincggkpflaaDoorWV
import Derived.Test.YtembincggkpflaaDoorMS
import Derived.Test.YtembincggkpflaaDoorMJ
import Derived.Test.YtembincggkpflaaDoorHB
import Derived.Test.YtembincggkpflaaDoorMC
import Derived.Test.YtembincggkpflaaDoorW1

/- A builder in memory; its Add, Len, Size. -/
namespace Go.Proofs.YtembincggkpflaaDoor
open Go.RowKit Go.Lib Go.Maps

/-- A builder in block p that has the blobs es, whose bytes are bs; the blocks that it has: S. -/
def Bd (w : World) (S : List Nat) (p : Nat) (es : List En) (bs : List UInt8) : Prop :=
  ∃ SH bv lv mv, Hd w SH p 31 [bv] es lv mv ∧ w.ownsRow 0 5 1 bv bs.length (bs.map B) ∧ (∀ g, bv.ownBlock = some g → g ∈ S ∧ g ∉ SH) ∧ (∀ x ∈ SH, x ∈ S) ∧ bs.length = ends es
theorem Bd.kept {w w' : World} {S U : List Nat} {p : Nat} {es : List En} {bs : List UInt8} (h : Bd w S p es bs) (hk : Kept U w w') (hd : ∀ x ∈ S, x ∉ U) : Bd w' S p es bs := by
  obtain ⟨SH, bv, lv, mv, h1, h2, h3, h4, h5⟩ := h
  exact ⟨SH, bv, lv, mv, h1.kept hk (fun x hx => hd x (h4 x hx)), hk.owns h2 (fun g hg => hd g (h3 g hg).1), h3, h4, h5⟩

theorem reads_src {w : World} {a : Option Addr} {c : Nat} {ys : List UInt8} (h : SrcB w (.slice a ys.length c) ys) : Reads w a ys := by
  rcases h with ⟨h1, h2, h3⟩ | ⟨ad, c', h1, h2⟩
  · simp at h1
    have h4 : ys = [] := List.eq_nil_of_length_eq_zero h2
    subst h4
    exact ⟨fun _ => rfl, fun ad _ j u hj => by simp at hj⟩
  · simp at h1
    obtain ⟨rfl, rfl⟩ := h1
    exact ⟨fun h => by simp at h, fun ad' had j u hj => by simp at had; subst had; exact h2 j u hj⟩
section
variable {P : Program} {md : Region.Mode} {Q : Exit → Act → World → Prop} {S : World → Prop} {l rest rest' : List Oper} {oi oj : Oper} {fuel : Nat} {listed : Array Bool} {a : Act} {w : World}
theorem callOrE (i j : Nat) (hi : l.drop i = oi :: rest) (hj : l.drop j = oj :: rest') (hr : Region.ready md l.toArray listed = [i, j]) (hwi : Region.wanted oi (yielded l.toArray a.tmps) = true) (hwj : Region.wanted oj (yielded l.toArray a.tmps) = true) (f : FuncId) (args : Array Value)
    (hrun : (execOp a.eval oi).run P w = .ok (.enter f args) w) (R : Value → World → Prop) (hRS : ∀ v w', R v w' → S w') (hc : Calls P f args w fun e w' => ∃ v, e = .returned v ∧ R v w')
    (vj : Value) (wj : World) (hrj : (execOp a.eval oj).run P w = .ok (.value vj) wj) (hSj : S wj)
    (h1 : ∀ v w', R v w' → wpAnyH P md l.toArray Q S fuel (listed.setIfInBounds i true) (a.put oi.dst v) w') (h2 : wpAnyH P md l.toArray Q S fuel (listed.setIfInBounds j true) (a.put oj.dst vj) wj) : wpAnyH P md l.toArray Q S (fuel + 1) listed a w := by
  refine wpAnyH_ready hr (by simp) (AllReadyH.cons (getL_of_drop hi) (fun K hK => ?_) (AllReadyH.cons (getL_of_drop hj) (fun K hK => ?_) AllReadyH.nil))
  · rw [if_pos hwi]; unfold Oper.wp; rw [hrun]
    refine hc.mono ?_
    rintro e w' ⟨v, rfl, hR⟩
    exact hK.out _ _ (hRS _ _ hR) (fun _ => h1 _ _ hR)
  · rw [if_pos hwj]; unfold Oper.wp; rw [hrj]; exact hK.out _ _ hSj (fun _ => h2)
end
theorem Hd.more {w : World} {S : List Nat} {p T : Nat} {bv : Value} {es : List En} {lv mv : Value} (h : Hd w S p T [bv] es lv mv) (v : Value) : Hd (w.setCell ⟨p, 3, none⟩ v) S p T [v] es lv mv := by
  have hk : Kept [p] w (w.setCell ⟨p, 3, none⟩ v) := (Kept.refl [p] w).setCell (fun _ => by simp) _
  refine ⟨?_, hk.owns h.list (fun g hg => by simp; exact (h.hl g hg).2), h.set.kept hk (fun b hb => by simp; exact (h.hm b hb).2.1), h.hp, h.hl, h.hm, h.rt, h.many, h.size, fun x hx => Nat.lt_of_lt_of_le (h.bound x hx) hk.size⟩
  have := Go.heap_setCell_same w p 3 _ _ v h.row
  simpa using this

/-- What a builder's Add does. -/
def BAdded (w : World) (S : List Nat) (p : Nat) (es : List En) (bs ys : List UInt8) (e : Ending) (w' : World) : Prop :=
  (addErr es (Sha.sum ys) ys.length ≠ 0 ∧ e = .returned (.tuple #[.agg zEnC.toArray, .int .i64 (addErr es (Sha.sum ys) ys.length)]) ∧ Kept [] w w') ∨
  (addErr es (Sha.sum ys) ys.length = 0 ∧ e = .returned (.tuple #[.agg (addE es (Sha.sum ys) ys.length).cells.toArray, .int .i64 0]) ∧ Kept S w w' ∧ ∃ S', Bd w' S' p (es ++ [addE es (Sha.sum ys) ys.length]) (bs ++ ys) ∧ ∀ x ∈ S', x ∈ S ∨ w.heap.size ≤ x)

set_option maxRecDepth 100000 in
set_option maxHeartbeats 16000000 in
theorem b_add (S : List Nat) (p : Nat) (es : List En) (bs : List UInt8) (a : Option Addr) (c : Nat) (ys : List UInt8) (w : World) (h : Bd w S p es bs) (hts : ∀ w', Kept S w w' → Tabs w') (hsrc : ∀ w', Kept S w w' → SrcB w' (.slice a ys.length c) ys) (hl : ys.length ≤ 1000000) (hc : ys.length ≤ c) (hc2 : c ≤ 9223372036854775807) :
    Calls Tryd.prog 6 #[.pointer (some ⟨p, 0, none⟩), .slice a ys.length c] w (BAdded w S p es bs ys) := by
  obtain ⟨i0, hi0, hz0, hz1, hz2⟩ := info_parts info_u8
  obtain ⟨SH, bv, lv, mv, hd, hbv', hb3, hb4, hb5⟩ := h
  obtain ⟨W, hW⟩ : ∃ W, W = w.alloc (.cells zEnC.toArray 38) := ⟨_, rfl⟩
  have KW := hid (show Kept [] w W by rw [hW]; exact (Kept.refl [] w).alloc _)
  have hres := hid (show W.heap[w.heap.size]? = some (.cells zEnC.toArray 38 (0, 0)) by rw [hW]; exact heap_alloc_at rfl)
  have HD := hid (hd.kept KW.out (by simp))
  have hSHb := hid hd.bound; have hpSH := hid hd.hp
  have hpw := hid (show p < w.heap.size from hd.bound p hd.hp)
  have hbv := hid hbv'; have hbS := hid (fun g hg => (hb3 g hg).2); have hbvS := hid (fun g hg => (hb3 g hg).1); have hSH := hid hb4; have hbl := hid hb5
  have hends : bs.length ≤ 1048576 := by rw [hb5]; have := hd.size; unfold sizeP at this; omega
  obtain ⟨k, hk'⟩ : ∃ k, k = ys.length := ⟨_, rfl⟩
  have hk_ := hid hk'.symm
  obtain ⟨id, hid'⟩ : ∃ id, id = Sha.sum ys := ⟨_, rfl⟩
  have h32 : id.length = 32 := by rw [hid']; exact Sha.sum_len ys
  obtain ⟨ci, hci⟩ : ∃ ci, ci = id.map B := ⟨_, rfl⟩
  have hof := hid (show ∀ v, Kept [] W v → Calls Tryd.prog 20 #[.slice a k c] v fun e w' => e = .returned (.agg ci.toArray) ∧ Kept [] v w' from fun v hv => by
    have hk := (KW.out.trans hv).wider (T := S) (by simp)
    rw [hci, hid', hk']; exact of_any a c ys v (hts v hk) (reads_src (hsrc v hk)) hc hc2 (by omega))
  have hadd := hid (show ∀ v, Kept [] W v → Calls Tryd.prog 19 #[.pointer (some ⟨p, 0, none⟩), .agg ci.toArray, .int .i64 (k : Int)] v (Added v SH p 31 [bv] es id k) from fun v hv => by
    have h1 := HD.out.kept hv (by simp)
    rw [hci]
    by_cases h0 : addErr es id k = 0
    · exact h_add_ok SH p _ _ es lv mv id k v h1 h32 h0
    · exact h_add_err SH p _ _ es lv mv id k v h1 h32 (by omega) h0)
  have hsr := hid (show ∀ v, Kept SH w v → Src v (.slice a k c) k (ys.map B) from fun v hv => by rw [hk']; exact (hsrc v (hv.wider (fun x _ hm => hb4 x hm))))
  have zi := hid (show (Tryd.prog.info? 38).map (·.size) = some zEnC.length by rw [zEnC_len]; exact en_info)
  have zf := hid (show 0 + zEnC.length ≤ zEnC.length by omega)
  have zsp := hid (splice36 zEnC zEnC rfl)
  have hzv := zero_en
  have HW := hid hW
  unfold BAdded
  rw [← hk', ← hid']
  rw [← hk'] at hl hc
  clear hd hbv' hb3 hb4 hb5 hW hci hid' hk' hts hsrc
  go_enter Tryd.func6, Tryd.ntmps6
  go_wp2_with fail
  rw [← HW.out]
  obtain ⟨ce, hce'⟩ : ∃ ce, ce = (addE es id k).cells := ⟨_, rfl⟩
  have hce := hid hce'
  have lce := hid (show ce.length = 34 by rw [hce']; exact en_size h32)
  have ice := hid (show (Tryd.prog.info? 38).map (·.size) = some ce.length by rw [lce.out]; exact en_info)
  have fce := hid (show 0 + ce.length ≤ zEnC.length by rw [lce.out, zEnC_len]; decide)
  have sce := hid (splice36 zEnC ce (by rw [lce.out, zEnC_len]))
  have oce := hid (show ∀ v ∈ ce, v.oneCell' = true by rw [hce']; exact en_one _)
  clear hce'
  have hWz0 : w.heap.size < W.heap.size := by rw [HW.out]; simp
  go_upto_region 1 with fail
  go_cut [6, 7] (fun s6 s7 wx => ∃ q, s6 = .pointer (some ⟨q, 0, none⟩) ∧ Hid (W.heap.size ≤ q) ∧ ((Hid (addErr es id k ≠ 0) ∧ s7 = .int .i64 (addErr es id k) ∧ Hid (wx.heap[q]? = some (.cells zEnC.toArray 38 (0, 0))) ∧ Hid (Kept [] W wx)) ∨ (Hid (addErr es id k = 0) ∧ s7 = .int .i64 0 ∧ Hid (wx.heap[q]? = some (.cells ce.toArray 38 (0, 0))) ∧ Hid (Kept SH W wx) ∧ ∃ S' lv' mv', Hid (Hd wx S' p 31 [bv] (es ++ [addE es id k]) lv' mv') ∧ Hid (∀ x ∈ S', x ∈ SH ∨ W.heap.size ≤ x) ∧ Hid (q ∉ S'))))
  case first =>
    refine wp_region_held_drew (S := Kept SH W) (by kernel_rfl) (Kept.refl SH W).drew (fun hH => ?_)
    refine takeH 0 (.pointer (some ⟨p, 0, none⟩)) rfl (by kernel_rfl) (by kernel_rfl) (by kernel_rfl) (fun _ _ _ h => h) (by rfl) (fun v hv => by go_simp) hH ?_
    simp only [Act.put, List.setIfInBounds_toArray, List.set_cons_succ, List.set_cons_zero]
    refine takeH 1 (.pointer (some ⟨p, 0, none⟩)) rfl (by kernel_rfl) (by kernel_rfl) (by kernel_rfl) (fun _ _ _ h => h) (by rfl) (fun v hv => by go_simp) hH ?_
    simp only [Act.put, List.setIfInBounds_toArray, List.set_cons_succ, List.set_cons_zero]
    refine takeH 2 (.pointer (some ⟨p, 0, none⟩)) rfl (by kernel_rfl) (by kernel_rfl) (by kernel_rfl) (fun _ _ _ h => h) (by rfl) (fun v hv => by go_simp) hH ?_
    simp only [Act.put, List.setIfInBounds_toArray, List.set_cons_succ, List.set_cons_zero]
    refine takeH 3 (.slice a k c) rfl (by kernel_rfl) (by kernel_rfl) (by kernel_rfl) (fun _ _ _ h => h) (by rfl) (fun v hv => by go_simp) hH ?_
    simp only [Act.put, List.setIfInBounds_toArray, List.set_cons_succ, List.set_cons_zero]
    refine takeH 5 (.slice a k c) rfl (by kernel_rfl) (by kernel_rfl) (by kernel_rfl) (fun _ _ _ h => h) (by rfl) (fun v hv => by go_simp) hH ?_
    simp only [Act.put, List.setIfInBounds_toArray, List.set_cons_succ, List.set_cons_zero]
    refine takeH 6 (.int .i64 (k : Int)) rfl (by kernel_rfl) (by kernel_rfl) (by kernel_rfl) (fun _ _ _ h => h) (by rfl) (fun v hv => by go_simp) hH ?_
    simp only [Act.put, List.setIfInBounds_toArray, List.set_cons_succ, List.set_cons_zero]
    refine callOrE 4 11 rfl rfl (by kernel_rfl) (by rfl) (by rfl) 20 #[.slice a k c] (by go_simp) (fun vv v => vv = .agg ci.toArray ∧ Kept [] W v) (fun _ _ h => h.2.wider (by simp)) ((hof.out W.drew (Kept.refl [] W).drew).mono fun e w' h => ⟨_, h.1, rfl, (Kept.refl [] W).drew.trans h.2⟩) (.pointer (some ⟨W.heap.size, 0, none⟩)) (W.drew.alloc (.cells zEnC.toArray 38)) (by have h := hzv; go_simp) (hH.alloc _) ?_ ?_
    · rintro vv w3 ⟨rfl, k3⟩
      simp only [Act.put, List.setIfInBounds_toArray, List.set_cons_succ, List.set_cons_zero]
      have z3 := k3.size
      refine callOrE 7 11 rfl rfl (by kernel_rfl) (by rfl) (by rfl) 19 #[.pointer (some ⟨p, 0, none⟩), .agg ci.toArray, .int .i64 (k : Int)] (by go_simp) (fun vv v => Kept SH W v ∧ ((addErr es id k ≠ 0 ∧ vv = .tuple #[.agg zEnC.toArray, .int .i64 (addErr es id k)] ∧ Kept [] w3 v) ∨ (addErr es id k = 0 ∧ vv = .tuple #[.agg (addE es id k).cells.toArray, .int .i64 0] ∧ Kept SH w3 v ∧ ∃ S' lv' mv', Hd v S' p 31 [bv] (es ++ [addE es id k]) lv' mv' ∧ ∀ x ∈ S', x ∈ SH ∨ w3.heap.size ≤ x))) (fun _ _ h => h.1) ((hadd.out w3 (k3)).mono fun e w' h => by
        rcases h with ⟨h1, rfl, h3⟩ | ⟨h1, rfl, h3, h4⟩
        · exact ⟨_, rfl, ((k3).trans h3).wider (by simp), Or.inl ⟨h1, rfl, h3⟩⟩
        · exact ⟨_, rfl, ((k3).wider (by simp)).trans h3, Or.inr ⟨h1, rfl, h3, h4⟩⟩) (.pointer (some ⟨w3.heap.size, 0, none⟩)) (w3.alloc (.cells zEnC.toArray 38)) (by have h := hzv; go_simp) ((k3.alloc _).wider (by simp)) ?_ ?_
      · rintro vv w4 ⟨k4, ⟨h1, rfl, h3⟩ | ⟨h1, rfl, h3, S', lv', mv', h4, h5⟩⟩
        · simp only [Act.put, List.setIfInBounds_toArray, List.set_cons_succ, List.set_cons_zero]
          have z4 := k4.size
          refine takeH 8 (.tuple #[.agg zEnC.toArray, .int .i64 (addErr es id k)]) rfl (by kernel_rfl) (by kernel_rfl) (by kernel_rfl) (fun _ _ _ h => h) (by rfl) (fun v hv => by go_simp) k4 ?_
          simp only [Act.put, List.setIfInBounds_toArray, List.set_cons_succ, List.set_cons_zero]
          refine takeH 9 (.agg zEnC.toArray) rfl (by kernel_rfl) (by kernel_rfl) (by kernel_rfl) (fun _ _ _ h => h) (by rfl) (fun v hv => by go_simp) k4 ?_
          simp only [Act.put, List.setIfInBounds_toArray, List.set_cons_succ, List.set_cons_zero]
          refine takeH 10 (.int .i64 (addErr es id k)) rfl (by kernel_rfl) (by kernel_rfl) (by kernel_rfl) (fun _ _ _ h => h) (by rfl) (fun v hv => by go_simp) k4 ?_
          simp only [Act.put, List.setIfInBounds_toArray, List.set_cons_succ, List.set_cons_zero]
          refine runH 11 rfl (by kernel_rfl) (by rfl) (.pointer (some ⟨w4.heap.size, 0, none⟩)) (w4.alloc (.cells zEnC.toArray 38)) (by have h := hzv; go_simp) (k4.alloc _) ?_
          simp only [Act.put, List.setIfInBounds_toArray, List.set_cons_succ, List.set_cons_zero]
          have hs8 := hid (show (storeVar 38 ⟨w4.heap.size, 0, none⟩ (.agg zEnC.toArray)).run Tryd.prog (w4.alloc (.cells zEnC.toArray 38)) = .ok () ((w4.alloc (.cells zEnC.toArray 38)).setRow (w4.heap.size) zEnC.toArray) from st_en (heap_alloc_at rfl) zEnC_len zEnC_one)
          have hkq := hid (show Kept [w4.heap.size] (w4.alloc (.cells zEnC.toArray 38)) ((w4.alloc (.cells zEnC.toArray 38)).setRow (w4.heap.size) zEnC.toArray) from (Kept.refl _ _).setRow (fun _ => by simp) _)
          have hkS := (k4.alloc _).trans' hkq.out (fun x hx hm => by simp at hm; omega)
          refine writeH 12 rfl (by kernel_rfl) (by rfl) ((w4.alloc (.cells zEnC.toArray 38)).setRow (w4.heap.size) zEnC.toArray) (by have h := hs8.out; unfold execOp; simp [Act.eval, Instr.storeAt, Instr.sureAddr, Sem.run_bind, Sem.run_pure, Result.andThen_ok, h]) hkS ?_
          simp only [Act.put, List.setIfInBounds_toArray, List.set_cons_succ, List.set_cons_zero]
          refine takeH 13 (.int .i64 (addErr es id k)) rfl (by kernel_rfl) (by kernel_rfl) (by kernel_rfl) (fun _ _ _ h => h) (by rfl) (fun v hv => by go_simp) hkS ?_
          simp only [Act.put, List.setIfInBounds_toArray, List.set_cons_succ, List.set_cons_zero]
          refine wpAnyH_done (by kernel_rfl) ?_ _
          go_wp2_with fail
          go_meet
          exact ⟨w4.heap.size, rfl, hid (show W.heap.size ≤ w4.heap.size by omega), Or.inl ⟨hid h1, rfl, hid (setRow_heap _ _ _ _ _ _ (heap_alloc_at rfl)), hid (((k3.trans h3).alloc _).trans' hkq.out (fun x hx hm => by simp at hm; omega))⟩⟩
        · simp only [Act.put, List.setIfInBounds_toArray, List.set_cons_succ, List.set_cons_zero]
          have z4 := k4.size
          rw [← hce.out]
          refine takeH 8 (.tuple #[.agg ce.toArray, .int .i64 0]) rfl (by kernel_rfl) (by kernel_rfl) (by kernel_rfl) (fun _ _ _ h => h) (by rfl) (fun v hv => by go_simp) k4 ?_
          simp only [Act.put, List.setIfInBounds_toArray, List.set_cons_succ, List.set_cons_zero]
          refine takeH 9 (.agg ce.toArray) rfl (by kernel_rfl) (by kernel_rfl) (by kernel_rfl) (fun _ _ _ h => h) (by rfl) (fun v hv => by go_simp) k4 ?_
          simp only [Act.put, List.setIfInBounds_toArray, List.set_cons_succ, List.set_cons_zero]
          refine takeH 10 (.int .i64 0) rfl (by kernel_rfl) (by kernel_rfl) (by kernel_rfl) (fun _ _ _ h => h) (by rfl) (fun v hv => by go_simp) k4 ?_
          simp only [Act.put, List.setIfInBounds_toArray, List.set_cons_succ, List.set_cons_zero]
          refine runH 11 rfl (by kernel_rfl) (by rfl) (.pointer (some ⟨w4.heap.size, 0, none⟩)) (w4.alloc (.cells zEnC.toArray 38)) (by have h := hzv; go_simp) (k4.alloc _) ?_
          simp only [Act.put, List.setIfInBounds_toArray, List.set_cons_succ, List.set_cons_zero]
          have hs8 := hid (show (storeVar 38 ⟨w4.heap.size, 0, none⟩ (.agg ce.toArray)).run Tryd.prog (w4.alloc (.cells zEnC.toArray 38)) = .ok () ((w4.alloc (.cells zEnC.toArray 38)).setRow (w4.heap.size) ce.toArray) from st_en (heap_alloc_at rfl) lce.out oce.out)
          have hkq := hid (show Kept [w4.heap.size] (w4.alloc (.cells zEnC.toArray 38)) ((w4.alloc (.cells zEnC.toArray 38)).setRow (w4.heap.size) ce.toArray) from (Kept.refl _ _).setRow (fun _ => by simp) _)
          have hkS := (k4.alloc _).trans' hkq.out (fun x hx hm => by simp at hm; omega)
          refine writeH 12 rfl (by kernel_rfl) (by rfl) ((w4.alloc (.cells zEnC.toArray 38)).setRow (w4.heap.size) ce.toArray) (by have h := hs8.out; unfold execOp; simp [Act.eval, Instr.storeAt, Instr.sureAddr, Sem.run_bind, Sem.run_pure, Result.andThen_ok, h]) hkS ?_
          simp only [Act.put, List.setIfInBounds_toArray, List.set_cons_succ, List.set_cons_zero]
          refine takeH 13 (.int .i64 0) rfl (by kernel_rfl) (by kernel_rfl) (by kernel_rfl) (fun _ _ _ h => h) (by rfl) (fun v hv => by go_simp) hkS ?_
          simp only [Act.put, List.setIfInBounds_toArray, List.set_cons_succ, List.set_cons_zero]
          refine wpAnyH_done (by kernel_rfl) ?_ _
          go_wp2_with fail
          go_meet
          exact ⟨w4.heap.size, rfl, hid (show W.heap.size ≤ w4.heap.size by omega), Or.inr ⟨hid h1, rfl, hid (setRow_heap _ _ _ _ _ _ (heap_alloc_at rfl)), hid hkS, S', lv', mv', hid ((h4.kept ((Kept.refl [] w4).alloc _) (by simp)).kept hkq.out (fun x hx => by simp; rintro rfl; exact (fun hx => Nat.lt_irrefl _ (h4.bound _ hx)) hx)), hid (fun x hx => (h5 x hx).imp (fun h => h) (fun h => by omega)), hid (fun hx => Nat.lt_irrefl _ (h4.bound _ hx))⟩⟩
      · simp only [Act.put, List.setIfInBounds_toArray, List.set_cons_succ, List.set_cons_zero]
        have zb : w3.heap.size < (w3.alloc (.cells zEnC.toArray 38)).heap.size := by simp
        refine callE 7 rfl (by kernel_rfl) (by rfl) 19 #[.pointer (some ⟨p, 0, none⟩), .agg ci.toArray, .int .i64 (k : Int)] (by go_simp) (fun vv v => Kept SH W v ∧ ((addErr es id k ≠ 0 ∧ vv = .tuple #[.agg zEnC.toArray, .int .i64 (addErr es id k)] ∧ Kept [] (w3.alloc (.cells zEnC.toArray 38)) v) ∨ (addErr es id k = 0 ∧ vv = .tuple #[.agg (addE es id k).cells.toArray, .int .i64 0] ∧ Kept SH (w3.alloc (.cells zEnC.toArray 38)) v ∧ ∃ S' lv' mv', Hd v S' p 31 [bv] (es ++ [addE es id k]) lv' mv' ∧ ∀ x ∈ S', x ∈ SH ∨ (w3.alloc (.cells zEnC.toArray 38)).heap.size ≤ x))) (fun _ _ h => h.1) ((hadd.out (w3.alloc (.cells zEnC.toArray 38)) (k3.alloc _)).mono fun e w' h => by
          rcases h with ⟨h1, rfl, h3⟩ | ⟨h1, rfl, h3, h4⟩
          · exact ⟨_, rfl, ((k3.alloc _).trans h3).wider (by simp), Or.inl ⟨h1, rfl, h3⟩⟩
          · exact ⟨_, rfl, ((k3.alloc _).wider (by simp)).trans h3, Or.inr ⟨h1, rfl, h3, h4⟩⟩) ?_
        rintro vv w4 ⟨k4, ⟨h1, rfl, h3⟩ | ⟨h1, rfl, h3, S', lv', mv', h4, h5⟩⟩
        · simp only [Act.put, List.setIfInBounds_toArray, List.set_cons_succ, List.set_cons_zero]
          have z4 := k4.size
          refine takeH 8 (.tuple #[.agg zEnC.toArray, .int .i64 (addErr es id k)]) rfl (by kernel_rfl) (by kernel_rfl) (by kernel_rfl) (fun _ _ _ h => h) (by rfl) (fun v hv => by go_simp) k4 ?_
          simp only [Act.put, List.setIfInBounds_toArray, List.set_cons_succ, List.set_cons_zero]
          refine takeH 9 (.agg zEnC.toArray) rfl (by kernel_rfl) (by kernel_rfl) (by kernel_rfl) (fun _ _ _ h => h) (by rfl) (fun v hv => by go_simp) k4 ?_
          simp only [Act.put, List.setIfInBounds_toArray, List.set_cons_succ, List.set_cons_zero]
          refine takeH 10 (.int .i64 (addErr es id k)) rfl (by kernel_rfl) (by kernel_rfl) (by kernel_rfl) (fun _ _ _ h => h) (by rfl) (fun v hv => by go_simp) k4 ?_
          simp only [Act.put, List.setIfInBounds_toArray, List.set_cons_succ, List.set_cons_zero]
          have hs8 := hid (show (storeVar 38 ⟨w3.heap.size, 0, none⟩ (.agg zEnC.toArray)).run Tryd.prog (w4) = .ok () ((w4).setRow (w3.heap.size) zEnC.toArray) from st_en (h3.at (heap_alloc_at rfl) (by simp)) zEnC_len zEnC_one)
          have hkq := hid (show Kept [w3.heap.size] (w4) ((w4).setRow (w3.heap.size) zEnC.toArray) from (Kept.refl _ _).setRow (fun _ => by simp) _)
          have hkS := (k4).trans' hkq.out (fun x hx hm => by simp at hm; omega)
          refine writeH 12 rfl (by kernel_rfl) (by rfl) ((w4).setRow (w3.heap.size) zEnC.toArray) (by have h := hs8.out; unfold execOp; simp [Act.eval, Instr.storeAt, Instr.sureAddr, Sem.run_bind, Sem.run_pure, Result.andThen_ok, h]) hkS ?_
          simp only [Act.put, List.setIfInBounds_toArray, List.set_cons_succ, List.set_cons_zero]
          refine takeH 13 (.int .i64 (addErr es id k)) rfl (by kernel_rfl) (by kernel_rfl) (by kernel_rfl) (fun _ _ _ h => h) (by rfl) (fun v hv => by go_simp) hkS ?_
          simp only [Act.put, List.setIfInBounds_toArray, List.set_cons_succ, List.set_cons_zero]
          refine wpAnyH_done (by kernel_rfl) ?_ _
          go_wp2_with fail
          go_meet
          exact ⟨w3.heap.size, rfl, hid (show W.heap.size ≤ w3.heap.size by omega), Or.inl ⟨hid h1, rfl, hid (setRow_heap _ _ _ _ _ _ (h3.at (heap_alloc_at rfl) (by simp))), hid (((k3.alloc _).trans h3).trans' hkq.out (fun x hx hm => by simp at hm; omega))⟩⟩
        · simp only [Act.put, List.setIfInBounds_toArray, List.set_cons_succ, List.set_cons_zero]
          have z4 := k4.size
          rw [← hce.out]
          refine takeH 8 (.tuple #[.agg ce.toArray, .int .i64 0]) rfl (by kernel_rfl) (by kernel_rfl) (by kernel_rfl) (fun _ _ _ h => h) (by rfl) (fun v hv => by go_simp) k4 ?_
          simp only [Act.put, List.setIfInBounds_toArray, List.set_cons_succ, List.set_cons_zero]
          refine takeH 9 (.agg ce.toArray) rfl (by kernel_rfl) (by kernel_rfl) (by kernel_rfl) (fun _ _ _ h => h) (by rfl) (fun v hv => by go_simp) k4 ?_
          simp only [Act.put, List.setIfInBounds_toArray, List.set_cons_succ, List.set_cons_zero]
          refine takeH 10 (.int .i64 0) rfl (by kernel_rfl) (by kernel_rfl) (by kernel_rfl) (fun _ _ _ h => h) (by rfl) (fun v hv => by go_simp) k4 ?_
          simp only [Act.put, List.setIfInBounds_toArray, List.set_cons_succ, List.set_cons_zero]
          have hs8 := hid (show (storeVar 38 ⟨w3.heap.size, 0, none⟩ (.agg ce.toArray)).run Tryd.prog (w4) = .ok () ((w4).setRow (w3.heap.size) ce.toArray) from st_en (h3.at (heap_alloc_at rfl) (fun hm => by have := hSHb.out _ hm; omega)) lce.out oce.out)
          have hkq := hid (show Kept [w3.heap.size] (w4) ((w4).setRow (w3.heap.size) ce.toArray) from (Kept.refl _ _).setRow (fun _ => by simp) _)
          have hkS := (k4).trans' hkq.out (fun x hx hm => by simp at hm; omega)
          refine writeH 12 rfl (by kernel_rfl) (by rfl) ((w4).setRow (w3.heap.size) ce.toArray) (by have h := hs8.out; unfold execOp; simp [Act.eval, Instr.storeAt, Instr.sureAddr, Sem.run_bind, Sem.run_pure, Result.andThen_ok, h]) hkS ?_
          simp only [Act.put, List.setIfInBounds_toArray, List.set_cons_succ, List.set_cons_zero]
          refine takeH 13 (.int .i64 0) rfl (by kernel_rfl) (by kernel_rfl) (by kernel_rfl) (fun _ _ _ h => h) (by rfl) (fun v hv => by go_simp) hkS ?_
          simp only [Act.put, List.setIfInBounds_toArray, List.set_cons_succ, List.set_cons_zero]
          refine wpAnyH_done (by kernel_rfl) ?_ _
          go_wp2_with fail
          go_meet
          exact ⟨w3.heap.size, rfl, hid (show W.heap.size ≤ w3.heap.size by omega), Or.inr ⟨hid h1, rfl, hid (setRow_heap _ _ _ _ _ _ (h3.at (heap_alloc_at rfl) (fun hm => by have := hSHb.out _ hm; omega))), hid hkS, S', lv', mv', hid ((h4).kept hkq.out (fun x hx => by simp; rintro rfl; exact (fun hx => (h5 _ hx).elim (fun h => by have := hSHb.out _ h; omega) (fun h => by have := zb; omega)) hx)), hid (fun x hx => (h5 x hx).imp (fun h => h) (fun h => by omega)), hid (fun hx => (h5 _ hx).elim (fun h => by have := hSHb.out _ h; omega) (fun h => by have := zb; omega))⟩⟩
    · simp only [Act.put, List.setIfInBounds_toArray, List.set_cons_succ, List.set_cons_zero]
      have kb0 : Kept [] W (W.drew.alloc (.cells zEnC.toArray 38)) := (Kept.refl [] W).drew.alloc _
      have hqb : (W.drew.alloc (.cells zEnC.toArray 38)).heap[W.heap.size]? = some (.cells zEnC.toArray 38 (0, 0)) := heap_alloc_at rfl
      refine callE 4 rfl (by kernel_rfl) (by rfl) 20 #[.slice a k c] (by go_simp) (fun vv v => vv = .agg ci.toArray ∧ Kept [] (W.drew.alloc (.cells zEnC.toArray 38)) v) (fun _ _ h => (kb0.trans h.2).wider (by simp)) ((hof.out _ kb0).mono fun e w' h => ⟨_, h.1, rfl, h.2⟩) ?_
      rintro vv w3 ⟨rfl, k3b⟩
      simp only [Act.put, List.setIfInBounds_toArray, List.set_cons_succ, List.set_cons_zero]
      have k3 := kb0.trans k3b
      have zb : W.heap.size < w3.heap.size := by have h1 := k3b.size; have h2 : (W.drew.alloc (.cells zEnC.toArray 38)).heap.size = W.heap.size + 1 := (by show (W.heap.push _).size = _; simp); omega
      have hq3 := k3b.at hqb (by simp)
      refine callE 7 rfl (by kernel_rfl) (by rfl) 19 #[.pointer (some ⟨p, 0, none⟩), .agg ci.toArray, .int .i64 (k : Int)] (by go_simp) (fun vv v => Kept SH W v ∧ ((addErr es id k ≠ 0 ∧ vv = .tuple #[.agg zEnC.toArray, .int .i64 (addErr es id k)] ∧ Kept [] w3 v) ∨ (addErr es id k = 0 ∧ vv = .tuple #[.agg (addE es id k).cells.toArray, .int .i64 0] ∧ Kept SH w3 v ∧ ∃ S' lv' mv', Hd v S' p 31 [bv] (es ++ [addE es id k]) lv' mv' ∧ ∀ x ∈ S', x ∈ SH ∨ w3.heap.size ≤ x))) (fun _ _ h => h.1) ((hadd.out w3 (k3)).mono fun e w' h => by
        rcases h with ⟨h1, rfl, h3⟩ | ⟨h1, rfl, h3, h4⟩
        · exact ⟨_, rfl, ((k3).trans h3).wider (by simp), Or.inl ⟨h1, rfl, h3⟩⟩
        · exact ⟨_, rfl, ((k3).wider (by simp)).trans h3, Or.inr ⟨h1, rfl, h3, h4⟩⟩) ?_
      rintro vv w4 ⟨k4, ⟨h1, rfl, h3⟩ | ⟨h1, rfl, h3, S', lv', mv', h4, h5⟩⟩
      · simp only [Act.put, List.setIfInBounds_toArray, List.set_cons_succ, List.set_cons_zero]
        have z4 := k4.size
        refine takeH 8 (.tuple #[.agg zEnC.toArray, .int .i64 (addErr es id k)]) rfl (by kernel_rfl) (by kernel_rfl) (by kernel_rfl) (fun _ _ _ h => h) (by rfl) (fun v hv => by go_simp) k4 ?_
        simp only [Act.put, List.setIfInBounds_toArray, List.set_cons_succ, List.set_cons_zero]
        refine takeH 9 (.agg zEnC.toArray) rfl (by kernel_rfl) (by kernel_rfl) (by kernel_rfl) (fun _ _ _ h => h) (by rfl) (fun v hv => by go_simp) k4 ?_
        simp only [Act.put, List.setIfInBounds_toArray, List.set_cons_succ, List.set_cons_zero]
        refine takeH 10 (.int .i64 (addErr es id k)) rfl (by kernel_rfl) (by kernel_rfl) (by kernel_rfl) (fun _ _ _ h => h) (by rfl) (fun v hv => by go_simp) k4 ?_
        simp only [Act.put, List.setIfInBounds_toArray, List.set_cons_succ, List.set_cons_zero]
        have hs8 := hid (show (storeVar 38 ⟨W.heap.size, 0, none⟩ (.agg zEnC.toArray)).run Tryd.prog (w4) = .ok () ((w4).setRow (W.heap.size) zEnC.toArray) from st_en (h3.at hq3 (by simp)) zEnC_len zEnC_one)
        have hkq := hid (show Kept [W.heap.size] (w4) ((w4).setRow (W.heap.size) zEnC.toArray) from (Kept.refl _ _).setRow (fun _ => by simp) _)
        have hkS := (k4).trans' hkq.out (fun x hx hm => by simp at hm; omega)
        refine writeH 12 rfl (by kernel_rfl) (by rfl) ((w4).setRow (W.heap.size) zEnC.toArray) (by have h := hs8.out; unfold execOp; simp [Act.eval, Instr.storeAt, Instr.sureAddr, Sem.run_bind, Sem.run_pure, Result.andThen_ok, h]) hkS ?_
        simp only [Act.put, List.setIfInBounds_toArray, List.set_cons_succ, List.set_cons_zero]
        refine takeH 13 (.int .i64 (addErr es id k)) rfl (by kernel_rfl) (by kernel_rfl) (by kernel_rfl) (fun _ _ _ h => h) (by rfl) (fun v hv => by go_simp) hkS ?_
        simp only [Act.put, List.setIfInBounds_toArray, List.set_cons_succ, List.set_cons_zero]
        refine wpAnyH_done (by kernel_rfl) ?_ _
        go_wp2_with fail
        go_meet
        exact ⟨W.heap.size, rfl, hid (show W.heap.size ≤ W.heap.size by omega), Or.inl ⟨hid h1, rfl, hid (setRow_heap _ _ _ _ _ _ (h3.at hq3 (by simp))), hid (((k3).trans h3).trans' hkq.out (fun x hx hm => by simp at hm; omega))⟩⟩
      · simp only [Act.put, List.setIfInBounds_toArray, List.set_cons_succ, List.set_cons_zero]
        have z4 := k4.size
        rw [← hce.out]
        refine takeH 8 (.tuple #[.agg ce.toArray, .int .i64 0]) rfl (by kernel_rfl) (by kernel_rfl) (by kernel_rfl) (fun _ _ _ h => h) (by rfl) (fun v hv => by go_simp) k4 ?_
        simp only [Act.put, List.setIfInBounds_toArray, List.set_cons_succ, List.set_cons_zero]
        refine takeH 9 (.agg ce.toArray) rfl (by kernel_rfl) (by kernel_rfl) (by kernel_rfl) (fun _ _ _ h => h) (by rfl) (fun v hv => by go_simp) k4 ?_
        simp only [Act.put, List.setIfInBounds_toArray, List.set_cons_succ, List.set_cons_zero]
        refine takeH 10 (.int .i64 0) rfl (by kernel_rfl) (by kernel_rfl) (by kernel_rfl) (fun _ _ _ h => h) (by rfl) (fun v hv => by go_simp) k4 ?_
        simp only [Act.put, List.setIfInBounds_toArray, List.set_cons_succ, List.set_cons_zero]
        have hs8 := hid (show (storeVar 38 ⟨W.heap.size, 0, none⟩ (.agg ce.toArray)).run Tryd.prog (w4) = .ok () ((w4).setRow (W.heap.size) ce.toArray) from st_en (h3.at hq3 (fun hm => by have := hSHb.out _ hm; omega)) lce.out oce.out)
        have hkq := hid (show Kept [W.heap.size] (w4) ((w4).setRow (W.heap.size) ce.toArray) from (Kept.refl _ _).setRow (fun _ => by simp) _)
        have hkS := (k4).trans' hkq.out (fun x hx hm => by simp at hm; omega)
        refine writeH 12 rfl (by kernel_rfl) (by rfl) ((w4).setRow (W.heap.size) ce.toArray) (by have h := hs8.out; unfold execOp; simp [Act.eval, Instr.storeAt, Instr.sureAddr, Sem.run_bind, Sem.run_pure, Result.andThen_ok, h]) hkS ?_
        simp only [Act.put, List.setIfInBounds_toArray, List.set_cons_succ, List.set_cons_zero]
        refine takeH 13 (.int .i64 0) rfl (by kernel_rfl) (by kernel_rfl) (by kernel_rfl) (fun _ _ _ h => h) (by rfl) (fun v hv => by go_simp) hkS ?_
        simp only [Act.put, List.setIfInBounds_toArray, List.set_cons_succ, List.set_cons_zero]
        refine wpAnyH_done (by kernel_rfl) ?_ _
        go_wp2_with fail
        go_meet
        exact ⟨W.heap.size, rfl, hid (show W.heap.size ≤ W.heap.size by omega), Or.inr ⟨hid h1, rfl, hid (setRow_heap _ _ _ _ _ _ (h3.at hq3 (fun hm => by have := hSHb.out _ hm; omega))), hid hkS, S', lv', mv', hid ((h4).kept hkq.out (fun x hx => by simp; rintro rfl; exact (fun hx => (h5 _ hx).elim (fun h => by have := hSHb.out _ h; omega) (fun h => by have := zb; omega)) hx)), hid (fun x hx => (h5 x hx).imp (fun h => h) (fun h => by omega)), hid (fun hx => (h5 _ hx).elim (fun h => by have := hSHb.out _ h; omega) (fun h => by have := zb; omega))⟩⟩
  case rest =>
    obtain ⟨q, rfl, hqw, ⟨h1, rfl, heq, kE⟩ | ⟨h1, rfl, heq, kS, S', lv', mv', h4, h5, hqS⟩⟩ := hcut
    · skip
      obtain ⟨er, her⟩ : ∃ er, er = addErr es id k := ⟨_, rfl⟩
      have HER := hid her
      have here : (er == 0) = false := by have := h1.out; rw [← her] at this; simpa using this
      rw [← her]
      clear her
      have KE := hid (KW.out.trans kE.out)
      have hr5 := hid (show wc.heap[w.heap.size]? = some (.cells zEnC.toArray 38 (0, 0)) from kE.out.at hres.out (by simp))
      go_wp2_with (first | (refine wpList_load_cells rfl 38 (.tmp 6) rfl ⟨q, 0, none⟩ rfl zEnC _ Tryd.underlying38 rfl zi.out (ld_en heq.out) ?_) | (refine wpList_store_at rfl 38 (.tmp 4) (.tmp 30) rfl w.heap.size 0 zEnC rfl rfl 38 zEnC hr5.out zi.out zf.out zEnC_one ?_; refine halt ?_))
      rw [zsp.out]
      refine Halt.mk ?_
      have hb := hid (show (wc.setRow w.heap.size zEnC.toArray).heap[w.heap.size]? = some (.cells zEnC.toArray 38 (0, 0)) from setRow_heap _ _ _ _ _ _ hr5.out)
      have hk7 := hid (show Kept [w.heap.size] wc (wc.setRow w.heap.size zEnC.toArray) from (Kept.refl _ _).setRow (fun _ => by simp) _)
      generalize wc.setRow w.heap.size zEnC.toArray = wz at *
      go_wp2
      refine bodyPost_ret (v := .tuple #[.agg zEnC.toArray, .int .i64 er]) (results_cell2 Tryd.results6 rfl rfl (run_ld_en hb.out zEnC_len)) rfl (Or.inl ⟨h1.out, by rw [HER.out], KE.out.trans' hk7.out (fun x hx hm => by simp at hm; omega)⟩)
    · skip
      rename World => w5
      have KO := hid (show Kept SH w w5 from (KW.out.wider (by simp)).trans kS.out)
      have hr5 := hid (show w5.heap[w.heap.size]? = some (.cells zEnC.toArray 38 (0, 0)) from kS.out.at hres.out (fun hm => by have := hSHb.out _ hm; omega))
      have hb5 := hid (show w5.ownsRow 0 5 1 bv bs.length (bs.map B) from kS.out.owns (KW.out.owns hbv.out (by simp)) (fun g hg => hbS.out g hg))
      have hs5 := hid (hsr.out w5 KO.out)
      have hbw := hid (show ∀ g, bv.ownBlock = some g → g < w.heap.size from fun g hg => ownsA_lt hbv.out hg)
      have hSb := hid (show ∀ g, bv.ownBlock = some g → g ∉ S' from fun g hg hm => by
        rcases h5.out g hm with h | h
        · exact hbS.out g hg h
        · have h1 := hbw.out g hg; have h2 := KW.out.size; omega)
      have hrow5 := hid h4.out.row
      have c3 : w5.cell? ⟨p, 3, none⟩ = some bv := by rw [cell_of_row w5 _ 3 _ _ _ hrow5.out]; rfl
      have hpb := hid (show bv.ownBlock ≠ some p from fun e => hSb.out p e h4.out.hp)
      have hWz := hid (show W.heap.size = w.heap.size + 1 by rw [HW.out]; simp)
      go_wp2_with (at_builtin; refine halt ?_)
      refine Halt.mk ?_
      refine wpList_append_src _ rfl _ _ _ rfl 0 5 i0 _ 1 Tryd.underlying29 hi0 hz0 hz1 hz2 rfl bv bs.length (bs.map B) rfl hb5.out (.slice a k c) k (ys.map B) rfl hs5.out (by rw [List.length_map, hk_.out]) (B_oneCell ys) (by unfold maxLen; omega) (by omega) (Nat.zero_le _) ?_
      intro v2 w6 hown6 hgrow6 _ hf6
      have hk6 := hid (show Kept bv.ownBlock.toList w5 w6 from Kept.of_row hgrow6)
      have hrow6 := hid (heap_grown hgrow6 hrow5.out hpb.out)
      have gc6 : w6.cell? ⟨p, 3, none⟩ = some bv := by rw [cell_of_row w6 _ 3 _ _ _ hrow6.out]; rfl
      have gf6 : w6.frozen? ⟨p, 3, none⟩ = false := free_of_row hrow6.out
      obtain ⟨a2, c2, rfl⟩ := owns_slice hown6
      have HO6 := hid hown6; have HF6 := hid hf6
      obtain ⟨w7, hw7⟩ : ∃ w7, w7 = w6.setCell ⟨p, 3, none⟩ (.slice a2 (bs.length + k) c2) := ⟨_, rfl⟩
      have HW7 := hid hw7
      have hk67 := hid (show Kept [p] w6 w7 from hw7 ▸ (Kept.refl [p] w6).setCell (fun _ => by simp) _)
      have he7 := hid (show w7.heap[q]? = some (.cells ce.toArray 38 (0, 0)) from hk67.out.at (hk6.out.at heq.out (by
        rw [Option.mem_toList]; intro h; have h1 := hbw.out _ h; have h2 := hqw.out; have h3 := KW.out.size; omega)) (by have h1 := hpw.out; have h2 := hqw.out; have h3 := KW.out.size; simp; omega))
      have hr7 := hid (show w7.heap[w.heap.size]? = some (.cells zEnC.toArray 38 (0, 0)) from hk67.out.at (hk6.out.at hr5.out (by
        rw [Option.mem_toList]; intro h; have h1 := hbw.out _ h; omega)) (by have h1 := hpw.out; simp; omega))
      clear hw7 hown6 hgrow6 hf6 c3
      go_wp2_with (first | (rw [← HW7.out]; refine wpList_load_cells rfl 38 (.tmp 6) rfl ⟨q, 0, none⟩ rfl ce _ Tryd.underlying38 rfl ice.out (ld_en he7.out) ?_) | (refine wpList_store_at rfl 38 (.tmp 4) (.tmp 30) rfl w.heap.size 0 ce rfl rfl 38 zEnC hr7.out ice.out fce.out oce.out ?_; refine halt ?_))
      rw [sce.out]
      refine Halt.mk ?_
      have hb := hid (show (w7.setRow w.heap.size ce.toArray).heap[w.heap.size]? = some (.cells ce.toArray 38 (0, 0)) from setRow_heap _ _ _ _ _ _ hr7.out)
      have hk7 := hid (show Kept [w.heap.size] w7 (w7.setRow w.heap.size ce.toArray) from (Kept.refl _ _).setRow (fun _ => by simp) _)
      generalize w7.setRow w.heap.size ce.toArray = wz at *
      go_wp2
      refine bodyPost_ret (v := .tuple #[.agg ce.toArray, .int .i64 0]) (results_cell2 Tryd.results6 rfl rfl (run_ld_en hb.out lce.out)) rfl (Or.inr ⟨h1.out, by rw [hce.out], ?_, ?_⟩)
      · refine (((KO.out.wider (fun x _ hm => hSH.out x hm)).trans' hk6.out (fun x hx hm => ?_)).trans' hk67.out (fun x hx hm => ?_)).trans' hk7.out (fun x hx hm => ?_)
        · rw [Option.mem_toList] at hm; exact hbvS.out x hm
        · simp at hm; subst hm; exact hSH.out _ hpSH.out
        · simp at hm; omega
      · have hlow := hid (show ∀ x ∈ S', x < w5.heap.size from h4.out.bound)
        have hnw := hid (show ∀ x ∈ S', x ≠ w.heap.size from fun x hx => by
          rcases h5.out x hx with h | h
          · have := hSHb.out x h; omega
          · have := hWz.out; omega)
        have hd6 := h4.out.kept hk6.out (fun x hx => by rw [Option.mem_toList]; exact fun h => hSb.out x h hx)
        have hd7 := hd6.more (.slice a2 (bs.length + k) c2)
        rw [← HW7.out] at hd7
        have hdz := hd7.kept hk7.out (fun x hx => by simp; exact hnw.out x hx)
        have hown := hk7.out.owns (hk67.out.owns HO6.out (fun g hg => by
          simp; rintro rfl
          rcases HF6.out _ hg with h | h
          · exact hpb.out h
          · have := hpw.out; have := KO.out.size; omega)) (fun g hg => by
          simp; rintro rfl
          rcases HF6.out _ hg with h | h
          · have := hbw.out _ h; omega
          · have := lt_of_block heq.out; have := hqw.out; have := hWz.out; omega)
        refine ⟨S' ++ (Value.slice a2 (bs.length + k) c2).ownBlock.toList, ⟨S', _, lv', mv', hdz, by rw [List.length_append, List.map_append, hk_.out]; exact hown, fun g hg => ⟨by simp [hg], fun hm => ?_⟩, fun x hx => by simp [hx], by rw [List.length_append, ends_snoc, hk_.out, hbl.out]; rfl⟩, fun x hx => ?_⟩
        · rcases HF6.out g hg with h | h
          · exact hSb.out g h hm
          · have := hlow.out g hm; omega
        · rw [List.mem_append, Option.mem_toList] at hx
          rcases hx with hx | hx
          · rcases h5.out x hx with h | h
            · exact Or.inl (hSH.out x h)
            · exact Or.inr (by have h1 := hWz.out; omega)
          · rcases HF6.out x hx with h | h
            · exact Or.inl (hbvS.out x h)
            · exact Or.inr (by have := KO.out.size; omega)
end Go.Proofs.YtembincggkpflaaDoor


/- A head's bytes; a pack's. -/
namespace Go.Proofs.YtembincggkpflaaDoor
open Go.RowKit Go.Lib Go.Maps

/-- What a head tells of its blobs; all of its bytes; a pack's bytes. -/
def encB (es : List En) : List UInt8 := es.flatMap fun e => e.id ++ numB e.len 4
def headB (es : List En) : List UInt8 := numB es.length 4 ++ encB es
def packB (es : List En) (bs : List UInt8) : List UInt8 := bs ++ sealed 80 (headB es) ++ numB (sealed 80 (headB es)).length 4
theorem encB_len (es : List En) (h : ∀ e ∈ es, e.id.length = 32) : (encB es).length = es.length * 36 := by
  induction es with
  | nil => rfl
  | cons e r ih =>
    unfold encB at *
    rw [List.flatMap_cons, List.length_append, ih (fun x hx => h x (by simp [hx])), List.length_append, h e (by simp), numB_len, List.length_cons]
    omega
theorem headB_len (es : List En) (h : ∀ e ∈ es, e.id.length = 32) : (headB es).length = 4 + es.length * 36 := by
  unfold headB; rw [List.length_append, numB_len, encB_len es h]
theorem slice_arr (p : Nat) (W : World) : (Instr.sliceAt 36 (.pointer (some ⟨p, 0, none⟩)) none none none).run Tryd.prog W = .ok (.slice (some ⟨p, 0, none⟩) 32 32) W := by kernel_rfl

set_option maxRecDepth 100000 in
set_option maxHeartbeats 8000000 in
theorem h_encode (S : List Nat) (p T : Nat) (more : List Value) (es : List En) (lv mv : Value) (w : World) (h : Hd w S p T more es lv mv) :
    Calls Tryd.prog 26 #[.pointer (some ⟨p, 0, none⟩)] w fun e w' => ∃ a c, e = .returned (.slice a (headB es).length c) ∧ Kept [] w w' ∧ w'.ownsRow w.heap.size 5 1 (.slice a (headB es).length c) (headB es).length ((headB es).map B) := by
  obtain ⟨a, c, rfl⟩ := owns_slice h.list
  have hids := hid h.rt.ids
  have HD := hid (fun v (hv : Kept [] w v) => h.kept hv (by simp))
  have hlen := hid (fun e (he : e ∈ es) => show e.len ≤ 65536 from by
    obtain ⟨i, hi⟩ := List.mem_iff_getElem?.1 he
    exact (h.rt i e hi).2.2)
  have hmany := h.many
  have hrow := hid h.list
  obtain ⟨m, hm'⟩ : ∃ m, m = es.length := ⟨_, rfl⟩
  have hm := hid hm'
  rw [← hm'] at hmany
  have hw0 := hid (Wv.new w)
  have wu : IntKind.u64.wrap (m : Int) = (m : Int) := by rw [IntKind.wrap_u64]; omega
  have l0 := hid (show ∀ v, Kept [] w v → v.cell? ⟨p, 0, none⟩ = some (.slice a m c) from fun v hv => by rw [hm']; exact (HD.out v hv).c0)
  have hzv := zero_en
  have hend := hid (show (Ending.returned (.slice a m c)) = .returned (.slice a es.length c) by rw [hm'])
  clear h hm' hend
  have c0 := l0.out (w.alloc (.cells #[.slice none 0 0] 64)) ((Kept.refl [] w).alloc _)
  go_enter Tryd.func26, Tryd.ntmps26
  go_wp2_with fail
  refine (hw0.out.num m (by omega) 4 (by simp)).mono ?_
  rintro e w1 ⟨rfl, hw1⟩
  have HW1 := hid hw1
  have c1 := l0.out w1 hw1.kept
  clear hw1 c0
  go_wp2_with fail
  go_loopw [18] (fun t wr => ∃ i : Nat, i ≤ m ∧ t = .int .i64 i ∧ Hid (Wv w w.heap.size (numB m 4 ++ encB (es.take i)) wr)) (fun t _ => m - (intOf t).toNat)
  case atStart => exact ⟨0, Nat.zero_le _, rfl, hid (by have := HW1.out; simpa [encB, sz4] using this)⟩
  case round =>
    obtain ⟨i, hi, rfl, HV⟩ := hrel
    have hl1 := hid (show (numB m 4 ++ encB (es.take i)).length ≤ 1000000 from by
      rw [List.length_append, numB_len, encB_len _ (fun e he => hids.out e (List.mem_of_mem_take he)), List.length_take]; omega)
    by_cases hlt : i < m
    · have Hlt := hid hlt
      have hltz : (i : Int) < (m : Int) := by omega
      obtain ⟨en, hen⟩ : ∃ en, es[i]? = some en := ⟨es[i]'(by have := hm.out; omega), by simp⟩
      have h32 := hid (hids.out en (List.mem_of_getElem? hen))
      have hel := hid (hlen.out en (List.mem_of_getElem? hen))
      have htk := hid (show encB (es.take (i + 1)) = encB (es.take i) ++ (en.id ++ numB en.len 4) from by
        unfold encB; rw [List.take_add_one, hen, List.flatMap_append]; simp)
      obtain ⟨g, cap, hv, hgs⟩ : ∃ g cap, (Value.slice a m c) = .slice (some ⟨g, 0, none⟩) m cap ∧ ∀ (j : Nat) u, (es.flatMap c34)[j]? = some u → w.cell? ⟨g, j, none⟩ = some u := by
        rcases hrow.out.2 with ⟨h1, h2⟩ | ⟨g, cap, cur, h2, hb, hh, hc, hm2, _, _⟩
        · exfalso; have := hm.out; omega
        · refine ⟨g, cap, by rw [hm.out]; exact h2, fun j u hj => ?_⟩
          have h3 := hrow.out
          rw [h2] at h3
          have := h3.cells (g := g) rfl j u hj
          rwa [plain_add'] at this
      simp at hv
      obtain ⟨rfl, rfl⟩ := hv
      obtain ⟨ce, hce⟩ : ∃ ce, ce = en.cells := ⟨_, rfl⟩
      have lce := hid (show ce.length = 34 by rw [hce]; exact en_size h32.out)
      have ice := hid (show (Tryd.prog.info? 38).map (·.size) = some ce.length by rw [lce.out]; exact en_info)
      have fce := hid (show 0 + ce.length ≤ zEnC.length by rw [lce.out, zEnC_len]; decide)
      have sce := hid (splice36 zEnC ce (by rw [lce.out, zEnC_len]))
      have oce := hid (show ∀ v ∈ ce, v.oneCell' = true by rw [hce]; exact en_one _)
      have hreads := hid (show ∀ (j : Nat) v, ce[j]? = some v → wr.cell? ((⟨g, i * 34, none⟩ : Addr).add j) = some v from fun j v hj => by
        have hj34 : j < 34 := by have := (List.getElem?_eq_some_iff.1 hj).1; rw [lce.out] at this; exact this
        have hc := hgs (i * 34 + j) v (by rw [flat_get c34 34 c34_len es i j en hen hj34, c34_of h32.out, ← hce]; exact hj)
        rw [plain_add]
        exact (HV.out.kept.cell (World.block_lt_of_cell? w _ hc) (by simp)).trans hc)
      have hc33 := hid (show ce[33]? = some (.int .i64 (en.len : Int)) from by rw [hce]; unfold En.cells; rw [List.getElem?_append_right (by simp [h32.out])]; simp [h32.out])
      have hcid := hid (show ∀ (j : Nat) b, en.id[j]? = some b → ce[j]? = some (B b) from fun j b hj => by
        rw [hce]; unfold En.cells; rw [List.getElem?_append_left (by have := (List.getElem?_eq_some_iff.1 hj).1; simpa using this), List.getElem?_map, hj]; rfl)
      clear hce hgs hen hlt
      go_wp2_with (refine wpList_load_cells rfl 38 (.tmp 20) rfl ⟨g, i * 34, none⟩ rfl ce _ Tryd.underlying38 rfl ice.out hreads.out ?_; refine halt ?_)
      refine Halt.mk ?_
      go_wp2_with (refine wpList_store_at rfl 38 (.tmp 5) (.tmp 21) rfl wr.heap.size 0 ce rfl rfl 38 zEnC (heap_alloc_at rfl) ice.out fce.out oce.out ?_; refine halt ?_)
      rw [sce.out]
      refine Halt.mk ?_
      obtain ⟨wb, hwb⟩ : ∃ wb : World, wb = (wr.alloc (.cells zEnC.toArray 38)).setRow wr.heap.size ce.toArray := ⟨_, rfl⟩
      rw [← hwb]
      have hkr := hid (show Kept [] wr wb by rw [hwb]; exact ((Kept.refl [] wr).alloc _).setRow (fun h => absurd h (Nat.lt_irrefl _)) _)
      have hqb := hid (show wb.heap[wr.heap.size]? = some (.cells ce.toArray 38 (0, 0)) from by rw [hwb]; exact setRow_heap _ _ _ _ _ _ (heap_alloc_at rfl))
      obtain ⟨_, hk0, v, hwv, hvv⟩ := HV.out
      have hvlt := hid (show ∀ g, v.ownBlock = some g → g < wr.heap.size from fun g hg => ownsA_lt hwv.2 hg)
      have hwb' := hid (hwv.kept hkr.out (by simp) (by simp))
      have hvv := hid hvv; have hk0 := hid hk0
      have hpr := hid (show w.heap.size < wr.heap.size from lt_of_block hwv.1)
      clear hwv
      have hsrc := hid (show SrcB wb (.slice (some ⟨wr.heap.size, 0, none⟩) 32 32) en.id from Or.inr ⟨⟨wr.heap.size, 0, none⟩, 32, by rw [h32.out], fun j u hj => by
        rw [List.getElem?_map] at hj
        obtain ⟨b, hb, rfl⟩ := Option.map_eq_some_iff.1 hj
        exact ld_en hqb.out j _ (hcid.out j b hb)⟩)
      have hsl := slice_arr wr.heap.size
      clear hwb hreads
      go_wp2_with fail
      refine (wraw w.heap.size v _ _ en.id wb hwb'.out hsrc.out (by have := hl1.out; omega) (by rw [h32.out]; omega)).mono ?_
      rintro e w4 ⟨rfl, v4, hk4, hw4, hf4⟩
      have hbx := hid (show ∀ U, U = (w.heap.size :: v.ownBlock.toList) → wr.heap.size ∉ U from fun U e => by
        subst e
        simp only [List.mem_cons, Option.mem_toList, not_or]
        exact ⟨by have := hpr.out; omega, fun h => by have := hvlt.out _ h; omega⟩)
      have hq4 := hid (hk4.at hqb.out (hbx.out _ rfl))
      have c33 : w4.cell? ⟨wr.heap.size, 33, none⟩ = some (.int .i64 (en.len : Int)) := by rw [cell_of_row w4 _ 33 _ _ _ hq4.out]; simpa using hc33.out
      have wl : IntKind.u64.wrap (en.len : Int) = (en.len : Int) := by have := hel.out; rw [IntKind.wrap_u64]; omega
      have hl4 := hid (show (numB m 4 ++ encB (es.take i) ++ en.id).length ≤ 1000000000 by have := hl1.out; rw [List.length_append, h32.out]; omega)
      have hs4 := hid (show wr.heap.size < w4.heap.size from lt_of_block hq4.out)
      have HK4 := hid hk4; have HW4 := hid hw4; have HF4 := hid hf4
      clear hk4 hw4 hf4 hsl
      go_wp2_with fail
      refine (wnum w.heap.size en.len 4 (by have := hel.out; omega) v4 _ w4 HW4.out hl4.out).mono ?_
      rintro e w5 ⟨rfl, v5, hk5, hw5, hf5⟩
      have hrel := hid (show Wv w w.heap.size (numB m 4 ++ encB (es.take (i + 1))) w5 from by
        refine ⟨Nat.le_refl _, ((hk0.out.trans hkr.out).trans' HK4.out (fun x hx hm => ?_)).trans' hk5 (fun x hx hm => ?_), v5, ?_, fun g hg => ?_⟩
        · simp only [List.mem_cons, Option.mem_toList] at hm
          rcases hm with rfl | hm
          · omega
          · have := hvv.out _ hm; omega
        · simp only [List.mem_cons, Option.mem_toList] at hm
          rcases hm with rfl | hm
          · omega
          · rcases HF4.out _ hm with h | h
            · have := hvv.out _ h; omega
            · have := hkr.out.size; have := hpr.out; omega
        · rw [htk.out, ← List.append_assoc, ← List.append_assoc]; exact hw5
        · rcases hf5 g hg with h | h
          · rcases HF4.out _ h with h | h
            · exact hvv.out _ h
            · have := hkr.out.size; have := hpr.out; omega
          · have := hs4.out; have := hpr.out; omega)
      have hin := Hlt.out
      clear hk5 hw5 hf5 c33
      go_wp2
      go_roundw
      case rel => exact ⟨i + 1, hin, by go_num, hrel⟩
      case measure => simp [intOf]; omega
    · obtain rfl : i = m := by omega
      have hfin := hid (show numB i 4 ++ encB (es.take i) = headB es from by unfold headB; rw [hm.out, List.take_length])
      have hv := HV.out
      rw [hfin.out] at hv hl1
      have HV := hid hv
      clear hv hlt
      go_wp2_with fail
      refine (HV.out.done (by have := hl1.out; omega)).mono ?_
      rintro e w5 ⟨a5, c5, rfl, k5, o5⟩
      have K5 := hid k5; have O5 := hid o5
      clear k5 o5
      go_wp2
      go_ret
      exact ⟨a5, c5, rfl, K5.out, O5.out⟩
end Go.Proofs.YtembincggkpflaaDoor


/- A builder's Done, Len, Size; a pack's name. -/
namespace Go.Proofs.YtembincggkpflaaDoor
open Go.RowKit Go.Lib Go.Maps

theorem Bd.bounds {w : World} {S : List Nat} {p : Nat} {es : List En} {bs : List UInt8} (h : Bd w S p es bs) : bs.length ≤ 1048576 ∧ es.length ≤ 4096 ∧ (∀ e ∈ es, e.id.length = 32) ∧ bs.length = ends es ∧ sizeP es ≤ 1048576 := by
  obtain ⟨SH, bv, lv, mv, h1, h2, h3, h4, h5⟩ := h
  exact ⟨by rw [h5]; have := h1.size; unfold sizeP at this; omega, h1.many, h1.rt.ids, h5, h1.size⟩

set_option maxRecDepth 100000 in
set_option maxHeartbeats 4000000 in
theorem b_done (S : List Nat) (p : Nat) (es : List En) (bs : List UInt8) (w : World) (h : Bd w S p es bs) (ht : Tab w) :
    Calls Tryd.prog 11 #[.pointer (some ⟨p, 0, none⟩)] w (Gives w [] (packB es bs)) := by
  have hbd := h.bounds
  have H := hid (fun v (hv : Kept [] w v) => h.kept hv (by simp))
  obtain ⟨SH, bv, lv, mv, hd, hb, h3, h4, h5⟩ := h
  obtain ⟨ab, cb, rfl⟩ := owns_slice hb
  have hhl := headB_len es hbd.2.2.1
  have hhl2 : (headB es).length ≤ 200000 := by have := hbd.2.1; omega
  have hsl : (sealed 80 (headB es)).length ≤ 200100 := by unfold sealed; rw [withSum_len]; simp; omega
  have hbl := hbd.1
  have Ht := hid ht
  have henc := hid (h_encode SH p _ _ es lv mv w hd)
  have hbs := hid (fun v (hv : Kept [] w v) => (hd.kept hv (by simp)).row)
  have hbb := hid (fun v (hv : Kept [] w v) => ownsRow_src (hv.owns hb (by simp)))
  obtain ⟨pk, hpk'⟩ : ∃ pk, pk = packB es bs := ⟨_, rfl⟩
  have hpk := hid (show pk = (bs ++ sealed 80 (headB es)) ++ numB (sealed 80 (headB es)).length 4 from hpk')
  rw [← hpk']
  clear hpk'
  clear hd hb h3 h4 h5 ht hhl hbd
  go_enter Tryd.func11, Tryd.ntmps11
  go_wp2_with fail
  refine henc.out.mono ?_
  rintro e w1 ⟨a1, c1, rfl, k1, o1⟩
  have hseal := hid (show Calls Tryd.prog 25 #[.int .u8 80, .slice a1 (headB es).length c1] w1 (Gives w1 [] (sealed 80 (headB es))) from seal_any 80 _ (headB es) w1 (ownsRow_src o1) (Ht.out.kept k1 (by simp)) (by omega))
  have K1 := hid k1
  clear k1 o1 henc
  go_wp2_with fail
  refine hseal.out.mono ?_
  rintro e w2 ⟨a2, c2, rfl, k2, o2⟩
  have K2 := hid (K1.out.trans k2)
  obtain ⟨sl, hsl'⟩ : ∃ sl, sl = sealed 80 (headB es) := ⟨_, rfl⟩
  rw [← hsl'] at o2 hsl hpk ⊢
  have O2 := hid (fun v (hv : Kept [] w2 v) => ownsRow_src (hv.owns o2 (by simp)))
  have hw0 := hid (Wv.new w2)
  have g3 : (w2.alloc (.cells #[.slice none 0 0] 64)).cell? ⟨p, 3, none⟩ = some (.slice ab bs.length cb) := by
    rw [cell_of_row _ _ 3 _ _ _ (hbs.out _ (K2.out.alloc _))]; rfl
  have wu : IntKind.u64.wrap (sl.length : Int) = (sl.length : Int) := by rw [IntKind.wrap_u64]; omega
  clear k2 o2 hseal hsl'
  go_wp2_with fail
  refine (hw0.out.raw _ bs (hbb.out _ (K2.out.trans hw0.out.kept)) (by simp) (by omega)).mono ?_
  rintro e w3 ⟨rfl, hw3⟩
  have HW3 := hid hw3
  clear hw3 g3 hw0
  go_wp2_with fail
  refine (HW3.out.raw _ sl (O2.out _ HW3.out.kept) (by simp; omega) (by omega)).mono ?_
  rintro e w4 ⟨rfl, hw4⟩
  have HW4 := hid hw4
  clear hw4 HW3
  go_wp2_with fail
  refine (HW4.out.num sl.length (by omega) 4 (by simp; omega)).mono ?_
  rintro e w5 ⟨rfl, hw5⟩
  have HW5 := hid hw5
  rw [List.nil_append, sz4, ← hpk.out] at HW5
  have hpl : pk.length ≤ 2000000 := by rw [hpk.out]; simp [numB_len]; omega
  clear hw5 HW4
  go_wp2_with fail
  refine (HW5.out.done (by omega)).mono ?_
  rintro e w6 ⟨a6, c6, rfl, k6, o6⟩
  have K6 := hid (K2.out.trans k6); have O6 := hid (owns_lower o6 K2.out.size)
  clear k6 o6
  go_wp2
  go_ret
  exact ⟨a6, c6, rfl, K6.out, O6.out⟩

set_option maxRecDepth 100000 in
theorem b_len (S : List Nat) (p : Nat) (es : List En) (bs : List UInt8) (w : World) (h : Bd w S p es bs) :
    Calls Tryd.prog 8 #[.pointer (some ⟨p, 0, none⟩)] w fun e w' => e = .returned (.int .i64 (es.length : Int)) ∧ Kept [] w w' := by
  obtain ⟨SH, bv, lv, mv, hd, hb, h3, h4, h5⟩ := h
  obtain ⟨a, c, rfl⟩ := owns_slice hd.list
  have c0 := hd.c0
  generalize es.length = m at *
  clear hd hb h3 h4 h5
  go_enter Tryd.func8, Tryd.ntmps8
  go_wp2
  go_ret
  exact ⟨rfl, Kept.refl _ _⟩
set_option maxRecDepth 100000 in
theorem b_size (S : List Nat) (p : Nat) (es : List En) (bs : List UInt8) (w : World) (h : Bd w S p es bs) :
    Calls Tryd.prog 9 #[.pointer (some ⟨p, 0, none⟩)] w fun e w' => e = .returned (.int .i64 (sizeP es : Int)) ∧ Kept [] w w' := by
  obtain ⟨SH, bv, lv, mv, hd, hb, h3, h4, h5⟩ := h
  have hs := hid (h_size SH p _ _ es lv mv w hd)
  clear hd hb h3 h4 h5
  go_enter Tryd.func9, Tryd.ntmps9
  go_wp2_with fail
  refine hs.out.mono ?_
  rintro e w1 ⟨rfl, k1⟩
  have K1 := hid k1
  clear k1 hs
  go_wp2
  go_ret
  exact ⟨rfl, K1.out⟩
/-- The name of bytes in a store. -/
def packN (ys : List UInt8) : List UInt8 := [112, 97, 99, 107, 47] ++ hexOf (Sha.sum ys)
theorem packN_len (ys : List UInt8) : (packN ys).length = 69 := by unfold packN; simp [hexOf_len, Sha.sum_len]
set_option maxRecDepth 100000 in
theorem p_name (a : Option Addr) (c : Nat) (ys : List UInt8) (w : World) (ht : Tabs w) (hy : SrcB w (.slice a ys.length c) ys) (hc : ys.length ≤ c) (hc2 : c ≤ 9223372036854775807) (hl : ys.length ≤ 500000000) :
    Calls Tryd.prog 14 #[.slice a ys.length c] w fun e w' => e = .returned (.string (S (packN ys))) ∧ Kept [] w w' := by
  have hr : Reads w a ys := by
    rcases hy with ⟨h1, h2, h3⟩ | ⟨x, c', h1, h2⟩
    · have : ys = [] := List.eq_nil_of_length_eq_zero h2
      subst this
      exact ⟨fun _ => rfl, fun ad _ j u hu => by simp at hu⟩
    · simp at h1
      obtain ⟨rfl, rfl⟩ := h1
      exact ⟨fun h => by simp at h, fun ad had => by simp at had; subst had; exact h2⟩
  have ho := hid (of_any a c ys w ht hr hc hc2 hl)
  have hsl := Sha.sum_len ys
  have hadd : ∀ W : World, (Op.stringOp .add ⟨#[112, 97, 99, 107, 47]⟩ ⟨(hexOf (Sha.sum ys)).toArray⟩).run Tryd.prog W = .ok (.string (S (packN ys))) W := fun W => by
    have h := run_string_add_lists (P := Tryd.prog) W [112, 97, 99, 107, 47] (hexOf (Sha.sum ys)) (by decide) (by rw [hexOf_len, hsl]; decide)
    exact h
  have htx := hid (fun W => sha_text_any (Sha.sum ys) hsl W)
  clear ht hy hr hsl
  generalize packN ys = nm at *
  generalize Sha.sum ys = sm at *
  go_enter Tryd.func14, Tryd.ntmps14
  go_wp2_with fail
  refine ho.out.mono ?_
  rintro e w1 ⟨rfl, k1⟩
  go_wp2_with fail
  refine (htx.out w1).mono ?_
  rintro e w2 ⟨rfl, k2⟩
  have K2 := hid (k1.trans k2)
  clear k1 k2 ho htx
  go_wp2
  go_ret
  exact ⟨rfl, K2.out⟩
end Go.Proofs.YtembincggkpflaaDoor


/- A blob of a pack's bytes. -/
namespace Go.Proofs.YtembincggkpflaaDoor
open Go.RowKit Go.Lib Go.Maps

/-- A place as it may be handed in, whatever its numbers. -/
def plC (id : List UInt8) (off len : Int) : List Value := id.map B ++ [.int .i64 off, .int .i64 len]
theorem plC_len {id : List UInt8} (h : id.length = 32) (off len : Int) : (plC id off len).length = 34 := by simp [plC, h]
/-- What is told of a place; its bytes. -/
def blobErr (xs id : List UInt8) (off len : Int) : Int := if off < 0 ∨ len < 0 ∨ (xs.length : Int) - off < len then 23 else if Sha.sum ((xs.drop off.toNat).take len.toNat) ≠ id then 35 else 0
def blobAt (xs : List UInt8) (off len : Int) : List UInt8 := (xs.drop off.toNat).take len.toNat
theorem clone_own (a : Option Addr) (c : Nat) (ys : List UInt8) (w : World) (h : SrcB w (.slice a ys.length c) ys) (hl : ys.length ≤ 100000000) :
    Calls Tryd.prog 37 #[.slice a ys.length c] w fun e w' => ∃ a' c', e = .returned (.slice a' ys.length c') ∧ Kept [] w w' ∧ w'.ownsRow w.heap.size 5 1 (.slice a' ys.length c') ys.length (ys.map B) := by
  obtain ⟨i0, hi0, hz0, hz1, hz2⟩ := info_parts info_u8
  rcases h with ⟨h1, h2, _⟩ | ⟨x, c', h1, hc⟩
  · have hb : ys = [] := List.eq_nil_of_length_eq_zero h2
    subst hb
    simp at h1
    obtain ⟨rfl, rfl⟩ := h1
    have heq := fun (w : World) => run_eql_slice_nil (P := Tryd.prog) w 29 5 none 0 0 0 0 Tryd.underlying29
    go_enter Tryd.func37, Tryd.ntmps37
    go_wp2
    go_ret
    exact ⟨none, 0, rfl, Kept.refl _ _, World.ownsRow_nil _ _ _ 1⟩
  · simp at h1
    obtain ⟨rfl, rfl⟩ := h1
    have hsrc := hid (show SrcB w (.slice (some x) ys.length c) ys from Or.inr ⟨x, c, rfl, hc⟩)
    clear hc
    have heq := fun (w : World) => run_eql_slice_nil (P := Tryd.prog) w 29 5 (some x) ys.length c 0 0 Tryd.underlying29
    go_enter Tryd.func37, Tryd.ntmps37
    go_wp2_with (at_builtin; refine halt ?_)
    refine Halt.mk ?_
    refine wpList_append_src _ rfl _ _ _ rfl w.heap.size 5 i0 _ 1 Tryd.underlying29 hi0 hz0 hz1 hz2 rfl (.slice (some ⟨w.heap.size, 0, none⟩) 0 0) ([] : List UInt8).length (([] : List UInt8).map B) rfl (RowAt.fresh w).2.2.2 (.slice (some x) ys.length c) ys.length (ys.map B) rfl (hsrc.out.kept ((Kept.refl [] w).alloc _) (by simp)) (by simp) (B_oneCell ys) ?_ ?_ ?_ ?_
    · unfold maxLen; simp; omega
    · simp; omega
    · simp
    intro v2 w2 hown2 hgrow2 _ hf2
    obtain ⟨a2, c2, rfl⟩ := owns_slice hown2
    have hr := hid (RowAt.step (ys := ys) (RowAt.fresh w) (Kept.refl [] _) (by simpa using hown2) hgrow2)
    clear hown2 hgrow2 hf2
    simp only [List.length_nil, Nat.zero_add] at hr ⊢
    go_wp2
    go_ret
    have hown := hr.out.2.2.2
    simp only [List.nil_append] at hown
    exact ⟨a2, c2, rfl, hr.out.1, hown⟩

/-- What Blob answers. -/
def Blobbed (w : World) (xs id : List UInt8) (off len : Int) (e : Ending) (w' : World) : Prop :=
  Kept [] w w' ∧ ((blobErr xs id off len ≠ 0 ∧ e = .returned (.tuple #[.slice none 0 0, .int .i64 (blobErr xs id off len)])) ∨
    (blobErr xs id off len = 0 ∧ ∃ a c, e = .returned (.tuple #[.slice a (blobAt xs off len).length c, .int .i64 0]) ∧ w'.ownsRow w.heap.size 5 1 (.slice a (blobAt xs off len).length c) (blobAt xs off len).length ((blobAt xs off len).map B)))

set_option maxRecDepth 100000 in
set_option maxHeartbeats 8000000 in
theorem p_blob_far (a : Option Addr) (c : Nat) (xs id : List UInt8) (off len : Int) (w : World) (h32 : id.length = 32) (hl : xs.length ≤ 100000000)
    (ho : -9223372036854775808 ≤ off ∧ off ≤ 9223372036854775807) (hn : -9223372036854775808 ≤ len ∧ len ≤ 9223372036854775807) (hbad : off < 0 ∨ len < 0 ∨ (xs.length : Int) - off < len) :
    Calls Tryd.prog 17 #[.slice a xs.length c, .agg (plC id off len).toArray] w (Blobbed w xs id off len) := by
  have he := hid (show blobErr xs id off len = 23 by unfold blobErr; rw [if_pos hbad])
  obtain ⟨cp, hcp⟩ : ∃ cp, cp = plC id off len := ⟨_, rfl⟩
  have g32 : (w.alloc (.cells cp.toArray 38)).cell? ⟨w.heap.size, 32, none⟩ = some (.int .i64 off) := by
    rw [cell_of_row _ _ 32 _ _ _ (heap_alloc_at rfl), hcp]; simp [plC, h32]
  have g33 : (w.alloc (.cells cp.toArray 38)).cell? ⟨w.heap.size, 33, none⟩ = some (.int .i64 len) := by
    rw [cell_of_row _ _ 33 _ _ _ (heap_alloc_at rfl), hcp]; simp [plC, h32]
  have K := hid (show Kept [] w (w.alloc (.cells cp.toArray 38)) from (Kept.refl [] w).alloc _)
  obtain ⟨n, hn'⟩ : ∃ n, n = xs.length := ⟨_, rfl⟩
  rw [← hcp]
  rw [← hn'] at hbad hl ⊢
  clear hcp hn'
  by_cases q1 : off < 0
  · clear hbad
    go_enter Tryd.func17, Tryd.ntmps17
    go_wp2
    go_ret2
    exact ⟨K.out, Or.inl ⟨by rw [he.out]; decide, by rw [he.out]; rfl⟩⟩
  · by_cases q2 : len < 0
    · clear hbad
      go_enter Tryd.func17, Tryd.ntmps17
      go_wp2
      go_ret2
      exact ⟨K.out, Or.inl ⟨by rw [he.out]; decide, by rw [he.out]; rfl⟩⟩
    · obtain ⟨d, hd⟩ : ∃ d : Int, d = (n : Int) - off := ⟨_, rfl⟩
      have w1 : IntKind.i64.wrap ((n : Int) - off) = d := by rw [IntKind.wrap_i64]; omega
      have q3 : d < len := by rcases hbad with h | h | h <;> omega
      clear hbad hd
      go_enter Tryd.func17, Tryd.ntmps17
      go_wp2
      go_ret2
      exact ⟨K.out, Or.inl ⟨by rw [he.out]; decide, by rw [he.out]; rfl⟩⟩

theorem elem_u8p : Tryd.prog.elem 29 = 5 := by simp [Program.elem, Tryd.underlying29]
theorem add_add' (x : Addr) (i j : Nat) : (x.add i).add j = x.add (i + j) := by
  unfold Addr.add
  by_cases hi : i = 0
  · subst hi; simp
  · by_cases hj : j = 0
    · subst hj; simp [hi]
    · simp [hi, hj, Nat.add_assoc]
/-- Bytes that stand in bytes. -/
theorem slice_part (a : Option Addr) (xs : List UInt8) (c o l : Nat) (h : o + l ≤ xs.length) (hc : xs.length ≤ c) (hn : a = none → c = 0) :
    ∃ sa sc, (∀ W, (Instr.sliceAt 29 (.slice a xs.length c) (some (.int .i64 (o : Int))) (some (.int .i64 ((o : Int) + (l : Int)))) none).run Tryd.prog W = .ok (.slice sa l sc) W) ∧ l ≤ sc ∧ sc ≤ c ∧ ∀ W, SrcB W (.slice a xs.length c) xs → SrcB W (.slice sa l sc) ((xs.drop o).take l) := by
  have hs : ∀ W, (sizeOf 5).run Tryd.prog W = .ok 1 W := fun W => by kernel_rfl
  have e2 : ((o : Int) + (l : Int)).toNat = o + l := by omega
  cases a with
  | none =>
    have hc0 := hn rfl
    subst hc0
    obtain ⟨rfl, rfl, rfl⟩ : o = 0 ∧ l = 0 ∧ xs = [] := ⟨by omega, by omega, List.eq_nil_of_length_eq_zero (by omega)⟩
    refine ⟨none, 0, fun W => ?_, by omega, by omega, fun W hW => by simpa using hW⟩
    rw [run_sliceAt_slice W 29 _ _ _ _ (by simp [Program.elem, Tryd.underlying29])]
    rw [run_slice_lh W 29 _ _ _ (by simp [Program.elem, Tryd.underlying29]) .i64 .i64 _ _ (by simp) (by simp) (by simp), elem_u8p, hs]
    simp [Result.andThen, sliced, Addr.add]
  | some ad =>
    refine ⟨some (if c = o then ad else ad.add o), c - o, fun W => ?_, by omega, by omega, fun W hW => ?_⟩
    · rw [run_sliceAt_slice W 29 _ _ _ _ (by simp [Program.elem, Tryd.underlying29])]
      rw [run_slice_lh W 29 _ _ _ (by simp [Program.elem, Tryd.underlying29]) .i64 .i64 (o : Int) ((o : Int) + (l : Int)) (by omega) (by omega) (by omega), elem_u8p, hs]
      simp [Result.andThen, sliced, e2]
      split <;> simp_all
    · rcases hW with ⟨h1, _⟩ | ⟨ad', c', h1, h2⟩
      · simp at h1
      · simp at h1
        obtain ⟨rfl, rfl⟩ := h1
        refine Or.inr ⟨_, _, by rw [show ((xs.drop o).take l).length = l by simp; omega], fun j u hj => ?_⟩
        by_cases hco : c = o
        · exfalso
          have hj2 := (List.getElem?_eq_some_iff.1 hj).1
          simp at hj2; omega
        · rw [if_neg hco]
          have hj2 : j < l := by have := (List.getElem?_eq_some_iff.1 hj).1; simp at this; omega
          rw [List.getElem?_map, List.getElem?_take, if_pos hj2, List.getElem?_drop] at hj
          have h3 := h2 (o + j) u (by rw [List.getElem?_map]; exact hj)
          rw [add_add']; exact h3

set_option maxRecDepth 100000 in
set_option maxHeartbeats 8000000 in
theorem p_blob_near (a : Option Addr) (c : Nat) (xs id : List UInt8) (o l : Nat) (w : World) (ht : Tabs w) (h32 : id.length = 32) (hl : xs.length ≤ 100000000) (hin : o + l ≤ xs.length) (hc : xs.length ≤ c) (hc2 : c ≤ 9223372036854775807) (hnn : a = none → c = 0)
    (hsrc : ∀ v, Kept [] w v → SrcB v (.slice a xs.length c) xs) :
    Calls Tryd.prog 17 #[.slice a xs.length c, .agg (plC id (o : Int) (l : Int)).toArray] w (Blobbed w xs id (o : Int) (l : Int)) := by
  obtain ⟨sa, sc, hsl, hls, hsc, hsr⟩ := slice_part a xs c o l hin hc hnn
  obtain ⟨bb, hbb⟩ : ∃ bb, bb = (xs.drop o).take l := ⟨_, rfl⟩
  have hbl : bb.length = l := by rw [hbb]; simp; omega
  have hba := hid (show blobAt xs (o : Int) (l : Int) = bb by rw [hbb]; simp [blobAt])
  have he := hid (show blobErr xs id (o : Int) (l : Int) = if Sha.sum bb ≠ id then 35 else 0 from by
    unfold blobErr; rw [if_neg (by omega), hbb]; simp)
  obtain ⟨cp, hcp⟩ : ∃ cp, cp = plC id (o : Int) (l : Int) := ⟨_, rfl⟩
  obtain ⟨ci, hci⟩ : ∃ ci, ci = id.map B := ⟨_, rfl⟩
  obtain ⟨cm, hcm⟩ : ∃ cm, cm = (Sha.sum bb).map B := ⟨_, rfl⟩
  obtain ⟨W, hW⟩ : ∃ W, W = w.alloc (.cells cp.toArray 38) := ⟨_, rfl⟩
  have hrow := hid (show W.heap[w.heap.size]? = some (.cells cp.toArray 38 (0, 0)) by rw [hW]; exact heap_alloc_at rfl)
  have KW := hid (show Kept [] w W by rw [hW]; exact (Kept.refl [] w).alloc _)
  have g32 : W.cell? ⟨w.heap.size, 32, none⟩ = some (.int .i64 (o : Int)) := by
    rw [cell_of_row _ _ 32 _ _ _ hrow.out, hcp]; simp [plC, h32]
  have g33 : W.cell? ⟨w.heap.size, 33, none⟩ = some (.int .i64 (l : Int)) := by
    rw [cell_of_row _ _ 33 _ _ _ hrow.out, hcp]; simp [plC, h32]
  have lid := hid (show ∀ v, Kept [] W v → (loadVar 36 ⟨w.heap.size, 0, none⟩).run Tryd.prog v = .ok (.agg ci.toArray) v from fun v hv =>
    run_loadVar_cells v _ _ ci _ Tryd.underlying36 rfl (by rw [hci, List.length_map, h32]; exact ninfo32) (fun j u hj => by
      rw [plain_add', cell_of_row v _ j _ _ _ (hv.at hrow.out (by simp)), hcp]
      rw [hci] at hj
      unfold plC
      rw [List.getElem?_toArray, List.getElem?_append_left (by have := (List.getElem?_eq_some_iff.1 hj).1; simpa using this)]; exact hj))
  have hof := hid (show ∀ v, Kept [] W v → Calls Tryd.prog 20 #[.slice sa l sc] v fun e w' => e = .returned (.agg cm.toArray) ∧ Kept [] v w' from fun v hv => by
    have h1 := hsr v (hsrc v (KW.out.trans hv))
    rw [← hbb] at h1
    have h2 := of_any sa sc bb v (ht.kept (KW.out.trans hv) (by simp) (by simp)) (reads_src (by rw [hbl]; exact h1)) (by rw [hbl]; exact hls) (by omega) (by rw [hbl]; omega)
    rw [hbl] at h2; rw [hcm]; exact h2)
  have hcl := hid (show ∀ v, Kept [] W v → Calls Tryd.prog 37 #[.slice sa l sc] v (fun e w' => ∃ a' c', e = .returned (.slice a' l c') ∧ Kept [] v w' ∧ w'.ownsRow v.heap.size 5 1 (.slice a' l c') l (bb.map B)) from fun v hv => by
    have h1 := hsr v (hsrc v (KW.out.trans hv))
    rw [← hbb] at h1
    have h2 := clone_own sa sc bb v (by rw [hbl]; exact h1) (by rw [hbl]; omega)
    rwa [hbl] at h2)
  obtain ⟨q, hq⟩ : ∃ q, q = !decide (Sha.sum bb = id) := ⟨_, rfl⟩
  have heq := hid (show ∀ v : World, (Op.equalIn 10000 36 (.agg cm.toArray) (.agg ci.toArray)).run Tryd.prog v = .ok (!q) v from fun v => by rw [hcm, hci, hq, Bool.not_not]; exact id_equal _ _ (Sha.sum_len bb) h32 v)
  have HQ := hid hq
  obtain ⟨d, hd⟩ : ∃ d : Int, d = (xs.length : Int) - (o : Int) := ⟨_, rfl⟩
  have w1 : IntKind.i64.wrap ((xs.length : Int) - (o : Int)) = d := by rw [hd, IntKind.wrap_i64]; omega
  have w1b : wrap64 ((xs.length : Int) - (o : Int)) = d := by unfold wrap64; omega
  have q3 : decide (d < (l : Int)) = false := by simp; omega
  have q1 : decide ((o : Int) < 0) = false := by simp
  have q2 : decide ((l : Int) < 0) = false := by simp
  have w2 : IntKind.i64.wrap ((o : Int) + (l : Int)) = (o : Int) + (l : Int) := by rw [IntKind.wrap_i64]; omega
  have HW := hid hW; have HBL := hid hbl
  rw [hW] at g32 g33
  rw [← hcp]
  unfold Blobbed
  rw [hba.out]
  clear hcp hci hcm hW hq hd hsrc hsr hbb ht hin
  generalize xs.length = n at *
  go_enter Tryd.func17, Tryd.ntmps17
  go_upto_region 4 with fail
  rw [← HW.out]
  clear g32 g33
  go_cut [38] (fun s wx => s = .bool q ∧ Hid (Kept [] W wx))
  case first =>
    refine wp_region_held_drew (S := Kept [] W) (by kernel_rfl) (Kept.refl [] W).drew (fun hH => ?_)
    refine takeH 0 (.slice sa l sc) rfl (by kernel_rfl) (by kernel_rfl) (by kernel_rfl) (fun _ _ _ h => h) (by rfl) (fun v hv => by go_simp) hH ?_
    simp only [Act.put, List.setIfInBounds_toArray, List.set_cons_succ, List.set_cons_zero]
    refine takeH 2 (.pointer (some ⟨w.heap.size, 0, none⟩)) rfl (by kernel_rfl) (by kernel_rfl) (by kernel_rfl) (fun _ _ _ h => h) (by rfl) (fun v hv => by go_simp) hH ?_
    simp only [Act.put, List.setIfInBounds_toArray, List.set_cons_succ, List.set_cons_zero]
    refine takeH 3 (.agg ci.toArray) rfl (by kernel_rfl) (by kernel_rfl) (by kernel_rfl) (fun _ _ _ h => h) (by rfl) (fun v hv => by have h := lid.out v hv; unfold execOp; simp [Instr.loadAt, Instr.sureAddr, Sem.run_bind, Sem.run_pure, Result.andThen_ok, Act.eval, h]) hH ?_
    simp only [Act.put, List.setIfInBounds_toArray, List.set_cons_succ, List.set_cons_zero]
    refine callH 1 rfl (by kernel_rfl) (by rfl) 20 #[.slice sa l sc] (by go_simp) (.agg cm.toArray) hH (fun hS => (hof.out _ hS).mono fun e w' h => ⟨h.1, hS.trans h.2⟩) ?_
    clear hH
    intro vv hH
    simp only [Act.put, List.setIfInBounds_toArray, List.set_cons_succ, List.set_cons_zero]
    refine takeH 4 (.bool q) rfl (by kernel_rfl) (by kernel_rfl) (by kernel_rfl) (fun _ _ _ h => h) (by rfl) (fun v hv => by have h := heq.out v; go_simp) hH ?_
    simp only [Act.put, List.setIfInBounds_toArray, List.set_cons_succ, List.set_cons_zero]
    refine wpAnyH_done (by kernel_rfl) ?_ _
    go_wp2_with fail
    go_meet
    exact ⟨rfl, hid hH⟩
  case rest =>
    obtain ⟨rfl, hk⟩ := hcut
    have KX := hid (KW.out.trans hk.out)
    cases q
    · have hs := of_decide_eq_true (by have := HQ.out; simpa using this.symm : decide (Sha.sum bb = id) = true)
      rw [if_neg (by simpa using hs)] at he
      have hc := hid (hcl.out wc hk.out)
      clear hs
      go_wp2_with fail
      refine hc.out.mono ?_
      rintro e w4 ⟨a4, c4, rfl, k4, b4⟩
      have K4 := hid (KX.out.trans k4); have B4 := hid (owns_lower b4 KX.out.size)
      clear k4 b4 hc
      go_wp2
      go_ret2
      exact ⟨K4.out, Or.inr ⟨he.out, a4, c4, by rw [HBL.out]; rfl, by rw [HBL.out]; exact B4.out⟩⟩
    · have hs := of_decide_eq_false (by have := HQ.out; simpa using this.symm : decide (Sha.sum bb = id) = false)
      rw [if_pos hs] at he
      clear hs
      go_wp2
      go_ret2
      exact ⟨KX.out, Or.inl ⟨by rw [he.out]; decide, by rw [he.out]; rfl⟩⟩
end Go.Proofs.YtembincggkpflaaDoor


/- pack.sealedHead: a head, as it stands in a pack's bytes. -/
namespace Go.Proofs.YtembincggkpflaaDoor
open Go.RowKit Go.Lib Go.Maps

/-- Behind the reading of the last four bytes: the number's cell. -/
def ShQ (pn : Nat) (xs : List UInt8) (n : Int) (rest : List UInt8) (W' : World) : Prop :=
  (4 ≤ xs.length ∧ n = 0 ∧ rest = xs.drop 4 ∧ W'.heap[pn]? = some (.cells #[.int .i64 ((numOf (xs.take 4) : Nat) : Int)] 3 (0, 0))) ∨ (xs.length < 4 ∧ n = 20)
theorem ShQ.kept {pn x : Nat} {xs : List UInt8} {n : Int} {rest : List UInt8} {W W' : World} (h : ShQ pn xs n rest W) (hx : pn ≠ x) (hk : Kept [x] W W') : ShQ pn xs n rest W' := by
  rcases h with ⟨h1, h2, h3, h4⟩ | h
  · exact Or.inl ⟨h1, h2, h3, hk.at h4 (by simpa using hx)⟩
  · exact Or.inr h
theorem enters_sh1 : Enters 50 := fun args w => by simp [go_sem]

set_option maxRecDepth 100000 in
set_option maxHeartbeats 2000000 in
theorem sh_read (rb pn : Nat) (a : Option Addr) (c : Nat) (xs : List UInt8) (W : World) (h : Rd W rb a c xs) (hp : W.heap[pn]? = some (.cells #[.int .i64 0] 3 (0, 0))) (hne : pn ≠ rb) (hab : ∀ x, a = some x → x.block ≠ pn) :
    Calls Tryd.prog 50 #[.pointer (some ⟨rb, 0, none⟩), .pointer (some ⟨pn, 0, none⟩)] W (Threw (ReadOn rb a [pn] W (ShQ pn xs))) := by
  by_cases h4 : 4 ≤ xs.length
  · have hr := hid (rnum_ok rb a c xs 4 (by rw [sz4]; exact h4) W h)
    have hnx := hid (h.next (m := 4) h4)
    have hk1 := hid (next_kept W rb a c xs 4)
    rw [sz4] at hr
    obtain ⟨N, hN⟩ : ∃ N, N = numOf (xs.take 4) := ⟨_, rfl⟩
    have hNl : N < 4294967296 := by have := numOf_lt (xs.take 4); rw [← hN] at this; simp at this; have h5 : min 4 xs.length = 4 := by omega
                                    rw [h5] at this; omega
    rw [← hN] at hr
    obtain ⟨W1, hW1⟩ : ∃ W1, W1 = nextW W rb a c xs 4 := ⟨_, rfl⟩
    rw [← hW1] at hr hnx hk1
    have hp1 := hid (hk1.out.at hp (by simpa using hne))
    have gc : W1.cell? ⟨pn, 0, none⟩ = some (.int .i64 0) := by rw [cell_of_row W1 _ 0 _ _ _ hp1.out]; rfl
    have gf : W1.frozen? ⟨pn, 0, none⟩ = false := free_of_row hp1.out
    have wN : IntKind.i64.wrap (N : Int) = (N : Int) := by rw [IntKind.wrap_i64]; omega
    have HN := hid hN; have H4 := hid h4; have Hab := hid hab; have Hne := hid hne
    clear hW1 h hp hN h4 hab hne
    go_enter Tryd.func50, Tryd.ntmps50
    go_wp2_with fail
    refine hr.out.mono ?_
    rintro e w1 ⟨rfl, rfl⟩
    obtain ⟨W2, hW2⟩ : ∃ W2, W2 = W1.setCell ⟨pn, 0, none⟩ (.int .i64 (N : Int)) := ⟨_, rfl⟩
    have hk2 := hid (show Kept [pn] W1 W2 from hW2 ▸ (Kept.refl [pn] W1).setCell (fun _ => by simp) _)
    have hp2 := hid (show W2.heap[pn]? = some (.cells #[.int .i64 (N : Int)] 3 (0, 0)) from by
      have := Go.heap_setCell_same W1 pn 0 _ _ (.int .i64 (N : Int)) hp1.out
      rw [hW2]; simpa using this)
    have HW2 := hid hW2
    clear hW2
    go_wp2
    go_end0
    rw [← HW2.out]
    refine Or.inl ⟨rfl, behind a c 4, c - 4, xs.drop 4, hnx.out.kept hk2.out (by simpa using fun e => Hne.out e.symm) (fun x hx => ?_), ?_, fun x hx => ?_, Or.inl ⟨H4.out, rfl, rfl, by rw [← HN.out]; exact hp2.out⟩⟩
    · obtain ⟨z, hz, e⟩ := behind_block x hx
      rw [e]; simpa using Hab.out z hz
    · exact (hk1.out.wider (fun x _ hm => by simp at hm ⊢; simp [hm])).trans (hk2.out.wider (fun x _ hm => by simp at hm ⊢; simp [hm]))
    · obtain ⟨z, hz, e⟩ := behind_block x hx
      exact ⟨z, hz, e⟩
  · have hr := hid (rnum_short rb a c xs 4 (by rw [sz4]; omega) W h)
    have H := hid h; have H4 := hid h4
    clear h h4 hp hab hne
    go_enter Tryd.func50, Tryd.ntmps50
    go_wp2_with fail
    refine hr.out.mono ?_
    rintro e w1 ⟨⟨older, rfl, hcalm⟩, rfl⟩
    exact ⟨rfl, Or.inr ⟨20, ⟨older, rfl, hcalm⟩, a, c, xs, H.out, Kept.refl _ _, fun x hx => ⟨x, hx, rfl⟩, Or.inr ⟨by have := H4.out; omega, rfl⟩⟩⟩

/-- The last bytes of bytes. -/
theorem slice_tail8 (a : Option Addr) (xs : List UInt8) (c o : Nat) (h : o ≤ xs.length) (hc : xs.length ≤ c) (hn : a = none → c = 0) :
    ∃ sa sc, (∀ W, (Instr.sliceAt 29 (.slice a xs.length c) (some (.int .i64 (o : Int))) none none).run Tryd.prog W = .ok (.slice sa (xs.length - o) sc) W) ∧ ∀ W, SrcB W (.slice a xs.length c) xs → SrcB W (.slice sa (xs.drop o).length sc) (xs.drop o) := by
  have hs : ∀ W, (sizeOf 5).run Tryd.prog W = .ok 1 W := fun W => by kernel_rfl
  cases a with
  | none =>
    have hc0 := hn rfl
    subst hc0
    obtain ⟨rfl, rfl⟩ : o = 0 ∧ xs = [] := ⟨by omega, List.eq_nil_of_length_eq_zero (by omega)⟩
    refine ⟨none, 0, fun W => ?_, fun W hW => by simpa using hW⟩
    rw [run_sliceAt_slice W 29 _ _ _ _ (by simp [Program.elem, Tryd.underlying29])]
    rw [run_slice_l W 29 _ _ _ (by simp [Program.elem, Tryd.underlying29]) .i64 (((0 : Nat) : Int)) (by simp) (by simp), elem_u8p, hs]
    simp [Result.andThen, sliced, Addr.add]
  | some ad =>
    refine ⟨some (if c = o then ad else ad.add o), c - o, fun W => ?_, fun W hW => ?_⟩
    · rw [run_sliceAt_slice W 29 _ _ _ _ (by simp [Program.elem, Tryd.underlying29])]
      rw [run_slice_l W 29 _ _ _ (by simp [Program.elem, Tryd.underlying29]) .i64 (o : Int) (by omega) (by omega), elem_u8p, hs]
      simp [Result.andThen, sliced]
      split <;> simp_all
    · rcases hW with ⟨h1, _⟩ | ⟨ad', c', h1, h2⟩
      · simp at h1
      · simp at h1
        obtain ⟨rfl, rfl⟩ := h1
        refine Or.inr ⟨_, _, rfl, fun j u hj => ?_⟩
        by_cases hco : c = o
        · exfalso
          have hj2 := (List.getElem?_eq_some_iff.1 hj).1
          simp at hj2; omega
        · rw [if_neg hco]
          rw [List.getElem?_map, List.getElem?_drop] at hj
          have h3 := h2 (o + j) u (by rw [List.getElem?_map]; exact hj)
          rw [add_add']; exact h3

/-- What is told of bytes' head; where it stands. -/
def shNum (xs : List UInt8) : Nat := numOf (xs.drop (xs.length - 4))
def shErr (xs : List UInt8) : Int := if xs.length < 4 then 20 else if xs.length - 4 < shNum xs then 20 else 0
def shOf (xs : List UInt8) : List UInt8 := (xs.drop (xs.length - 4 - shNum xs)).take (shNum xs)
def ShAns (w : World) (a : Option Addr) (c : Nat) (xs : List UInt8) (e : Ending) (w' : World) : Prop :=
  Kept [] w w' ∧ ((shErr xs ≠ 0 ∧ e = .returned (.tuple #[.slice none 0 0, .int .i64 20])) ∨
    (shErr xs = 0 ∧ ∃ sa sc, e = .returned (.tuple #[.slice sa (shOf xs).length sc, .int .i64 0]) ∧ ∀ W, SrcB W (.slice a xs.length c) xs → SrcB W (.slice sa (shOf xs).length sc) (shOf xs)))

set_option maxRecDepth 100000 in
set_option maxHeartbeats 8000000 in
theorem sh_any (a : Option Addr) (c : Nat) (xs : List UInt8) (w : World) (hsrc : SrcB w (.slice a xs.length c) xs) (hc : xs.length ≤ c) (hn : a = none → c = 0) (hl : xs.length ≤ 100000000) :
    Calls Tryd.prog 34 #[.slice a xs.length c] w (ShAns w a c xs) := by
  have hmf : ∀ (fn : Fn) (first cap : Array Value) (w : World), (Instr.makeFunc fn first cap).run Tryd.prog w = .ok (.func fn first cap) w := fun _ _ _ _ => rfl
  obtain ⟨en, hen⟩ : ∃ en, en = xs.length - 4 := ⟨_, rfl⟩
  obtain ⟨sa, sc, hsl, hsr⟩ := slice_tail8 a xs c en (by omega) hc hn
  obtain ⟨bb, hbb⟩ : ∃ bb, bb = xs.drop en := ⟨_, rfl⟩
  have hbl : bb.length = xs.length - en := by rw [hbb]; simp
  obtain ⟨W0, hW0⟩ : ∃ W0, W0 = w.alloc (.cells #[.int .i64 0] 3) := ⟨_, rfl⟩
  have K0 := hid (show Kept [] w W0 from hW0 ▸ (Kept.refl [] w).alloc _)
  have B0 := hid (show W0.heap[w.heap.size]? = some (.cells #[.int .i64 0] 3 (0, 0)) from hW0 ▸ heap_alloc_at rfl)
  have hp0 := lt_of_block B0.out
  have hd := hid (decode_any' 50 enters_sh1 #[.pointer (some ⟨w.heap.size, 0, none⟩)] (.slice sa bb.length sc) bb W0 (by rw [hbb]; exact hsr W0 (hsrc.kept K0.out (by simp))) (by rw [hbl]; omega) [w.heap.size] (fun x hx => by simp at hx; omega)
    (ShQ w.heap.size bb) (fun n rest W W' x hq hx he hk => hq.kept (by omega) hk)
    (fun rb a' c' W hk hrb hab hrd => sh_read rb w.heap.size a' c' bb W hrd (hk.at B0.out (by simp)) (by omega) (fun x hx => by have := (hab x hx).1; omega)))
  have HW0 := hid hW0; have HBB := hid hbb; have HBL := hid hbl; have HEN := hid hen
  have hpz := hid hp0
  rw [hbl] at hd
  have hnum := hid (show 4 ≤ xs.length → shNum xs = numOf (bb.take 4) from fun h => by unfold shNum; rw [hbb, hen, List.take_of_length_le (by simp; omega)])
  have hmid := hid (fun (h : en - shNum xs + shNum xs ≤ xs.length) => slice_part a xs c (en - shNum xs) (shNum xs) h hc hn)
  have hwn := hid (show ∀ z : Int, z = (xs.length : Int) - 4 → IntKind.i64.wrap ((xs.length : Int) - 4) = z from fun z h => by rw [IntKind.wrap_i64]; omega)
  unfold ShAns
  have he := hid (show shErr xs = if xs.length < 4 then 20 else if xs.length - 4 < shNum xs then 20 else 0 from rfl)
  obtain ⟨N, hN⟩ : ∃ N, N = shNum xs := ⟨_, rfl⟩
  have hNl := hid (show N < 4294967296 by
    rw [hN]; unfold shNum
    have h1 := numOf_lt (xs.drop (xs.length - 4))
    have h2 : (xs.drop (xs.length - 4)).length ≤ 4 := by simp; omega
    exact Nat.lt_of_lt_of_le h1 (Nat.le_trans (Nat.pow_le_pow_right (by decide) h2) (by decide)))
  have HN := hid hN
  have hof := hid (show shOf xs = (xs.drop (xs.length - 4 - N)).take N by rw [hN]; rfl)
  rw [← hN] at hnum hmid he
  have hcl := hid (show ∀ (a : Option Addr) (c n : Nat), (Ending.returned (.tuple #[.slice none 0 0, .int .i64 20])) = .returned (.tuple #[.slice none 0 0, .int .i64 20]) from fun _ _ _ => rfl)
  obtain ⟨nx, hnx⟩ : ∃ nx, nx = xs.length := ⟨_, rfl⟩
  have HNX := hid hnx
  rw [← hnx] at hwn he hd hnum hmid hen hl hc hsl ⊢
  clear hsrc hW0 hbb hbl hsr hN hnx hp0 hcl
  go_enter Tryd.func34, Tryd.ntmps34
  go_upto_region 1 with fail
  go_cut [4] (fun s wx => s = .int .i64 (en : Int) ∧ wx = w)
  case first =>
    by_cases h4 : nx < 4
    · obtain ⟨z, hz⟩ : ∃ z : Int, z = (nx : Int) - 4 := ⟨_, rfl⟩
      have w1 := hwn.out z hz
      have q1 : z < 0 := by omega
      have q2 : ¬ (0 : Int) < z := by omega
      have q3 : max z 0 = 0 := by omega
      have q4 : max 0 z = 0 := by omega
      obtain rfl : en = 0 := by omega
      clear hz h4 hen
      go_wp2_with fail
      go_meet
      exact ⟨rfl, rfl⟩
    · by_cases h5 : nx = 4
      · have w1 := hwn.out 0 (by omega)
        obtain rfl : en = 0 := by omega
        clear h4 h5 hen
        go_wp2_with fail
        go_meet
        exact ⟨rfl, rfl⟩
      · have w1 := hwn.out (en : Int) (by omega)
        have q1 : ¬ (en : Int) < 0 := by omega
        have q2 : (0 : Int) < (en : Int) := by omega
        have q3 : max (en : Int) 0 = (en : Int) := by omega
        have q4 : max 0 (en : Int) = (en : Int) := by omega
        clear h4 h5 hen
        go_wp2_with fail
        go_meet
        exact ⟨rfl, rfl⟩
  case rest =>
    obtain ⟨rfl, rfl⟩ := hcut
    clear hen
    go_wp2_with fail
    rw [← HW0.out]
    refine hd.out.mono ?_
    have hen : en = nx - 4 := by rw [HEN.out, HNX.out]
    rintro e w2 ⟨n, rest, rfl, hk2, hq⟩
    have K2 := hid (show Kept [] wc w2 from K0.out.trans' hk2 (fun x hx hm => by simp at hm; omega))
    clear hk2 hd
    rcases hq with ⟨h1, rfl, rfl, h4⟩ | ⟨h1, rfl⟩
    · have hx4 : 4 ≤ nx := by have := HBL.out; have := HNX.out; omega
      have hb4 : bb.length = 4 := by have := HBL.out; have := HNX.out; omega
      rw [if_neg (fun h => h.2 (by rw [List.drop_eq_nil_of_le (by omega)]))]
      rw [← hnum.out hx4] at h4
      have gN : w2.cell? ⟨wc.heap.size, 0, none⟩ = some (.int .i64 (N : Int)) := by rw [cell_of_row w2 _ 0 _ _ _ h4]; rfl
      rw [if_neg (by omega)] at he
      clear h1 h4 hb4
      by_cases hNe : en < N
      · have q1 : (en : Int) < (N : Int) := by omega
        rw [if_pos (by omega)] at he
        clear hNe hen
        go_wp2
        go_ret2
        exact ⟨K2.out, Or.inl ⟨by rw [he.out]; decide, rfl⟩⟩
      · have q1 : ¬ (en : Int) < (N : Int) := by omega
        rw [if_neg (by omega)] at he
        obtain ⟨ma, mc, hm1, hm2, hm3, hm4⟩ := hmid.out (by omega)
        have wd : IntKind.i64.wrap ((en : Int) - (N : Int)) = ((en - N : Nat) : Int) := by rw [IntKind.wrap_i64]; omega
        have hm5 : ∀ W, (Instr.sliceAt 29 (.slice a nx c) (some (.int .i64 ((en - N : Nat) : Int))) (some (.int .i64 (en : Int))) none).run Tryd.prog W = .ok (.slice ma N mc) W := fun W => by
          have := hm1 W
          rw [show (((en - N : Nat) : Int) + (N : Int)) = (en : Int) by omega] at this; exact this
        have hlen := hid (show (shOf xs).length = N by rw [hof.out, List.length_take, List.length_drop, ← HNX.out]; omega)
        have hM4 := hid (show ∀ W, SrcB W (.slice a xs.length c) xs → SrcB W (.slice ma (shOf xs).length mc) (shOf xs) from fun W hW => by
          rw [← HNX.out] at hW
          have := hm4 W hW
          rw [hlen.out, hof.out, ← HEN.out]; exact this)
        obtain ⟨dd, hdd⟩ : ∃ dd, dd = en - N := ⟨_, rfl⟩
        rw [← hdd] at wd hm5
        clear hNe hm1 hm2 hm3 hm4 hdd hen
        go_wp2
        go_ret2
        exact ⟨K2.out, Or.inr ⟨he.out, ma, mc, by rw [hlen.out]; rfl, by rw [HNX.out]; exact hM4.out⟩⟩
    · have hx4 : nx < 4 := by have := HBL.out; have := HNX.out; omega
      rw [if_neg (by simp)]
      rw [if_pos hx4] at he
      clear h1 hx4 hen
      go_wp2
      go_ret2
      exact ⟨K2.out, Or.inl ⟨by rw [he.out]; decide, rfl⟩⟩

end Go.Proofs.YtembincggkpflaaDoor


/- A range over an iterator that writes a block that was there ahead of it (a reader's), and yields what lies in no memory: an iterator's word, the statement's law. No program is named here. -/
namespace Go.Proofs.YtembincggkpflaaDoor
open Go.RowKit
variable {F : Fence} {n : Nat} {P : Program}

/-- An iterator's word: it writes a block that was there, and yields what lies in no memory. -/
def SeqR {α : Type} (F : Fence) (n : Nat) (P : Program) (g : Nat) (lb : Array Value) (encs : α → Array Value) (ob : Nat) (need : Nat → Prop) (Z Zp : List α → Prop) (E : World → Prop) (w : World) : Prop :=
  ∀ (l : Nat) (J Jx : List α → World → Prop) (W : World), Below w.heap.size w W →
    (∀ s A B, J s A → Kept [ob] A B → J s B) → (∀ s A B, Jx s A → Kept [ob] A B → Jx s B) →
    (∀ pre x A, J pre A → Zp (pre ++ [x]) → YieldAt F (n - 1) P l (encs x) A fun e B =>
      (e = .returned (.bool true) ∧ J (pre ++ [x]) B ∧ Keep need A B) ∨ (e = .returned (.bool false) ∧ Jx (pre ++ [x]) B)) →
    J [] W →
    CallsIn F n P g (#[.func (.yield l) #[] #[]] ++ lb) W fun e B => (∃ v, e = .returned v) ∧ ((∃ xs, Z xs ∧ J xs B ∧ E B) ∨ (∃ pre, Zp pre ∧ Jx pre B))

/-- How a round's body may be left. -/
def RPost {α : Type} (D : Nat) (need : Nat → Prop) (I Ix : List α → World → Prop) (xs : List α) (W : World) : Exit → Act → World → Prop
  | .normal, _, W' => Keep (fun k => need k ∨ k = D ∨ k = D + 1) W W' ∧ I xs W'
  | .ret, _, W' => Keep (fun k => k = D ∨ k = D + 1) W W' ∧ Ix xs W'
  | _, _, _ => False

theorem range_r {α β : Type} {g : Operand} {ps : Array Tmp} {assign body : Code} {Q : Exit → Act → World → Prop} {a : Act} {w : World} (hro : F.round = none) (h1 : 1 ≤ n) {gf : Nat} {lb : Array Value}
    (hg : a.eval g = .func (.func gf) #[] lb) (hFg : F.fn gf) (eg : ∀ args w, (callFunc gf args).run P w = .ok (.enter gf args) w)
    {encs : α → Array Value} {ob : Nat} {need : Nat → Prop} {Z Zp : List α → Prop} {E : World → Prop} (hE : ∀ A B, E A → Kept [w.heap.size, w.heap.size + 1] A B → E B) (hseq : SeqR F (n - 1) P gf lb encs ob need Z Zp E w) (hneed : ∀ k, need k → k < w.heap.size) (hob : need ob) (hps : ∀ x, (encs x).size = ps.size)
    (I Ix : List α → World → Prop)
    (hI : ∀ s A B, I s A → Kept [ob, w.heap.size, w.heap.size + 1] A B → I s B) (hIx : ∀ s A B, Ix s A → Kept [ob, w.heap.size, w.heap.size + 1] A B → Ix s B) (h0 : I [] w) (a₁ : α → β → Act) (As : α → β → World → Prop) (hAs : ∀ x p A B, As x p A → Kept [w.heap.size + 1] A B → As x p B)
    (hassign : ∀ (l : Nat) (pre : List α) (x : α) (W : World) (K : Act → World → Prop), Zp (pre ++ [x]) → w.heap.size + 1 < W.heap.size → (∀ p W', Kept [] W W' → As x p W' → K (a₁ x p) W') →
      assign.wpIn (F.inRound l) (n - 1 - 1) P (Exit.then K (fun _ _ _ => False)) { tmps := (ps.zip (encs x)).foldl (fun t (p, v) => t.setIfInBounds p v) a.tmps, defers := [] } W)
    (hbody : ∀ (l : Nat) (pre : List α) (x : α) (p : β) (W : World), I pre W → Zp (pre ++ [x]) → w.heap.size + 1 < W.heap.size → As x p W → body.wpIn (F.inRound l) (n - 1 - 1) P (RPost w.heap.size need I Ix (pre ++ [x]) W) (a₁ x p) W)
    (hdone : ∀ (xs : List α) (W : World), Z xs → I xs W → E W → W.heap[w.heap.size]? = some (.deferred (some [])) → Q .normal { a with defers := { target := .collected w.heap.size, args := #[] } :: a.defers } W)
    (hstop : ∀ (pre : List α) (W : World), Zp pre → Ix pre W → W.heap[w.heap.size]? = some (.deferred (some [])) → Code.ret.wpIn F n P Q { a with defers := { target := .collected w.heap.size, args := #[] } :: a.defers } W) :
    (Code.rangeFunc g ps assign body).wpIn F n P Q a w := by
  refine wpIn_rangeFunc fun fn hfn => ?_
  rw [hro]
  obtain ⟨D, hD⟩ : ∃ D, D = w.heap.size := ⟨_, rfl⟩
  let rc : LoopState → Option Code → Loop := fun st pe => { state := st, pending := pe, fn, tmps := a.tmps, params := ps, assign, body, defers := w.heap.size }
  obtain ⟨W1, hW1⟩ : ∃ W1, (w.alloc (.deferred (some []))).alloc (.loop (rc .ready none)) = W1 := ⟨_, rfl⟩
  have hoblt := hneed _ hob
  have hsz : W1.heap.size = w.heap.size + 2 := by rw [← hW1]; simp
  have hL : W1.heap[w.heap.size + 1]? = some (.loop (rc .ready none)) := by
    rw [← hW1]; exact heap_alloc_at (by simp)
  have hK : W1.heap[w.heap.size]? = some (.deferred (some [])) := by
    rw [← hW1]; exact heap_alloc_old (heap_alloc_at rfl)
  have hk1 : Kept [ob, w.heap.size, w.heap.size + 1] w W1 := by rw [← hW1]; exact ((Kept.refl _ w).alloc _).alloc _
  have hB1 : Below w.heap.size w W1 := by rw [← hW1]; exact ((Below.refl _ w).alloc (Nat.le_refl _) _).alloc (by simp) _
  refine ⟨w.heap.size + 1, [{ target := .collected w.heap.size, args := #[] }], W1, { target := .fn (.func gf) lb, args := #[.func (.yield (w.heap.size + 1)) #[] #[]] }, W1, gf,
    #[.func (.yield (w.heap.size + 1)) #[] #[]] ++ lb, W1, ?_, ?_, ?_, ?_, fun _ => h1, ?_⟩
  · rw [← hW1]; exact run_enterLoop_outer _ _ _ _ _
  · simp only [resolve, hg]; simp [go_sem]
  · intro f' hf'; simp [Target.leads] at hf'; subst hf'; exact hFg
  · simp [invoke, go_sem, eg]
  refine (hseq (w.heap.size + 1) (fun pre W => I pre W ∧ W.heap[w.heap.size + 1]? = some (.loop (rc .ready none)) ∧ W.heap[w.heap.size]? = some (.deferred (some [])))
    (fun pre W => Ix pre W ∧ W.heap[w.heap.size + 1]? = some (.loop (rc .done (some .ret))) ∧ W.heap[w.heap.size]? = some (.deferred (some []))) W1 hB1 ?_ ?_ ?_ ⟨hI _ _ _ h0 hk1, hL, hK⟩).mono ?_
  · rintro s A B ⟨ha, hb, hc⟩ hk
    exact ⟨hI _ _ _ ha (hk.wider (fun x _ hx => by simp at hx; simp [hx])), hk.at hb (by simp; omega), hk.at hc (by simp; omega)⟩
  · rintro s A B ⟨ha, hb, hc⟩ hk
    exact ⟨hIx _ _ _ ha (hk.wider (fun x _ hx => by simp at hx; simp [hx])), hk.at hb (by simp; omega), hk.at hc (by simp; omega)⟩
  · rintro pre x W ⟨ha, hb, hc⟩ hzp
    have hyl := run_yield (P := P) (args := encs x) hb (hps x)
    refine ⟨fn, _, assign, body, hyl, roundIn_of_wpIn hfn (hassign _ pre x W _ hzp (lt_of_block hb) (fun p Wa hka has => ⟨_, run_beginRound (hka.at hb (by simp)) rfl, ?_⟩))⟩
    have hba := hka.at hb (by simp)
    have hlt := lt_of_block hba
    obtain ⟨W2, hW2⟩ : ∃ W2, Wa.putObj (w.heap.size + 1) (.loop { rc .ready none with state := .busy }) = W2 := ⟨_, rfl⟩
    have hb2 : W2.heap[w.heap.size + 1]? = some (.loop { rc .ready none with state := .busy }) := by rw [← hW2]; exact World.putObj_heap_same hlt
    have hk2a : Kept [w.heap.size + 1] Wa W2 := by rw [← hW2]; exact kept_putObj _ _ _
    have hk2 : Kept [w.heap.size + 1] W W2 := (hka.wider (fun _ _ h => by simp at h)).trans hk2a
    have hc2 := hk2.at hc (by simp)
    have ha2 := hI _ _ _ ha (hk2.wider (fun x _ hx => by simp at hx; simp [hx]))
    rw [hW2]
    refine wpIn_mono (hbody _ pre x p W2 ha2 hzp (lt_of_block hb2) (hAs _ _ _ _ has hk2a)) ?_
    rintro e a3 W3 hp
    cases e with
    | normal =>
      obtain ⟨hk3, hi3⟩ := hp
      have hb3 := hk3.at hb2 (Or.inr (Or.inr rfl))
      have hk4 := kept_putObj W3 (w.heap.size + 1) (.loop (rc .ready none))
      refine ⟨_, _, run_endRound none hb3, .inl ⟨rfl, ⟨hI _ _ _ hi3 (hk4.wider (fun x _ hx => by simp at hx; simp [hx])), World.putObj_heap_same (lt_of_block hb3), hk4.at (hk3.at hc2 (Or.inr (Or.inl rfl))) (by simp)⟩, ?_⟩⟩
      refine Keep.trans (Keep.trans (hk2.keep fun k hk hB => ?_) (hk3.less fun k hk hB => Or.inl hB)) (hk4.keep fun k hk hB => ?_)
      · have := hneed k hB; simp; omega
      · have := hneed k hB; simp; omega
    | ret =>
      obtain ⟨hk3, hi3⟩ := hp
      have hb3 := hk3.at hb2 (Or.inr rfl)
      have hk4 := kept_putObj W3 (w.heap.size + 1) (.loop (rc .done (some .ret)))
      exact ⟨_, _, run_endRound (some .ret) hb3, .inr ⟨rfl, hIx _ _ _ hi3 (hk4.wider (fun x _ hx => by simp at hx; simp [hx])), World.putObj_heap_same (lt_of_block hb3), hk4.at (hk3.at hc2 (Or.inl rfl)) (by simp)⟩⟩
    | panic ch => exact hp.elim
    | exit _ => exact hp.elim
    | goto _ => exact hp.elim
    | outgrown => exact hp.elim
  · rintro e W2 ⟨⟨v, rfl⟩, (⟨xs, hS, ⟨hi, hl, hk⟩, hEB⟩ | ⟨pre, hSp, hi, hl, hk⟩)⟩
    · have hk4 := fun o => kept_putObj W2 (w.heap.size + 1) o
      exact ⟨none, _, run_endLoop hl (by simp [rc]), hdone xs _ hS (hI _ _ _ hi ((hk4 _).wider (fun x _ hx => by simp at hx; simp [hx]))) (hE _ _ hEB ((hk4 _).wider (fun x _ hx => by simp at hx; simp [hx]))) ((hk4 _).at hk (by simp))⟩
    · have hk4 := fun o => kept_putObj W2 (w.heap.size + 1) o
      exact ⟨some .ret, _, run_endLoop hl (by simp [rc]), hstop pre _ hSp (hIx _ _ _ hi ((hk4 _).wider (fun x _ hx => by simp at hx; simp [hx]))) ((hk4 _).at hk (by simp))⟩

end Go.Proofs.YtembincggkpflaaDoor


/- pack.told: what a head's bytes tell; within a fence. -/
namespace Go.Proofs.YtembincggkpflaaDoor
open Go.RowKit Go.Lib Go.Maps
attribute [local go_sem] Oper.semAt_some

section
variable {F : Fence} {n : Nat} {P : Program}
theorem wpListIn_load_cells {ops : Array Oper} {rest : List Oper} {o : Oper} {a : Act} {w : World} {Q : Exit → Act → World → Prop} (hgd : o.guard = none) (ty : TypeId) (x : Operand) (ho : o.op = .load ty x)
    (ad : Addr) (hx : a.eval x = .pointer (some ad)) (cs : List Value) (d : TypeDesc) (hu : P.underlying ty = some d) (hd : (match d with | .struct _ | .array _ _ => true | _ => false) = true)
    (hi : (P.info? ty).map (·.size) = some cs.length) (hc : ∀ (j : Nat) v, cs[j]? = some v → w.cell? (ad.add j) = some v)
    (h : wpListIn F n P ops Q rest (a.put o.dst (.agg cs.toArray)) w) : wpListIn F n P ops Q (o :: rest) a w := by
  refine wpListIn_plain hgd fun K hK => ?_
  unfold Oper.wpIn
  constructor
  · simp [Oper.about, ho, resolve, Target.leads, Sem.run_pure]
  · rw [Oper.semAt_plain F _ _ (by rw [ho]; intro c hc; cases hc)]
    unfold execOp
    simp only [ho, hx, Instr.loadAt, Instr.sureAddr, Sem.run_bind, Sem.run_pure, Result.andThen_ok, run_loadVar_cells w ty ad cs d hu hd hi hc]
    exact hK _ _ h
theorem wpListIn_store_at {ops : Array Oper} {rest : List Oper} {o : Oper} {a : Act} {w : World} {Q : Exit → Act → World → Prop} (hgd : o.guard = none) (ty : TypeId) (x y : Operand) (ho : o.op = .store ty x y)
    (g off : Nat) (cells : List Value) (hx : a.eval x = .pointer (some ⟨g, off, none⟩)) (hy : a.eval y = .agg cells.toArray)
    (t : TypeId) (cur : List Value) (hg : w.heap[g]? = some (.cells cur.toArray t (0, 0))) (hi : (P.info? ty).map (·.size) = some cells.length)
    (hfit : off + cells.length ≤ cur.length) (h1 : ∀ v ∈ cells, v.oneCell' = true)
    (h : wpListIn F n P ops Q rest (a.put o.dst undef) (w.setRow g (splice cur off cells).toArray)) : wpListIn F n P ops Q (o :: rest) a w := by
  refine wpListIn_plain hgd fun K hK => ?_
  unfold Oper.wpIn
  constructor
  · simp [Oper.about, ho, resolve, Target.leads, Sem.run_pure]
  · rw [Oper.semAt_plain F _ _ (by rw [ho]; intro c hc; cases hc)]
    unfold execOp
    simp only [ho, hx, hy, Instr.storeAt, Instr.sureAddr, Sem.run_bind, Sem.run_pure, Result.andThen_ok, run_storeVar_at w g off t ty cur cells hg hi hfit h1]
    exact hK _ _ h
theorem wpListIn_append_k (w : World) {ops : Array Oper} {rest : List Oper} {o : Oper} {a : Act} {Q : Exit → Act → World → Prop} (hgd : o.guard = none) (s x : Operand) (t : TypeId)
    (ho : o.op = .call { callee := .builtin .append, args := #[s, x], argTypes := #[t, t] }) (base : Nat) (e : TypeId) (i : TypeInfo) (z : Value) (size bytes : Nat) (ht : P.underlying t = some (.slice e)) (hi : P.info? e = some i) (hz : i.zero = some z)
    (hsize : i.size = size) (hby : i.bytes = bytes) (hzs : z.cells.size = size) (hsz : 0 < size) (v : Value) (k : Nat) (xs : List Value) (hs : a.eval s = v) (hown : w.ownsRow base e size v k xs)
    (sv : Value) (m : Nat) (news : List Value) (hx : a.eval x = sv) (hsrc : Src w sv m news) (hl : news.length = m * size) (h1 : ∀ u ∈ news, u.oneCell' = true)
    (h63 : k + m ≤ maxLen) (hbytes : (k + m) * bytes ≤ 140737488355328) (hbase : base ≤ w.heap.size)
    (h : ∀ v' w', w'.ownsRow base e size v' (k + m) (xs ++ news) → w.grownBy w' v.ownBlock → (∀ g, v'.ownBlock = some g → v.ownBlock = some g ∨ w.heap.size ≤ g) → wpListIn F n P ops Q rest (a.put o.dst v') w') :
    wpListIn F n P ops Q (o :: rest) a w := by
  obtain ⟨v', w', hr, h2, h3, _, h5⟩ := run_append_k (P := P) w t o.type base e i z size bytes ht hi hz hsize hby hzs hsz v k xs hown sv m news hsrc hl h1 h63 hbytes hbase
  refine wpListIn_plain hgd fun K hK => ?_
  unfold Oper.wpIn
  constructor
  · simp [Oper.about, ho, resolve, Target.leads, Sem.run_pure]
  · rw [Oper.semAt_plain F _ _ (by rw [ho]; intro c hc; cases hc)]
    simp [execOp, ho, resolve, invoke, builtin, hs, hx, hr, Result.andThen]
    exact hK _ _ (h v' w' h2 h3 h5)
end

/-- A reader of bytes that stand in block g. -/
def TRd (w : World) (rb g : Nat) (xs : List UInt8) : Prop := ∃ a c, Rd w rb a c xs ∧ (∀ x, a = some x → x.block = g) ∧ g < w.heap.size ∧ g ≠ rb
def TNeed (b rb g k : Nat) : Prop := k = b ∨ k = rb ∨ k = g
theorem TRd.keep {w w' : World} {rb g b : Nat} {xs : List UInt8} (h : TRd w rb g xs) (hk : Keep (TNeed b rb g) w w') : TRd w' rb g xs := by
  obtain ⟨a, c, h1, h2, h3, h4⟩ := h
  refine ⟨a, c, ⟨hk.at h1.here (Or.inr (Or.inl rfl)), h1.le, h1.max, h1.nil, fun x hx => ⟨(h1.src x hx).1, fun j u hj => ?_⟩, h1.plain⟩, h2, Nat.lt_of_lt_of_le h3 hk.size, h4⟩
  have h5 := (h1.src x hx).2 j u hj
  have e : (x.add j).block = g := by rw [add_block]; exact h2 x hx
  unfold World.cell? at h5 ⊢
  rw [e] at h5 ⊢
  rw [hk.block _ (Or.inr (Or.inr rfl)) h3]
  exact h5
theorem TRd.kept {w w' : World} {rb g : Nat} {S : List Nat} {xs : List UInt8} (h : TRd w rb g xs) (hk : Kept S w w') (h1 : rb ∉ S) (h2 : g ∉ S) : TRd w' rb g xs := by
  obtain ⟨a, c, q1, q2, q3, q4⟩ := h
  exact ⟨a, c, q1.kept hk h1 (fun x hx => by rw [q2 x hx]; exact h2), q2, Nat.lt_of_lt_of_le q3 hk.size, q4⟩

/-- A number read. -/
theorem TRd.num {w : World} {rb g : Nat} {xs : List UInt8} (h : TRd w rb g xs) (h4 : 4 ≤ xs.length) :
    Calls Tryd.prog 51 #[.pointer (some ⟨rb, 0, none⟩), .int .i64 4] w fun e w' => e = .returned (.int .u64 ((numOf (xs.take 4) : Nat) : Int)) ∧ Kept [rb] w w' ∧ TRd w' rb g (xs.drop 4) := by
  obtain ⟨a, c, h1, h2, h3, h5⟩ := h
  have hr := rnum_ok rb a c xs 4 (by rw [sz4]; exact h4) w h1
  rw [sz4] at hr
  refine hr.mono ?_
  rintro e w' ⟨rfl, rfl⟩
  have hk := next_kept w rb a c xs 4
  refine ⟨rfl, hk, _, _, h1.next h4, fun x hx => ?_, Nat.lt_of_lt_of_le h3 hk.size, h5⟩
  obtain ⟨y, hy, e⟩ := behind_block x hx
  rw [e]; exact h2 y hy
/-- A sum read. -/
theorem TRd.raw {w : World} {rb g : Nat} {xs : List UInt8} (h : TRd w rb g xs) (h4 : 32 ≤ xs.length) :
    Calls Tryd.prog 53 #[.pointer (some ⟨rb, 0, none⟩), .int .i64 32] w fun e w' => ∃ x, e = .returned (.slice (some x) 32 32) ∧ Kept [rb] w w' ∧ TRd w' rb g (xs.drop 32) ∧
      ∀ (j : Nat) v, ((xs.take 32).map B)[j]? = some v → w'.cell? (x.add j) = some v := by
  obtain ⟨a, c, h1, h2, h3, h5⟩ := h
  refine (raw_ok rb a c xs 32 32 (by decide) h4 w h1).mono ?_
  rintro e w' ⟨rfl, rfl⟩
  have hk := next_kept w rb a c xs 32
  cases a with
  | none => have := h1.nil rfl; have := h1.le; omega
  | some x =>
    refine ⟨x, rfl, hk, ⟨_, _, h1.next h4, fun y hy => ?_, Nat.lt_of_lt_of_le h3 hk.size, h5⟩, fun j v hj => ?_⟩
    · obtain ⟨z, hz, e⟩ := behind_block y hy
      rw [e]; exact h2 z hz
    · rw [List.getElem?_map] at hj
      obtain ⟨u, hu, rfl⟩ := Option.map_eq_some_iff.1 hj
      have hu2 : xs[j]? = some u := by
        rw [List.getElem?_take] at hu
        split at hu
        · exact hu
        · cases hu
      have hc := (h1.src x rfl).2 j u hu2
      exact (hk.cell (World.block_lt_of_cell? w _ hc) (by rw [add_block, h2 x rfl]; simpa using h5)).trans hc

abbrev tvals (e : En) : Array Value := #[.agg (e.id.map B).toArray, .int .i64 (e.len : Int)]
theorem encB_cons (e : En) (r : List En) : encB (e :: r) = e.id ++ numB e.len 4 ++ encB r := by simp [encB]
theorem tzero_id (W : World) : (zeroValue 36).run Tryd.prog W = .ok (.agg ((List.replicate 32 (0 : UInt8)).map B).toArray) W := by kernel_rfl
theorem tinfo32 : (Tryd.prog.info? 36).map (·.size) = some 32 := by kernel_rfl
theorem tsplice (cur vs : List Value) (h : vs.length = cur.length) : splice cur 0 vs = vs := by simp [splice, h]
end Go.Proofs.YtembincggkpflaaDoor


/- pack.told's iterator: what it yields. -/
namespace Go.Proofs.YtembincggkpflaaDoor
open Go.RowKit Go.Lib Go.Maps
attribute [local go_sem] Oper.semAt_some

section
variable {F : Fence} {n : Nat} {P : Program}
theorem op_load_cells {o : Oper} {a : Act} {w : World} {K : Act → World → Prop} {Q : Exit → Act → World → Prop} (ty : TypeId) (x : Operand) (ho : o.op = .load ty x)
    (ad : Addr) (hx : a.eval x = .pointer (some ad)) (cs : List Value) (d : TypeDesc) (hu : P.underlying ty = some d) (hd : (match d with | .struct _ | .array _ _ => true | _ => false) = true)
    (hi : (P.info? ty).map (·.size) = some cs.length) (hc : ∀ (j : Nat) v, cs[j]? = some v → w.cell? (ad.add j) = some v)
    (h : K (a.put o.dst (.agg cs.toArray)) w) : Oper.wpIn F n P o a w K Q := by
  unfold Oper.wpIn
  constructor
  · simp [Oper.about, ho, resolve, Target.leads, Sem.run_pure]
  · rw [Oper.semAt_plain F _ _ (by rw [ho]; intro c hc; cases hc)]
    unfold execOp
    simp only [ho, hx, Instr.loadAt, Instr.sureAddr, Sem.run_bind, Sem.run_pure, Result.andThen_ok, run_loadVar_cells w ty ad cs d hu hd hi hc]
    exact h
end
def tz : List UInt8 := List.replicate 32 0
theorem tz_len : tz.length = 32 := by simp [tz]
theorem tz_zero (W : World) : (zeroValue 36).run Tryd.prog W = .ok (.agg (tz.map B).toArray) W := tzero_id W
theorem tnum (N : Nat) (rest : List UInt8) (h : N < 4294967296) : numOf ((numB N 4 ++ rest).take 4) = N := by
  rw [List.take_append_of_le_length (by simp [numB_len]), List.take_of_length_le (by simp [numB_len]), numOf_numB]; exact Nat.mod_eq_of_lt (by simpa using h)

set_option maxRecDepth 100000 in
set_option maxHeartbeats 4000000 in
theorem told_in (n : Nat) (hn : 1 ≤ n) (l b rb g : Nat) (es : List En) (tl : List UInt8) (W : World) (hb : W.heap[b]? = some (.cells #[.pointer (some ⟨rb, 0, none⟩)] 100 (0, 0))) (hr : TRd W rb g (headB es ++ tl)) (hbr : b ≠ rb) (hbg : b ≠ g)
    (hrt : ∀ e ∈ es, e.id.length = 32 ∧ e.len < 4294967296) (hl : es.length < 4294967296) (J Jx : List En → World → Prop) (hJ : ∀ s A B, J s A → Kept [rb] A B → J s B)
    (hY : ∀ pre x A, J pre A → pre ++ [x] <+: es → YieldAt Fence.wide (n - 1) Tryd.prog l (tvals x) A fun e B =>
      (e = .returned (.bool true) ∧ J (pre ++ [x]) B ∧ Keep (TNeed b rb g) A B) ∨ (e = .returned (.bool false) ∧ Jx (pre ++ [x]) B)) (h0 : J [] W) :
    CallsIn Fence.wide n Tryd.prog 69 #[.func (.yield l) #[] #[], .pointer (some ⟨b, 0, none⟩)] W fun e B => (∃ v, e = .returned v) ∧ ((∃ xs, xs = es ∧ J xs B ∧ TRd B rb g tl) ∨ (∃ pre, pre <+: es ∧ Jx pre B)) := by
  have g1 : W.cell? ⟨b, 0, none⟩ = some (.pointer (some ⟨rb, 0, none⟩)) := cell_of_one hb
  have hnl : (numB es.length 4).length = 4 := numB_len _ _
  have hnum := hid (hr.num (by unfold headB; rw [List.length_append, List.length_append, hnl]; omega))
  have e1 : numOf ((headB es ++ tl).take 4) = es.length := by
    unfold headB; rw [List.append_assoc]; exact tnum _ _ hl
  have e2 : (headB es ++ tl).drop 4 = encB es ++ tl := by
    unfold headB; rw [List.append_assoc, List.drop_append_of_le_length (by omega), List.drop_eq_nil_of_le (by omega)]; rfl
  rw [e1, e2] at hnum
  have HB := hid hb; have HJ := hid hJ; have HY := hid hY; have HRT := hid hrt; have H0 := hid h0
  have hzv := tz_zero
  have hAr := fun (w : World) (ad : Addr) => run_arrayAt (P := Tryd.prog) (w := w) 36 5 32 (some ad) 32 32 Tryd.underlying36 (by decide)
  clear hb hJ hY hr hrt e1 e2 hnl h0
  refine callsIn_of_wp Tryd.func69 rfl trivial ?_ rfl
  simp only [Tryd.ntmps69, List.size_toArray, List.length_cons, List.length_nil, Nat.reduceAdd, Nat.reduceSub, Array.replicate_succ, Array.replicate_zero, List.push_toArray, List.append_toArray, List.nil_append, List.cons_append]
  gi_wp2_with (refine ⟨trivial, ?_⟩; gi_at_call 51; refine (callsIn_wide.2 hnum.out).mono ?_; rintro e w1 ⟨rfl, k1, hw1⟩)
  have hst0 := hid (show J (es.take 0) w1 ∧ w1.heap[b]? = some (.cells #[.pointer (some ⟨rb, 0, none⟩)] 100 (0, 0)) ∧ TRd w1 rb g (encB (es.drop 0) ++ tl) from ⟨HJ.out _ _ _ H0.out k1, k1.at HB.out (by simpa using hbr), hw1⟩)
  clear g1 k1 hw1 hnum
  gi_loopw [6] (fun s wr => ∃ i : Nat, i ≤ es.length ∧ s = .int .u64 i ∧ Hid (J (es.take i) wr ∧ wr.heap[b]? = some (.cells #[.pointer (some ⟨rb, 0, none⟩)] 100 (0, 0)) ∧ TRd wr rb g (encB (es.drop i) ++ tl))) (fun s _ => es.length - (intOf s).toNat)
  case atStart => exact ⟨0, Nat.zero_le _, rfl, hst0⟩
  case round =>
    clear hst0
    obtain ⟨i, hi, rfl, hst⟩ := hrel
    have HS := hid hst.out.1; have HBr := hid hst.out.2.1; have HR := hid hst.out.2.2
    have g1 : wr.cell? ⟨b, 0, none⟩ = some (.pointer (some ⟨rb, 0, none⟩)) := cell_of_one HBr.out
    clear hst
    by_cases hlt : i < es.length
    · have hpre := hid (show es.take i ++ [es[i]] <+: es from by rw [← List.take_succ_eq_append_getElem hlt]; exact List.take_prefix _ _)
      have htk := hid (show es.take (i + 1) = es.take i ++ [es[i]] from List.take_succ_eq_append_getElem hlt)
      have hdr : es.drop i = es[i] :: es.drop (i + 1) := List.drop_eq_getElem_cons hlt
      have hwf := HRT.out es[i] (List.getElem_mem hlt)
      rw [hdr, encB_cons] at HR
      have hlt2 := hid hlt
      generalize es[i] = x at *
      obtain ⟨h32, hx4⟩ := hwf
      have hnl : (numB x.len 4).length = 4 := numB_len _ _
      obtain ⟨rest, hrest⟩ : ∃ r, r = encB (es.drop (i + 1)) ++ tl := ⟨_, rfl⟩
      have HRest := hid hrest
      have hR : TRd wr rb g (x.id ++ (numB x.len 4 ++ rest)) := by have := HR.out; rw [List.append_assoc, List.append_assoc, ← hrest] at this; exact this
      have hraw := hid (hR.raw (by simp; omega))
      rw [show (x.id ++ (numB x.len 4 ++ rest)).take 32 = x.id by rw [← h32]; simp, show (x.id ++ (numB x.len 4 ++ rest)).drop 32 = numB x.len 4 ++ rest by rw [← h32]; simp] at hraw
      have hsz := hid (show (Tryd.prog.info? 36).map (·.size) = some (x.id.map B).length by rw [List.length_map, h32]; exact tinfo32)
      have hfit := hid (show 0 + (x.id.map B).length ≤ (tz.map B).length by simp [h32, tz_len])
      have hone := hid (show ∀ v ∈ x.id.map B, v.oneCell' = true by intro v hv; obtain ⟨b, _, rfl⟩ := List.mem_map.1 hv; rfl)
      have hspl := hid (tsplice (tz.map B) (x.id.map B) (by simp [h32, tz_len]))
      have hnum4 := hid (show numOf ((numB x.len 4 ++ rest).take 4) = x.len from tnum _ _ hx4)
      have hdr4 := hid (show (numB x.len 4 ++ rest).drop 4 = rest by rw [List.drop_append_of_le_length (by omega), List.drop_eq_nil_of_le (by omega)]; rfl)
      have hlen4 := hid (show 4 ≤ (numB x.len 4 ++ rest).length by simp; omega)
      have hX4 := hid hx4
      have hwx : IntKind.i64.wrap (x.len : Int) = (x.len : Int) := by rw [IntKind.wrap_i64]; omega
      clear h32 hx4 hnl hR HR hrest hdr
      gi_wp2_with (first | (refine wpListIn_load_cells rfl 36 (.tmp 10) rfl ad rfl (x.id.map B) _ Tryd.underlying36 rfl hsz.out HC2.out ?_; refine halt ?_) | (refine ⟨trivial, ?_⟩; gi_at_call 53; refine (callsIn_wide.2 hraw.out).mono ?_; rintro e w2 ⟨ad, rfl, k2, hR2, hc2⟩; have HK2 := hid k2; have HR2 := hid hR2; have HC2 := hid hc2; clear k2 hR2 hc2))
      refine Halt.mk ?_
      gi_wp2_with (refine wpListIn_store_at rfl 36 (.tmp 3) (.tmp 11) rfl w2.heap.size 0 (x.id.map B) rfl rfl 36 (tz.map B) (heap_alloc_at rfl) hsz.out hfit.out hone.out ?_; refine halt ?_)
      rw [hspl.out]
      obtain ⟨wb, hwb⟩ : ∃ wb : World, wb = (w2.alloc (.cells (tz.map B).toArray 36)).setRow w2.heap.size (x.id.map B).toArray := ⟨_, rfl⟩
      rw [← hwb]
      refine Halt.mk ?_
      have hkb := hid (show Kept [] w2 wb by rw [hwb]; exact ((Kept.refl [] w2).alloc _).setRow (fun h => absurd h (Nat.lt_irrefl _)) _)
      have Nb := hid (show wb.heap[w2.heap.size]? = some (.cells (x.id.map B).toArray 36 (0, 0)) by rw [hwb]; exact setRow_heap _ _ _ _ _ _ (heap_alloc_at rfl))
      have HB3' := hid (hkb.out.at (HK2.out.at HBr.out (by simpa using hbr)) (by simp))
      have HR3' := hid (HR2.out.kept hkb.out (by simp) (by simp))
      have g2' : wb.cell? ⟨b, 0, none⟩ = some (.pointer (some ⟨rb, 0, none⟩)) := cell_of_one HB3'.out
      have HK3' := hid (show Kept [rb] wr wb from HK2.out.trans (hkb.out.wider (by simp)))
      clear hwb g1 hraw
      gi_wp2
      refine wpIn_region_any (by kernel_rfl) ?_
      change wpAnyIn _ _ _ _ _ _ _ _ _ (World.drew _)
      obtain ⟨wd, hwd⟩ : ∃ wd, wd = wb.drew := ⟨_, rfl⟩
      rw [← hwd]
      have hkd := hid (show Kept [] wb wd from hwd ▸ (Kept.refl [] wb).drew)
      have Nd := hid (hkd.out.at Nb.out (by simp))
      have HB3 := hid (hkd.out.at HB3'.out (by simp))
      have HR3 := hid (HR3'.out.kept hkd.out (by simp) (by simp))
      have g2 : wd.cell? ⟨b, 0, none⟩ = some (.pointer (some ⟨rb, 0, none⟩)) := cell_of_one HB3.out
      have hnum3 := hid (HR3.out.num hlen4.out)
      rw [hnum4.out, hdr4.out] at hnum3
      have HK3 := hid (show Kept [rb] wr wd from HK3'.out.trans (hkd.out.wider (by simp)))
      have hne2 := hid (show w2.heap.size ≠ rb from fun e => by obtain ⟨_, _, q, _⟩ := HR2.out; have := lt_of_block q.here; omega)
      have hcell := hid (show ∀ w', Kept [rb] wd w' → ∀ (j : Nat) v, (x.id.map B)[j]? = some v → w'.cell? ((⟨w2.heap.size, 0, none⟩ : Addr).add j) = some v from fun w' hk j v hj => by
        rw [plain_add', cell_of_row w' _ j _ _ _ (hk.at Nd.out (by simpa using hne2.out))]; simpa using hj)
      clear hwd g2' hnum4 hdr4 hlen4 HB3' HR3' HK3' Nb hkb hkd
      refine wpAnyIn_take (i := 0) (v := .func (.yield l) #[] #[]) rfl rfl (by kernel_rfl) (by kernel_rfl) (by kernel_rfl) (fun _ _ _ h => h) ⟨Or.inl ⟨by rfl, fun w => by go_simp⟩, fun _ => rfl⟩ ?_
      simp only [Act.put, List.setIfInBounds_toArray, List.set_cons_succ, List.set_cons_zero]
      refine wpAnyIn_ready (rs := [1, 2]) (by kernel_rfl) (by simp) ?_
      refine AllReadyIn.cons rfl (fun K hK => ?_) (AllReadyIn.cons rfl (fun K hK => ?_) AllReadyIn.nil)
      · rw [if_pos (by rfl)]
        refine op_load_cells 36 (.tmp 3) rfl ⟨w2.heap.size, 0, none⟩ rfl (x.id.map B) _ Tryd.underlying36 rfl hsz.out (hcell.out wd (Kept.refl _ _)) ?_
        refine hK _ _ ?_; clear hK K
        simp only [Act.put, List.setIfInBounds_toArray, List.set_cons_succ, List.set_cons_zero]
        refine wpAnyIn_ready (rs := [2]) (by kernel_rfl) (by simp) ?_
        refine AllReadyIn.cons rfl (fun K hK => ?_) AllReadyIn.nil
        go_simp
        refine hK _ _ ?_; clear hK K
        refine wpAnyIn_ready (rs := [3]) (by kernel_rfl) (by simp) ?_
        refine AllReadyIn.cons rfl (fun K hK => ?_) AllReadyIn.nil
        go_simp
        gi_wp2_with (refine ⟨trivial, ?_⟩; gi_at_call 51; refine (callsIn_wide.2 hnum3.out).mono ?_; rintro e w4 ⟨rfl, k4, hR4⟩; have HK4 := hid k4; have HR4 := hid hR4; clear k4 hR4)
        refine wpAnyIn_ready (rs := [4]) (by kernel_rfl) (by simp) ?_
        refine AllReadyIn.cons rfl (fun K hK => ?_) AllReadyIn.nil
        go_simp
        refine hK _ _ ?_; clear hK K
        obtain ⟨fn, tmps, assign, body, hy, hR⟩ := HY.out (es.take i) x w4 (HJ.out _ _ _ HS.out (HK3.out.trans HK4.out)) hpre.out
        unfold tvals at hy
        refine wpAnyIn_ready (rs := [5]) (by kernel_rfl) (by simp) ?_
        refine AllReadyIn.cons rfl (fun K hK => ?_) AllReadyIn.nil
        go_simp
        refine hR.mono ?_
        rintro e W' (⟨rfl, hJ', hk⟩ | ⟨rfl, hJx'⟩)
        · refine hK _ _ ?_; clear hK K
          refine wpAnyIn_ready (rs := [6]) (by kernel_rfl) (by simp) ?_
          refine AllReadyIn.cons rfl (fun K hK => ?_) AllReadyIn.nil
          go_simp
          refine hK _ _ ?_; clear hK K
          refine wpAnyIn_done (by kernel_rfl) ?_ _
          gi_wp2
          have hkk := hid hk
          have hJJ := hid hJ'
          clear hk hJ'
          go_roundw
          case rel => exact ⟨i + 1, hlt2.out, by go_num, hid ⟨by rw [htk.out]; exact hJJ.out, hkk.out.at (HK4.out.at HB3.out (by simpa using hbr)) (Or.inl rfl), by rw [← HRest.out]; exact HR4.out.keep hkk.out⟩⟩
          case measure => simp [intOf]; omega
        · refine hK _ _ ?_; clear hK K
          refine wpAnyIn_ready (rs := [6]) (by kernel_rfl) (by simp) ?_
          refine AllReadyIn.cons rfl (fun K hK => ?_) AllReadyIn.nil
          go_simp
          refine hK _ _ ?_; clear hK K
          refine wpAnyIn_done (by kernel_rfl) ?_ _
          gi_wp2
          refine bodyPost_ret (results_none rfl _ _ _) rfl ?_
          exact ⟨⟨_, rfl⟩, .inr ⟨es.take i ++ [x], hpre.out, hJx'⟩⟩
      · go_simp
        refine hK _ _ ?_; clear hK K
        refine wpAnyIn_ready (rs := [1, 3]) (by kernel_rfl) (by simp) ?_
        refine AllReadyIn.cons rfl (fun K hK => ?_) (AllReadyIn.cons rfl (fun K hK => ?_) AllReadyIn.nil)
        · rw [if_pos (by rfl)]
          refine op_load_cells 36 (.tmp 3) rfl ⟨w2.heap.size, 0, none⟩ rfl (x.id.map B) _ Tryd.underlying36 rfl hsz.out (hcell.out wd (Kept.refl _ _)) ?_
          refine hK _ _ ?_; clear hK K
          simp only [Act.put, List.setIfInBounds_toArray, List.set_cons_succ, List.set_cons_zero]
          refine wpAnyIn_ready (rs := [3]) (by kernel_rfl) (by simp) ?_
          refine AllReadyIn.cons rfl (fun K hK => ?_) AllReadyIn.nil
          go_simp
          gi_wp2_with (refine ⟨trivial, ?_⟩; gi_at_call 51; refine (callsIn_wide.2 hnum3.out).mono ?_; rintro e w4 ⟨rfl, k4, hR4⟩; have HK4 := hid k4; have HR4 := hid hR4; clear k4 hR4)
          refine wpAnyIn_ready (rs := [4]) (by kernel_rfl) (by simp) ?_
          refine AllReadyIn.cons rfl (fun K hK => ?_) AllReadyIn.nil
          go_simp
          refine hK _ _ ?_; clear hK K
          obtain ⟨fn, tmps, assign, body, hy, hR⟩ := HY.out (es.take i) x w4 (HJ.out _ _ _ HS.out (HK3.out.trans HK4.out)) hpre.out
          unfold tvals at hy
          refine wpAnyIn_ready (rs := [5]) (by kernel_rfl) (by simp) ?_
          refine AllReadyIn.cons rfl (fun K hK => ?_) AllReadyIn.nil
          go_simp
          refine hR.mono ?_
          rintro e W' (⟨rfl, hJ', hk⟩ | ⟨rfl, hJx'⟩)
          · refine hK _ _ ?_; clear hK K
            refine wpAnyIn_ready (rs := [6]) (by kernel_rfl) (by simp) ?_
            refine AllReadyIn.cons rfl (fun K hK => ?_) AllReadyIn.nil
            go_simp
            refine hK _ _ ?_; clear hK K
            refine wpAnyIn_done (by kernel_rfl) ?_ _
            gi_wp2
            have hkk := hid hk
            have hJJ := hid hJ'
            clear hk hJ'
            go_roundw
            case rel => exact ⟨i + 1, hlt2.out, by go_num, hid ⟨by rw [htk.out]; exact hJJ.out, hkk.out.at (HK4.out.at HB3.out (by simpa using hbr)) (Or.inl rfl), by rw [← HRest.out]; exact HR4.out.keep hkk.out⟩⟩
            case measure => simp [intOf]; omega
          · refine hK _ _ ?_; clear hK K
            refine wpAnyIn_ready (rs := [6]) (by kernel_rfl) (by simp) ?_
            refine AllReadyIn.cons rfl (fun K hK => ?_) AllReadyIn.nil
            go_simp
            refine hK _ _ ?_; clear hK K
            refine wpAnyIn_done (by kernel_rfl) ?_ _
            gi_wp2
            refine bodyPost_ret (results_none rfl _ _ _) rfl ?_
            exact ⟨⟨_, rfl⟩, .inr ⟨es.take i ++ [x], hpre.out, hJx'⟩⟩
        · go_simp
          gi_wp2_with (refine ⟨trivial, ?_⟩; gi_at_call 51; refine (callsIn_wide.2 hnum3.out).mono ?_; rintro e w4 ⟨rfl, k4, hR4⟩; have HK4 := hid k4; have HR4 := hid hR4; clear k4 hR4)
          refine wpAnyIn_ready (rs := [1, 4]) (by kernel_rfl) (by simp) ?_
          refine AllReadyIn.cons rfl (fun K hK => ?_) (AllReadyIn.cons rfl (fun K hK => ?_) AllReadyIn.nil)
          · rw [if_pos (by rfl)]
            refine op_load_cells 36 (.tmp 3) rfl ⟨w2.heap.size, 0, none⟩ rfl (x.id.map B) _ Tryd.underlying36 rfl hsz.out (hcell.out w4 HK4.out) ?_
            refine hK _ _ ?_; clear hK K
            simp only [Act.put, List.setIfInBounds_toArray, List.set_cons_succ, List.set_cons_zero]
            refine wpAnyIn_ready (rs := [4]) (by kernel_rfl) (by simp) ?_
            refine AllReadyIn.cons rfl (fun K hK => ?_) AllReadyIn.nil
            go_simp
            refine hK _ _ ?_; clear hK K
            obtain ⟨fn, tmps, assign, body, hy, hR⟩ := HY.out (es.take i) x w4 (HJ.out _ _ _ HS.out (HK3.out.trans HK4.out)) hpre.out
            unfold tvals at hy
            refine wpAnyIn_ready (rs := [5]) (by kernel_rfl) (by simp) ?_
            refine AllReadyIn.cons rfl (fun K hK => ?_) AllReadyIn.nil
            go_simp
            refine hR.mono ?_
            rintro e W' (⟨rfl, hJ', hk⟩ | ⟨rfl, hJx'⟩)
            · refine hK _ _ ?_; clear hK K
              refine wpAnyIn_ready (rs := [6]) (by kernel_rfl) (by simp) ?_
              refine AllReadyIn.cons rfl (fun K hK => ?_) AllReadyIn.nil
              go_simp
              refine hK _ _ ?_; clear hK K
              refine wpAnyIn_done (by kernel_rfl) ?_ _
              gi_wp2
              have hkk := hid hk
              have hJJ := hid hJ'
              clear hk hJ'
              go_roundw
              case rel => exact ⟨i + 1, hlt2.out, by go_num, hid ⟨by rw [htk.out]; exact hJJ.out, hkk.out.at (HK4.out.at HB3.out (by simpa using hbr)) (Or.inl rfl), by rw [← HRest.out]; exact HR4.out.keep hkk.out⟩⟩
              case measure => simp [intOf]; omega
            · refine hK _ _ ?_; clear hK K
              refine wpAnyIn_ready (rs := [6]) (by kernel_rfl) (by simp) ?_
              refine AllReadyIn.cons rfl (fun K hK => ?_) AllReadyIn.nil
              go_simp
              refine hK _ _ ?_; clear hK K
              refine wpAnyIn_done (by kernel_rfl) ?_ _
              gi_wp2
              refine bodyPost_ret (results_none rfl _ _ _) rfl ?_
              exact ⟨⟨_, rfl⟩, .inr ⟨es.take i ++ [x], hpre.out, hJx'⟩⟩
          · go_simp
            refine hK _ _ ?_; clear hK K
            refine wpAnyIn_ready (rs := [1]) (by kernel_rfl) (by simp) ?_
            refine AllReadyIn.cons rfl (fun K hK => ?_) AllReadyIn.nil
            rw [if_pos (by rfl)]
            refine op_load_cells 36 (.tmp 3) rfl ⟨w2.heap.size, 0, none⟩ rfl (x.id.map B) _ Tryd.underlying36 rfl hsz.out (hcell.out w4 HK4.out) ?_
            refine hK _ _ ?_; clear hK K
            simp only [Act.put, List.setIfInBounds_toArray, List.set_cons_succ, List.set_cons_zero]
            obtain ⟨fn, tmps, assign, body, hy, hR⟩ := HY.out (es.take i) x w4 (HJ.out _ _ _ HS.out (HK3.out.trans HK4.out)) hpre.out
            unfold tvals at hy
            refine wpAnyIn_ready (rs := [5]) (by kernel_rfl) (by simp) ?_
            refine AllReadyIn.cons rfl (fun K hK => ?_) AllReadyIn.nil
            go_simp
            refine hR.mono ?_
            rintro e W' (⟨rfl, hJ', hk⟩ | ⟨rfl, hJx'⟩)
            · refine hK _ _ ?_; clear hK K
              refine wpAnyIn_ready (rs := [6]) (by kernel_rfl) (by simp) ?_
              refine AllReadyIn.cons rfl (fun K hK => ?_) AllReadyIn.nil
              go_simp
              refine hK _ _ ?_; clear hK K
              refine wpAnyIn_done (by kernel_rfl) ?_ _
              gi_wp2
              have hkk := hid hk
              have hJJ := hid hJ'
              clear hk hJ'
              go_roundw
              case rel => exact ⟨i + 1, hlt2.out, by go_num, hid ⟨by rw [htk.out]; exact hJJ.out, hkk.out.at (HK4.out.at HB3.out (by simpa using hbr)) (Or.inl rfl), by rw [← HRest.out]; exact HR4.out.keep hkk.out⟩⟩
              case measure => simp [intOf]; omega
            · refine hK _ _ ?_; clear hK K
              refine wpAnyIn_ready (rs := [6]) (by kernel_rfl) (by simp) ?_
              refine AllReadyIn.cons rfl (fun K hK => ?_) AllReadyIn.nil
              go_simp
              refine hK _ _ ?_; clear hK K
              refine wpAnyIn_done (by kernel_rfl) ?_ _
              gi_wp2
              refine bodyPost_ret (results_none rfl _ _ _) rfl ?_
              exact ⟨⟨_, rfl⟩, .inr ⟨es.take i ++ [x], hpre.out, hJx'⟩⟩
    · have hin : i = es.length := by omega
      subst hin
      rw [List.take_length] at HS
      have HRe := hid (show TRd wr rb g tl by have := HR.out; rw [List.drop_length] at this; exact this)
      clear hlt hi HR
      gi_wp2
      go_end0
      exact ⟨⟨_, rfl⟩, .inl ⟨es, rfl, HS.out, HRe.out⟩⟩
theorem told_seq (n : Nat) (hn : 1 ≤ n) (b rb g : Nat) (es : List En) (tl : List UInt8) (w : World) (hb : w.heap[b]? = some (.cells #[.pointer (some ⟨rb, 0, none⟩)] 100 (0, 0))) (hr : TRd w rb g (headB es ++ tl)) (hbr : b ≠ rb) (hbg : b ≠ g)
    (hrt : ∀ e ∈ es, e.id.length = 32 ∧ e.len < 4294967296) (hl : es.length < 4294967296) :
    SeqR Fence.wide n Tryd.prog 69 #[.pointer (some ⟨b, 0, none⟩)] tvals rb (TNeed b rb g) (fun xs => xs = es) (fun pre => pre <+: es) (fun B => TRd B rb g tl) w :=
  fun l J Jx W hW hJ _ hY h0 => told_in n hn l b rb g es tl W ((Kept.of_below (S := []) hW).at hb (by simp)) (hr.kept (Kept.of_below (S := []) hW) (by simp) (by simp)) hbr hbg hrt hl J Jx hJ hY h0

theorem told_any (rb : Nat) (w : World) :
    Calls Tryd.prog 58 #[.pointer (some ⟨rb, 0, none⟩)] w fun e w' => e = .returned (.func (.func 69) #[] #[.pointer (some ⟨w.heap.size, 0, none⟩)]) ∧ w' = w.alloc (.cells #[.pointer (some ⟨rb, 0, none⟩)] 100) := by
  have hmf : ∀ (fn : Fn) (first cap : Array Value) (w : World), (Instr.makeFunc fn first cap).run Tryd.prog w = .ok (.func fn first cap) w := fun _ _ _ _ => rfl
  go_enter Tryd.func58, Tryd.ntmps58
  go_wp2
  go_ret
  exact ⟨rfl, rfl⟩
end Go.Proofs.YtembincggkpflaaDoor


/- pack.readHead: a head read back. -/
namespace Go.Proofs.YtembincggkpflaaDoor
open Go.RowKit Go.Lib Go.Maps
attribute [local go_sem] Oper.semAt_some

/-- Places that stand one behind the other, as adding makes them. -/
def Gd (es : List En) : Prop := ∀ i e, es[i]? = some e → e = addE (es.take i) e.id e.len ∧ addErr (es.take i) e.id e.len = 0 ∧ e.id.length = 32 ∧ e.len < 4294967296
def RhI (D : Nat) (S0 : List Nat) (p q rb : Nat) (w0 : World) (pre : List En) (W : World) : Prop :=
  ∃ S lv mv, Hd W S p 28 [] pre lv mv ∧ W.heap[q]? = some (.cells #[.int .i64 0] 39 (0, 0)) ∧ (∀ x ∈ S, x ∈ S0 ∨ D + 1 < x) ∧ q ∉ S ∧ Kept (q :: rb :: S0) w0 W
theorem gd_add {es : List En} (h : Gd es) {pre : List En} {x : En} (hp : pre ++ [x] <+: es) : x = addE pre x.id x.len ∧ addErr pre x.id x.len = 0 ∧ x.id.length = 32 ∧ x.len < 4294967296 := by
  obtain ⟨r, hr⟩ := hp
  have h1 : es[pre.length]? = some x := by rw [← hr]; simp
  have h2 : es.take pre.length = pre := by rw [← hr]; simp
  have := h _ _ h1
  rw [h2] at this
  exact this

set_option maxRecDepth 100000 in
set_option maxHeartbeats 4000000 in
theorem rh_in (rb g p q : Nat) (S0 : List Nat) (es : List En) (lv mv : Value) (W : World) (hr : TRd W rb g (headB es ++ [])) (hgd : Gd es) (hl : es.length < 4294967296) (hd : Hd W S0 p 28 [] [] lv mv) (hq : W.heap[q]? = some (.cells #[.int .i64 0] 39 (0, 0)))
    (h1 : rb ∉ S0) (h2 : q ∉ S0) (h3 : q ≠ rb) (h4 : g ∉ S0) (h5 : q ≠ g) :
    Calls Tryd.prog 57 #[.pointer (some ⟨rb, 0, none⟩), .pointer (some ⟨p, 0, none⟩), .pointer (some ⟨q, 0, none⟩)] W fun e w' => ∃ S lv mv, e = .returned (.tuple #[]) ∧ Kept (q :: rb :: S0) W w' ∧ TRd w' rb g [] ∧ Hd w' S p 28 [] es lv mv ∧
      w'.heap[q]? = some (.cells #[.int .i64 0] 39 (0, 0)) ∧ (∀ x ∈ S, x ∈ S0 ∨ W.heap.size ≤ x) ∧ q ∉ S := by
  have hto := hid (told_any rb W)
  have Hr := hid hr; have Hd0 := hid hd; have Hq := hid hq
  have hrbl := hid (show rb < W.heap.size from by obtain ⟨_, _, r, _⟩ := hr; exact lt_of_block r.here)
  have hgl := hid (show g < W.heap.size from by obtain ⟨_, _, _, _, r, _⟩ := hr; exact r)
  have hql := hid (lt_of_block hq)
  clear hr hd hq
  refine (callsIn_wide (n := 4)).1 ?_
  refine callsIn_of_wp_marks Tryd.func57 rfl trivial ?_ rfl
  simp only [Tryd.ntmps57, List.size_toArray, List.length_cons, List.length_nil, Nat.reduceAdd, Nat.reduceSub, Array.replicate_succ, Array.replicate_zero, List.push_toArray, List.append_toArray, List.nil_append, List.cons_append]
  gi_wp2_with (refine ⟨trivial, ?_⟩; gi_at_call 58; refine (callsIn_wide.2 hto.out).mono ?_; rintro e w1 ⟨rfl, hw1⟩)
  rw [← hw1]
  have k01 := hid (show Kept [] W w1 from hw1 ▸ (Kept.refl [] W).alloc _)
  have hb1 := hid (show w1.heap[W.heap.size]? = some (.cells #[.pointer (some ⟨rb, 0, none⟩)] 100 (0, 0)) from hw1 ▸ heap_alloc_at rfl)
  have hz1 := hid (show w1.heap.size = W.heap.size + 1 from by rw [hw1]; simp)
  have hr1 := hid (Hr.out.kept k01.out (by simp) (by simp))
  have hS0 := hid Hd0.out.bound
  have Hgd := hid hgd
  clear hw1 hto hgd
  have hzv := tz_zero
  have hEk := hid (show ∀ A B : World, TRd A rb g [] → Kept [w1.heap.size, w1.heap.size + 1] A B → TRd B rb g [] from fun A B h hk => TRd.kept h hk (by have := hrbl.out; have := hz1.out; simp; omega) (by have := hgl.out; have := hz1.out; simp; omega))
  have hnd := hid (show ∀ k, TNeed W.heap.size rb g k → k < w1.heap.size from fun k hk => by have := hrbl.out; have := hgl.out; have := hz1.out; rcases hk with rfl | rfl | rfl <;> omega)
  refine range_r (β := Nat) (encs := tvals) (ob := rb) (need := TNeed W.heap.size rb g) rfl (by omega) (gf := 69) (lb := #[.pointer (some ⟨W.heap.size, 0, none⟩)]) rfl trivial (enters_of Tryd.func69 (by kernel_rfl) rfl)
    hEk.out
    (told_seq (4 - 1) (by omega) W.heap.size rb g es [] w1 hb1.out hr1.out (by have := hrbl.out; omega) (by have := hgl.out; omega) (fun e he => by obtain ⟨i, hi⟩ := List.getElem?_of_mem he; exact (Hgd.out i e hi).2.2) hl)
    hnd.out (Or.inr (Or.inl rfl)) (fun _ => rfl)
    (RhI w1.heap.size S0 p q rb W) (fun _ _ => False) ?hI (fun _ _ _ h _ => h.elim) ?h0
    (fun x pp => { tmps := #[.pointer (some ⟨rb, 0, none⟩), .pointer (some ⟨p, 0, none⟩), .pointer (some ⟨q, 0, none⟩), undef, .pointer (some ⟨pp, 0, none⟩), .int .i64 (x.len : Int), .pointer (some ⟨rb, 0, none⟩), .func (.func 69) #[] #[.pointer (some ⟨W.heap.size, 0, none⟩)], .agg (x.id.map B).toArray, .int .i64 (x.len : Int), undef, undef, undef, undef, undef, undef, undef, undef], defers := [] })
    (fun x pp V => V.heap[pp]? = some (.cells (x.id.map B).toArray 36 (0, 0)) ∧ w1.heap.size + 1 < pp) ?hAs ?assign ?body ?done ?stop
  case hI =>
    rintro s A B ⟨S, lv, mv, hh, hqq, hs, hqs, hk⟩ hkk
    have q1 := hz1.out; have q2 := hrbl.out; have q3 := hql.out
    refine ⟨S, lv, mv, hh.kept hkk (fun x hx => ?_), hkk.at hqq (by simp; omega), hs, hqs, hk.trans' hkk (fun x hx hm => ?_)⟩
    · rcases hs x hx with h | h
      · have := hS0.out x h
        have h6 : x ≠ rb := fun e => h1 (e ▸ h)
        simp; omega
      · simp; omega
    · simp at hm ⊢
      omega
  case h0 => exact ⟨S0, lv, mv, Hd0.out.kept k01.out (by simp), k01.out.at Hq.out (by simp), fun x hx => Or.inl hx, h2, k01.out.wider (by simp)⟩
  case hAs =>
    rintro x pp A B ⟨q1, q2⟩ hk
    exact ⟨hk.at q1 (by simp; omega), q2⟩
  case assign =>
    intro l pre x V K hzp hsz hK
    have h32 := (gd_add Hgd.out hzp).2.2.1
    have hs32 := hid (show (Tryd.prog.info? 36).map (·.size) = some (x.id.map B).length by rw [List.length_map, h32]; exact tinfo32)
    have hfit := hid (show 0 + (x.id.map B).length ≤ (tz.map B).length by simp [h32, tz_len])
    have hone := hid (show ∀ v ∈ x.id.map B, v.oneCell' = true by intro v hv; obtain ⟨b, _, rfl⟩ := List.mem_map.1 hv; rfl)
    have hspl := hid (tsplice (tz.map B) (x.id.map B) (by simp [h32, tz_len]))
    clear h32 hzp
    gi_wp2_with (refine wpListIn_store_at rfl 36 (.tmp 4) (.tmp 8) rfl V.heap.size 0 (x.id.map B) rfl rfl 36 (tz.map B) (heap_alloc_at rfl) hs32.out hfit.out hone.out ?_; refine halt ?_)
    rw [hspl.out]
    refine Halt.mk ?_
    gi_wp2
    exact hK V.heap.size _ (((Kept.refl [] V).alloc _).setRow (fun h => absurd h (Nat.lt_irrefl _)) _) ⟨setRow_heap _ _ _ _ _ _ (heap_alloc_at rfl), hsz⟩
  case body =>
    rintro l pre x pp V ⟨S, lv', mv', hh, hqq, hs, hqs, hk⟩ hzp hsz ⟨hpp, hpl⟩
    have had := gd_add Hgd.out hzp
    have hx := hid had.1
    have h32 := had.2.2.1
    have hadd := hid (h_add_ok S p 28 [] pre lv' mv' x.id x.len V hh h32 had.2.1)
    have hgood := hid had.2.1
    have hs32 := hid (show (Tryd.prog.info? 36).map (·.size) = some (x.id.map B).length by rw [List.length_map, h32]; exact tinfo32)
    have hcell := hid (show ∀ (j : Nat) v, (x.id.map B)[j]? = some v → V.cell? ((⟨pp, 0, none⟩ : Addr).add j) = some v from fun j v hj => by
      rw [plain_add', cell_of_row V _ j _ _ _ hpp]; simpa using hj)
    have Hh := hid hh; have Hqq := hid hqq; have Hs := hid hs; have Hqs := hid hqs; have Hk := hid hk; have Hpp := hid hpp
    clear had h32 hh hqq hs hqs hk hpp hzp
    gi_wp2_with (first | (refine wpListIn_load_cells rfl 36 (.tmp 4) rfl ⟨pp, 0, none⟩ rfl (x.id.map B) _ Tryd.underlying36 rfl hs32.out hcell.out ?_) | (refine ⟨trivial, ?_⟩; gi_at_call 19; refine (CallsIn.inRound l (callsIn_wide.2 hadd.out)).mono ?_; rintro e w4 (⟨hb, -⟩ | ⟨-, rfl, k4, S', lv2, mv2, hd4, hs4⟩); exact absurd hgood.out hb; have hq4 := hid (k4.at Hqq.out Hqs.out); have gq := cell_of_one hq4.out; have fq : w4.frozen? ⟨q, 0, none⟩ = false := free_of_row hq4.out; have K4 := hid k4; have Hd4 := hid hd4; have Hs4 := hid hs4; clear k4 hd4 hs4))

    obtain ⟨W', hW'⟩ : ∃ W', W' = w4.setCell ⟨q, 0, none⟩ (.int .i64 0) := ⟨_, rfl⟩
    try rw [← hW']
    have k5 : Kept [q] w4 W' := hW' ▸ (Kept.refl _ _).setCell (p := ⟨q, 0, none⟩) (fun _ => by simp) _
    have hq5 : W'.heap[q]? = some (.cells #[.int .i64 0] 39 (0, 0)) := by rw [hW']; simpa using one_setCell (u := .int .i64 0) hq4.out
    have hql4 := lt_of_block Hqq.out
    have hqS : q ∉ S' := fun h => by rcases Hs4.out q h with h6 | h6; exact Hqs.out h6; omega
    have hd5 := Hd4.out
    rw [← hx.out] at hd5
    have hnS : ∀ k, (TNeed W.heap.size rb g k ∨ k = w1.heap.size ∨ k = w1.heap.size + 1) → k ∉ S ∧ k ≠ q := fun k hk => by
      have q1 := hz1.out; have q2 := hrbl.out; have q3 := hql.out; have q4 := hgl.out
      refine ⟨fun hm => ?_, ?_⟩
      · rcases Hs.out k hm with h6 | h6
        · have := hS0.out k h6
          rcases hk with (rfl | rfl | rfl) | rfl | rfl
          · omega
          · exact h1 h6
          · exact h4 h6
          · omega
          · omega
        · rcases hk with (rfl | rfl | rfl) | rfl | rfl <;> omega
      · rcases hk with (rfl | rfl | rfl) | rfl | rfl <;> omega
    refine ⟨(K4.out.keep (fun k _ hk => (hnS k hk).1)).trans (k5.keep (fun k _ hk => by simpa using (hnS k hk).2)), S', lv2, mv2, hd5.kept k5 (fun y hy => by simp; rintro rfl; exact hqS hy), hq5, fun y hy => ?_, hqS, (Hk.out.trans' K4.out (fun y hy hm => ?_)).trans (k5.wider (fun y _ hy => by simp at hy; simp [hy]))⟩
    · rcases Hs4.out y hy with h6 | h6
      · exact Hs.out y h6
      · right; omega
    · rcases Hs.out y hm with h6 | h6
      · simp [h6]
      · have := hz1.out; omega
  case done =>
    intro xs V hxs hI hE hdf
    obtain rfl := hxs
    obtain ⟨S, lv', mv', hh, hqq, hs, hqs, hk⟩ := hI
    have q1 := hz1.out; have q2 := hrbl.out; have q3 := hql.out; have q4 := hgl.out
    gi_wp2
    refine ⟨by simp, .inl ⟨_, _, rfl, run_takeDeferred hdf, ?_⟩⟩
    have hkd := kept_putObj V w1.heap.size (.deferred none)
    refine ⟨.tuple #[], ?_, S, lv', mv', rfl, hk.trans' hkd (fun x hx hm => by simp at hm; omega), hE.kept hkd (by simp; omega) (by simp; omega), hh.kept hkd (fun x hx => ?_), hkd.at hqq (by simp; omega), fun x hx => ?_, hqs⟩
    · simp [results, Tryd.f57, go_sem]
    · rcases hs x hx with h | h
      · have := hS0.out x h; simp; omega
      · simp; omega
    · rcases hs x hx with h | h
      · exact Or.inl h
      · right; omega
  case stop => intro pre V _ h; exact h.elim
end Go.Proofs.YtembincggkpflaaDoor


/- pack.readHead: a head. -/
namespace Go.Proofs.YtembincggkpflaaDoor
open Go.RowKit Go.Lib Go.Maps

/-- The blocks of a head in block p. -/
def hdBlocks (p : Nat) (lv mv : Value) : List Nat := p :: (lv.ownBlock.toList ++ (mapBlock mv).toList)
theorem Hd.own {w : World} {S : List Nat} {p T : Nat} {more : List Value} {es : List En} {lv mv : Value} (h : Hd w S p T more es lv mv) : Hd w (hdBlocks p lv mv) p T more es lv mv :=
  ⟨h.row, h.list, h.set, by simp [hdBlocks], fun g hg => ⟨by simp [hdBlocks, hg], (h.hl g hg).2⟩, fun b hb => ⟨by simp [hdBlocks, hb], (h.hm b hb).2⟩, h.rt, h.many, h.size, fun x hx => by
    simp only [hdBlocks, List.mem_cons, List.mem_append, Option.mem_toList] at hx
    rcases hx with rfl | hx | hx
    · exact h.bound _ h.hp
    · exact h.bound _ (h.hl _ hx).1
    · exact h.bound _ (h.hm _ hx).1⟩
theorem Hd.sub {w : World} {S : List Nat} {p T : Nat} {more : List Value} {es : List En} {lv mv : Value} (h : Hd w S p T more es lv mv) : ∀ x ∈ hdBlocks p lv mv, x ∈ S := fun x hx => by
  simp only [hdBlocks, List.mem_cons, List.mem_append, Option.mem_toList] at hx
  rcases hx with rfl | hx | hx
  · exact h.hp
  · exact (h.hl _ hx).1
  · exact (h.hm _ hx).1
/-- An error's cell is no block of a head. -/
theorem Hd.err {w : World} {p : Nat} {more : List Value} {es : List En} {lv mv : Value} (h : Hd w (hdBlocks p lv mv) p 28 more es lv mv) {x : Nat} (hx : ErrAt w x) (hp : p ≠ x) : x ∉ hdBlocks p lv mv := by
  obtain ⟨n, hn⟩ := hx
  intro hm
  simp only [hdBlocks, List.mem_cons, List.mem_append, Option.mem_toList] at hm
  rcases hm with rfl | hm | hm
  · exact hp rfl
  · rcases h.list.2 with ⟨h1, _⟩ | ⟨g, cap, cur, hv, _, hh, _⟩
    · rw [h1] at hm; simp [Value.ownBlock] at hm
    · rw [hv] at hm; simp [Value.ownBlock] at hm; subst hm
      rw [hh] at hn; simp at hn
  · rcases h.set with ⟨h1, _⟩ | ⟨b, n', D, hv, _, ho, _⟩
    · rw [h1] at hm; simp [mapBlock] at hm
    · rw [hv] at hm; simp [mapBlock] at hm; subst hm
      obtain ⟨es', clock, h1, _⟩ := ho
      rw [h1] at hn; simp at hn
/-- A head's three values, in no variable: what they lie in is younger than base. -/
structure HdV (w : World) (base : Nat) (es : List En) (lv mv : Value) : Prop where
  list : w.ownsRow 0 38 34 lv es.length (es.flatMap c34)
  set : Set32 w mv (es.map En.id)
  hl : ∀ g, lv.ownBlock = some g → base ≤ g ∧ g < w.heap.size
  hm : ∀ b, mapBlock mv = some b → base ≤ b ∧ b < w.heap.size ∧ lv.ownBlock ≠ some b
  rt : Rt es
  many : es.length ≤ 4096
  size : sizeP es ≤ 1048576
theorem HdV.kept {w w' : World} {S : List Nat} {base : Nat} {es : List En} {lv mv : Value} (h : HdV w base es lv mv) (hk : Kept S w w') (hS : ∀ x ∈ S, x < base) : HdV w' base es lv mv :=
  ⟨hk.owns h.list (fun g hg hm => by have := (h.hl g hg).1; have := hS g hm; omega), h.set.kept hk (fun b hb hm => by have := (h.hm b hb).1; have := hS b hm; omega), fun g hg => ⟨(h.hl g hg).1, Nat.lt_of_lt_of_le (h.hl g hg).2 hk.size⟩, fun b hb => ⟨(h.hm b hb).1, Nat.lt_of_lt_of_le (h.hm b hb).2.1 hk.size, (h.hm b hb).2.2⟩, h.rt, h.many, h.size⟩
theorem Hd.val {w : World} {S : List Nat} {p T base : Nat} {more : List Value} {es : List En} {lv mv : Value} (h : Hd w S p T more es lv mv) (hS : ∀ x ∈ S, base ≤ x) : HdV w base es lv mv :=
  ⟨h.list, h.set, fun g hg => ⟨hS g (h.hl g hg).1, h.bound g (h.hl g hg).1⟩, fun b hb => ⟨hS b (h.hm b hb).1, h.bound b (h.hm b hb).1, (h.hm b hb).2.2⟩, h.rt, h.many, h.size⟩
theorem HdV.at {w w' : World} {base p T : Nat} {es : List En} {lv mv : Value} (h : HdV w base es lv mv) (hk : Kept [] w w') (hp : w.heap.size ≤ p) (hr : w'.heap[p]? = some (.cells #[lv, mv, .int .i64 (ends es : Int)] T (0, 0))) : Hd w' (hdBlocks p lv mv) p T [] es lv mv := by
  have hlt := lt_of_block hr
  refine ⟨by simpa using hr, hk.owns h.list (by simp), h.set.kept hk (by simp), by simp [hdBlocks], fun g hg => ⟨by simp [hdBlocks, hg], by have := (h.hl g hg).2; omega⟩, fun b hb => ⟨by simp [hdBlocks, hb], by have := (h.hm b hb).2.1; omega, (h.hm b hb).2.2⟩, h.rt, h.many, h.size, fun x hx => ?_⟩
  simp only [hdBlocks, List.mem_cons, List.mem_append, Option.mem_toList] at hx
  rcases hx with rfl | hx | hx
  · exact hlt
  · exact Nat.lt_of_lt_of_le (h.hl _ hx).2 hk.size
  · exact Nat.lt_of_lt_of_le (h.hm _ hx).2.1 hk.size
/-- The head of nothing. -/
theorem Hd.none {w : World} {p T : Nat} {more : List Value} (hr : w.heap[p]? = some (.cells ([Value.slice none 0 0, .map none, .int .i64 0] ++ more).toArray T (0, 0))) : Hd w [p] p T more [] (.slice none 0 0) (.map none) :=
  ⟨by simpa [ends] using hr, World.ownsRow_nil _ _ _ 34, Or.inl ⟨rfl, rfl⟩, by simp, fun g hg => by simp [Value.ownBlock] at hg, fun b hb => by simp [mapBlock] at hb, fun i e h => by simp at h, by simp, by decide, fun x hx => by simp at hx; subst hx; exact lt_of_block hr⟩

/-- Behind the reading of a head. -/
def RhQ (base p q : Nat) (es : List En) (n : Int) (rest : List UInt8) (W : World) : Prop :=
  n = 0 ∧ rest = [] ∧ ∃ lv mv, Hd W (hdBlocks p lv mv) p 28 [] es lv mv ∧ W.heap[q]? = some (.cells #[.int .i64 0] 39 (0, 0)) ∧ (∀ x ∈ hdBlocks p lv mv, base ≤ x) ∧ q ∉ hdBlocks p lv mv
theorem enters_rh1 : Enters 57 := fun args w => by simp [go_sem]

theorem HdV.lower {w : World} {base b : Nat} {es : List En} {lv mv : Value} (h : HdV w base es lv mv) (hb : b ≤ base) : HdV w b es lv mv :=
  ⟨h.list, h.set, fun g hg => ⟨Nat.le_trans hb (h.hl g hg).1, (h.hl g hg).2⟩, fun g hg => ⟨Nat.le_trans hb (h.hm g hg).1, (h.hm g hg).2⟩, h.rt, h.many, h.size⟩

set_option maxRecDepth 100000 in
set_option maxHeartbeats 4000000 in
theorem rh_any (sv : Value) (es : List En) (w : World) (hsrc : SrcB w sv (headB es)) (hgd : Gd es) (hl : es.length ≤ 4096) :
    Calls Tryd.prog 36 #[sv] w fun e w' => ∃ lv mv, e = .returned (.tuple #[.agg #[lv, mv, .int .i64 (ends es : Int)], .bool true]) ∧ Kept [] w w' ∧ HdV w' w.heap.size es lv mv := by
  have hmf : ∀ (fn : Fn) (first cap : Array Value) (w : World), (Instr.makeFunc fn first cap).run Tryd.prog w = .ok (.func fn first cap) w := fun _ _ _ _ => rfl
  have hids : ∀ e ∈ es, e.id.length = 32 := fun e he => by obtain ⟨i, hi⟩ := List.getElem?_of_mem he; exact (hgd i e hi).2.2.1
  have hhl := headB_len es hids
  obtain ⟨p, hp⟩ : ∃ p, p = w.heap.size + 1 := ⟨_, rfl⟩
  obtain ⟨q, hq⟩ : ∃ q, q = w.heap.size + 2 := ⟨_, rfl⟩
  obtain ⟨W0, hW0⟩ : ∃ W0, W0 = (((w.alloc (.cells #[.slice none 0 0, .map none, .int .i64 0] 28)).alloc (.cells #[.slice none 0 0, .map none, .int .i64 0] 28)).alloc (.cells #[.int .i64 0] 39)) := ⟨_, rfl⟩
  have K0 := hid (show Kept [] w W0 from hW0 ▸ (((Kept.refl [] w).alloc _).alloc _).alloc _)
  have Br := hid (show W0.heap[w.heap.size]? = some (.cells #[.slice none 0 0, .map none, .int .i64 0] 28 (0, 0)) from hW0 ▸ heap_alloc_old (heap_alloc_old (heap_alloc_at rfl)))
  have Bp := hid (show W0.heap[p]? = some (.cells #[.slice none 0 0, .map none, .int .i64 0] 28 (0, 0)) from hW0 ▸ heap_alloc_old (heap_alloc_at (by simp [hp])))
  have Bq := hid (show W0.heap[q]? = some (.cells #[.int .i64 0] 39 (0, 0)) from hW0 ▸ heap_alloc_at (by simp [hq]))
  have lq := lt_of_block Bq.out
  have hd := hid (decode_any' 57 enters_rh1 #[.pointer (some ⟨p, 0, none⟩), .pointer (some ⟨q, 0, none⟩)] sv (headB es) W0 (hsrc.kept K0.out (by simp)) (by omega) [q, p] (fun x hx => by simp at hx; omega)
    (RhQ p p q es)
    (fun n rest W W' x hq' hx he hk => by
      obtain ⟨h1, h2, lv, mv, h3, h4, h5, h6⟩ := hq'
      have hn := h3.err he (by omega)
      exact ⟨h1, h2, lv, mv, h3.kept hk (fun y hy => by simp; rintro rfl; exact hn hy), hk.at h4 (by simp; omega), h5, h6⟩)
    (fun rb a' c' W hk hrb hab hrd => by
      have ha : ∃ x, a' = some x := by
        cases a' with
        | none => have := hrd.nil rfl; have := hrd.le; omega
        | some x => exact ⟨x, rfl⟩
      obtain ⟨x, rfl⟩ := ha
      have hx := hab x rfl
      have hxr := (hrd.src x rfl).1
      have hTR : TRd W rb x.block (headB es ++ []) := ⟨some x, c', by rw [List.append_nil]; exact hrd, fun y hy => by cases hy; rfl, hx.2, hxr⟩
      refine (rh_in rb x.block p q [p] es _ _ W hTR hgd (by omega) (Hd.none (more := []) (hk.at Bp.out (by simp))) (hk.at Bq.out (by simp)) (by simp; omega) (by simp; omega) (by omega) (by simp; omega) (by omega)).mono ?_
      rintro e w' ⟨S, lv, mv, rfl, k1, ⟨a2, c2, r1, r2, _⟩, h1, h2, h3, h4⟩
      refine Or.inl ⟨rfl, a2, c2, [], r1, k1.wider (fun y _ hy => by simp at hy ⊢; omega), fun y hy => ⟨x, rfl, r2 y hy⟩, rfl, rfl, lv, mv, h1.own, h2, fun y hy => ?_, fun hm => h4 (h1.sub _ hm)⟩
      rcases h3 y (h1.sub y hy) with h | h
      · simp at h; omega
      · have := K0.out.size; have := hk.size; omega))
  have HW0 := hid hW0
  have Hp := hid hp; have Hq := hid hq
  have hz : ∀ w, (zeroValue 28).run Tryd.prog w = .ok (.agg #[.slice none 0 0, .map none, .int .i64 0]) w := fun w => by kernel_rfl
  rw [hp, hq] at hd
  clear hsrc hgd hhl hids lq hW0 hp hq
  go_enter Tryd.func36, Tryd.ntmps36
  go_wp2_with fail
  rw [← HW0.out]
  refine hd.out.mono ?_
  rintro e w2 ⟨n, rest, rfl, hk2, rfl, rfl, lv, mv, h1, h2, h3, h4⟩
  obtain ⟨la, lc, rfl⟩ := owns_slice h1.list
  obtain ⟨mb, rfl⟩ : ∃ mb, mv = .map mb := by rcases h1.set with ⟨h, _⟩ | ⟨b, _, _, h, _⟩ <;> exact ⟨_, h⟩
  have hv := hid (h1.val h3)
  have K2 := hid (show Kept [] w w2 from K0.out.trans' hk2 (fun x hx hm => by simp at hm; omega))
  have hp2 := hid (show w2.heap[w.heap.size + 1]? = some (.cells #[.slice la es.length lc, .map mb, .int .i64 (ends es : Int)] 28 (0, 0)) by have := h1.row; simpa using this)
  have hr2 := hid (hk2.at Br.out (by simp))
  have hq2 := hid (show w2.heap[w.heap.size + 1 + 1]? = some (.cells #[.int .i64 0] 39 (0, 0)) from h2)
  have g0 : w2.cell? ⟨w.heap.size + 1, 0, none⟩ = some (.slice la es.length lc) := by rw [cell_of_row w2 _ 0 _ _ _ hp2.out]; rfl
  have g1 : w2.cell? ⟨w.heap.size + 1, 1, none⟩ = some (.map mb) := by rw [cell_of_row w2 _ 1 _ _ _ hp2.out]; rfl
  have g2 : w2.cell? ⟨w.heap.size + 1, 2, none⟩ = some (.int .i64 (ends es : Int)) := by rw [cell_of_row w2 _ 2 _ _ _ hp2.out]; rfl
  have gq : w2.cell? ⟨w.heap.size + 1 + 1, 0, none⟩ = some (.int .i64 0) := cell_of_one hq2.out
  have f0 : w2.frozen? ⟨w.heap.size, 0, none⟩ = false := free_of_row hr2.out
  have f1 : w2.frozen? ⟨w.heap.size, 1, none⟩ = false := free_of_row hr2.out
  have f2 : w2.frozen? ⟨w.heap.size, 2, none⟩ = false := free_of_row hr2.out
  have r0 : w2.cell? ⟨w.heap.size, 0, none⟩ = some (.slice none 0 0) := by rw [cell_of_row w2 _ 0 _ _ _ hr2.out]; rfl
  have r1 : w2.cell? ⟨w.heap.size, 1, none⟩ = some (.map none) := by rw [cell_of_row w2 _ 1 _ _ _ hr2.out]; rfl
  have r2 : w2.cell? ⟨w.heap.size, 2, none⟩ = some (.int .i64 0) := by rw [cell_of_row w2 _ 2 _ _ _ hr2.out]; rfl
  clear h1 h2 h3 h4 hk2 hd
  go_wp2_with fail
  go_region
  have hW := hid (Kept.drew (((Kept.refl [w.heap.size] w2).setCell (p := ⟨w.heap.size, 0, none⟩) (fun _ => by simp) (.slice la es.length lc)).setCell (p := ⟨w.heap.size, 1, none⟩) (fun _ => by simp) (.map mb) |>.setCell (p := ⟨w.heap.size, 2, none⟩) (fun _ => by simp) (.int .i64 (ends es : Int))))
  have hrW := hid (show ((((w2.setCell ⟨w.heap.size, 0, none⟩ (.slice la es.length lc)).setCell ⟨w.heap.size, 1, none⟩ (.map mb)).setCell ⟨w.heap.size, 2, none⟩ (.int .i64 (ends es : Int))).drew).heap[w.heap.size]? = some (.cells #[.slice la es.length lc, .map mb, .int .i64 (ends es : Int)] 28 (0, 0)) from by
    have a1 := Go.heap_setCell_same w2 w.heap.size 0 _ _ (.slice la es.length lc) hr2.out
    have a2 := Go.heap_setCell_same _ w.heap.size 1 _ _ (.map mb) a1
    have a3 := Go.heap_setCell_same _ w.heap.size 2 _ _ (.int .i64 (ends es : Int)) a2
    show (((w2.setCell ⟨w.heap.size, 0, none⟩ (.slice la es.length lc)).setCell ⟨w.heap.size, 1, none⟩ (.map mb)).setCell ⟨w.heap.size, 2, none⟩ (.int .i64 (ends es : Int))).heap[w.heap.size]? = _
    simpa using a3)
  generalize (((w2.setCell ⟨w.heap.size, 0, none⟩ (.slice la es.length lc)).setCell ⟨w.heap.size, 1, none⟩ (.map mb)).setCell ⟨w.heap.size, 2, none⟩ (.int .i64 (ends es : Int))).drew = wz at *
  clear g0 g1 g2 gq f0 f1 f2 r0 r1 r2
  go_wp2
  have hld : (loadVar 28 ⟨w.heap.size, 0, none⟩).run Tryd.prog wz = .ok (.agg #[.slice la es.length lc, .map mb, .int .i64 (ends es : Int)]) wz :=
    run_loadVar_cells wz _ _ [.slice la es.length lc, .map mb, .int .i64 (ends es : Int)] _ Tryd.underlying28 rfl (by kernel_rfl) (fun j v hj => by rw [plain_add', cell_of_row wz _ j _ _ _ hrW.out]; simpa using hj)
  refine bodyPost_ret (v := .tuple #[.agg #[.slice la es.length lc, .map mb, .int .i64 (ends es : Int)], .bool true]) (results_cell2 Tryd.results36 rfl rfl hld) rfl ⟨_, _, rfl, K2.out.trans' hW.out (fun x hx hm => by simp at hm; omega), (hv.out.kept hW.out (fun x hx => by simp at hx; omega)).lower (by omega)⟩
end Go.Proofs.YtembincggkpflaaDoor


/- Packs as mathematics: the places of blobs, whether one more is taken, where a pack's head stands. -/
namespace Go.Proofs.YtembincggkpflaaDoor
open Go.RowKit Go.Lib Go.Maps

/-- The places of blobs that stand one behind the other, the first one at o. -/
def ensFrom (o : Nat) : List (List UInt8) → List En
  | [] => []
  | b :: r => ⟨Sha.sum b, o, b.length⟩ :: ensFrom (o + b.length) r
abbrev ens (bl : List (List UInt8)) : List En := ensFrom 0 bl
theorem ensFrom_len (o : Nat) (bl : List (List UInt8)) : (ensFrom o bl).length = bl.length := by
  induction bl generalizing o with
  | nil => rfl
  | cons b r ih => simp [ensFrom, ih]
theorem ensFrom_ends (o : Nat) (bl : List (List UInt8)) : ends (ensFrom o bl) = bl.flatten.length := by
  induction bl generalizing o with
  | nil => rfl
  | cons b r ih => have := ih (o + b.length); unfold ends at *; simp only [ensFrom, List.map_cons, List.sum_cons, this, List.flatten_cons, List.length_append]
theorem ensFrom_append (o : Nat) (bl cl : List (List UInt8)) : ensFrom o (bl ++ cl) = ensFrom o bl ++ ensFrom (o + bl.flatten.length) cl := by
  induction bl generalizing o with
  | nil => simp [ensFrom]
  | cons b r ih => simp [ensFrom, ih, Nat.add_assoc]
theorem ens_len (bl : List (List UInt8)) : (ens bl).length = bl.length := ensFrom_len 0 bl
theorem ens_ends (bl : List (List UInt8)) : ends (ens bl) = bl.flatten.length := ensFrom_ends 0 bl
theorem ens_snoc (bl : List (List UInt8)) (b : List UInt8) : ens (bl ++ [b]) = ens bl ++ [addE (ens bl) (Sha.sum b) b.length] := by
  unfold ens; rw [ensFrom_append]; simp only [ensFrom, addE, ensFrom_ends, Nat.zero_add]
theorem ensFrom_get (o : Nat) (bl : List (List UInt8)) (i : Nat) : (ensFrom o bl)[i]? = (bl[i]?).map fun b => ⟨Sha.sum b, o + (bl.take i).flatten.length, b.length⟩ := by
  induction bl generalizing o i with
  | nil => simp [ensFrom]
  | cons b r ih =>
    cases i with
    | zero => simp [ensFrom]
    | succ i => simp [ensFrom, ih, Nat.add_assoc]
theorem ens_get (bl : List (List UInt8)) (i : Nat) : (ens bl)[i]? = (bl[i]?).map fun b => ⟨Sha.sum b, (bl.take i).flatten.length, b.length⟩ := by unfold ens; rw [ensFrom_get]; simp
theorem ens_take (bl : List (List UInt8)) (i : Nat) : (ens bl).take i = ens (bl.take i) := by
  refine List.ext_getElem? fun j => ?_
  rw [List.getElem?_take]
  rw [ens_get, ens_get, List.getElem?_take]
  by_cases h : j < i
  · rw [if_pos h, if_pos h, List.take_take, Nat.min_eq_left (by omega)]
  · rw [if_neg h, if_neg h]; rfl
/-- The bytes of a blob by its place. -/
theorem flat_part (bl : List (List UInt8)) (i : Nat) (b : List UInt8) (h : bl[i]? = some b) : (bl.flatten.drop (bl.take i).flatten.length).take b.length = b := by
  have h1 : bl = bl.take i ++ b :: bl.drop (i + 1) := by
    have hi := (List.getElem?_eq_some_iff.1 h)
    obtain ⟨hlt, rfl⟩ := hi
    rw [← List.drop_eq_getElem_cons hlt, List.take_append_drop]
  have h2 : bl.flatten = (bl.take i).flatten ++ (b ++ (bl.drop (i + 1)).flatten) := by
    conv => lhs; rw [h1]
    simp
  rw [h2, List.drop_left, List.take_left]
theorem flat_le (bl : List (List UInt8)) (i : Nat) (b : List UInt8) (h : bl[i]? = some b) : (bl.take i).flatten.length + b.length ≤ bl.flatten.length := by
  have hi := (List.getElem?_eq_some_iff.1 h)
  obtain ⟨hlt, rfl⟩ := hi
  have h2 : bl.flatten = (bl.take i).flatten ++ (bl[i] ++ (bl.drop (i + 1)).flatten) := by
    conv => lhs; rw [← List.take_append_drop i bl, List.drop_eq_getElem_cons hlt, List.flatten_append, List.flatten_cons]
  rw [h2]; simp
/-- Is a blob taken? The blobs behind it. -/
def took (bl : List (List UInt8)) (b : List UInt8) : Bool := decide (addErr (ens bl) (Sha.sum b) b.length = 0)
def more1 (bl : List (List UInt8)) (b : List UInt8) : List (List UInt8) := if took bl b then bl ++ [b] else bl
def accAll (xs : List (List UInt8)) : List (List UInt8) := xs.foldl more1 []
theorem accAll_snoc (xs : List (List UInt8)) (b : List UInt8) : accAll (xs ++ [b]) = more1 (accAll xs) b := by simp [accAll]
theorem more1_len (bl : List (List UInt8)) (b : List UInt8) : (more1 bl b).length ≤ bl.length + 1 := by unfold more1; split <;> simp
theorem accAll_take (xs : List (List UInt8)) (i : Nat) (h : i < xs.length) : accAll (xs.take (i + 1)) = more1 (accAll (xs.take i)) xs[i] := by
  rw [List.take_succ_eq_append_getElem h, accAll_snoc]
theorem accAll_len (xs : List (List UInt8)) : (accAll xs).length ≤ xs.length := by
  have h : ∀ n, ∀ xs : List (List UInt8), xs.length = n → (accAll xs).length ≤ n := by
    intro n
    induction n with
    | zero => intro xs h; rw [List.eq_nil_of_length_eq_zero h]; simp [accAll]
    | succ n ih =>
      intro xs h
      have e : xs = xs.take n ++ [xs[n]] := by rw [← List.take_succ_eq_append_getElem (by omega), List.take_of_length_le (by omega)]
      rw [e, accAll_snoc]
      have h1 := more1_len (accAll (xs.take n)) xs[n]
      have h2 := ih (xs.take n) (by simp; omega)
      omega
  exact h _ xs rfl
theorem sum32 (b : List UInt8) : (Sha.sum b).length = 32 := Sha.sum_len b
/-- Places that adding made. -/
def Good (bl : List (List UInt8)) : Prop := Gd (ens bl)
theorem good_nil : Good [] := fun i e h => by simp [ens, ensFrom] at h
theorem addErr_zero {es : List En} {id : List UInt8} {n : Nat} (h : addErr es id n = 0) : n ≤ 65536 ∧ es.length ≠ 4096 ∧ id ∉ es.map En.id ∧ sizeP es + n + 36 ≤ 1048576 := by
  unfold addErr at h
  split at h
  · cases h
  · split at h
    · cases h
    · split at h
      · cases h
      · split at h
        · cases h
        · exact ⟨by omega, by assumption, by assumption, by omega⟩
theorem Good.snoc {bl : List (List UInt8)} (h : Good bl) {b : List UInt8} (hb : took bl b = true) : Good (bl ++ [b]) := by
  unfold took at hb
  have h0 := of_decide_eq_true hb
  unfold Good Gd
  rw [ens_snoc]
  intro i e hi
  rcases Nat.lt_trichotomy i (ens bl).length with hl | hl | hl
  · rw [List.getElem?_append_left hl] at hi
    rw [List.take_append_of_le_length (by omega)]
    exact h i e hi
  · subst hl
    rw [List.getElem?_append_right (Nat.le_refl _)] at hi
    simp at hi
    subst hi
    rw [List.take_append_of_le_length (Nat.le_refl _), List.take_length]
    exact ⟨rfl, h0, sum32 b, by have := (addErr_zero h0).1; show b.length < _; omega⟩
  · rw [List.getElem?_eq_none (by simp; omega)] at hi; cases hi
theorem Good.more {bl : List (List UInt8)} (h : Good bl) (b : List UInt8) : Good (more1 bl b) := by
  unfold more1; split
  · exact h.snoc (by assumption)
  · exact h
theorem good_all (xs : List (List UInt8)) : Good (accAll xs) := by
  have h : ∀ (ys : List (List UInt8)) bl, Good bl → Good (ys.foldl more1 bl) := by
    intro ys
    induction ys with
    | nil => intro bl h; exact h
    | cons y r ih => intro bl h; exact ih _ (h.more y)
  exact h xs [] good_nil
/-- A good row's size. -/
theorem Good.size {bl : List (List UInt8)} (h : Good bl) : sizeP (ens bl) ≤ 1048576 ∧ bl.length ≤ 4096 := by
  rcases List.eq_nil_or_concat bl with rfl | ⟨r, b, rfl⟩
  · exact ⟨by decide, by simp⟩
  · rw [List.concat_eq_append] at *
    have h1 := h r.length (addE (ens r) (Sha.sum b) b.length) (by rw [ens_snoc, ← ens_len r, List.getElem?_append_right (Nat.le_refl _)]; simp)
    have h2 := addErr_zero h1.2.1
    rw [ens_take, List.take_left] at h2
    rw [ens_snoc, sizeP_snoc]
    rw [ens_len] at h2
    have h3 : (ens r).length ≤ 4096 := by
      have := fun i e hi => (addErr_zero (h i e hi).2.1).2.1
      rw [ens_len]
      apply Decidable.byContradiction
      intro hc
      have h4 := this 4096 ((ens (r ++ [b]))[4096]'(by rw [ens_len]; simp; omega)) (by simp)
      rw [ens_take, ens_len] at h4
      simp at h4
      omega
    rw [ens_len] at h3
    refine ⟨?_, by simp; omega⟩
    show sizeP (ens r) + b.length + 36 ≤ _
    have h4 := h2.2.2.2
    simp only [addE] at h4
    omega

/-- A pack's bytes, whatever stands ahead of its head. -/
def tailP (es : List En) : List UInt8 := sealed 80 (headB es) ++ numB (sealed 80 (headB es)).length 4
theorem packB_eq (es : List En) (bs : List UInt8) : packB es bs = bs ++ tailP es := by unfold packB tailP; rw [List.append_assoc]
theorem tailP_len (es : List En) (h : ∀ e ∈ es, e.id.length = 32) : (tailP es).length = es.length * 36 + 13 := by
  unfold tailP; rw [List.length_append, numB_len, sealed_len, headB_len es h]; omega
theorem packB_len (es : List En) (bs : List UInt8) (h : ∀ e ∈ es, e.id.length = 32) (hb : bs.length = ends es) : (packB es bs).length = sizeP es := by
  rw [packB_eq, List.length_append, tailP_len es h, hb]; unfold sizeP; omega
theorem shNum_at (pre hd : List UInt8) (h : hd.length < 4294967296) : shNum (pre ++ (hd ++ numB hd.length 4)) = hd.length := by
  unfold shNum
  have e : (pre ++ (hd ++ numB hd.length 4)).length - 4 = (pre ++ hd).length := by simp [numB_len]; omega
  rw [e, ← List.append_assoc, List.drop_left, numOf_numB]
  exact Nat.mod_eq_of_lt (by simpa using h)
theorem sh_at (pre hd : List UInt8) (h : hd.length < 4294967296) : shErr (pre ++ (hd ++ numB hd.length 4)) = 0 ∧ shOf (pre ++ (hd ++ numB hd.length 4)) = hd := by
  have hn := shNum_at pre hd h
  have hl : (pre ++ (hd ++ numB hd.length 4)).length = pre.length + hd.length + 4 := by simp [numB_len]; omega
  constructor
  · unfold shErr; rw [hn, hl, if_neg (by omega), if_neg (by omega)]
  · unfold shOf; rw [hn, hl, show pre.length + hd.length + 4 - 4 - hd.length = pre.length by omega, List.drop_left, List.take_left]
theorem sh_far (hd : List UInt8) (k : Nat) (h : hd.length < 4294967296) (h0 : 0 < k) (hk : k ≤ hd.length) : shErr ((hd ++ numB hd.length 4).drop k) = 20 := by
  have e : (hd ++ numB hd.length 4).drop k = [] ++ (hd.drop k ++ numB hd.length 4) := by rw [List.drop_append_of_le_length hk]; rfl
  have hn : shNum ((hd ++ numB hd.length 4).drop k) = hd.length := by
    unfold shNum
    have e2 : ((hd ++ numB hd.length 4).drop k).length - 4 = (hd.drop k).length := by simp [numB_len]; omega
    rw [e2, e, List.nil_append, List.drop_left, numOf_numB]
    exact Nat.mod_eq_of_lt (by simpa using h)
  unfold shErr
  rw [hn, if_neg (by simp [numB_len]; omega), if_pos (by simp [numB_len]; omega)]
end Go.Proofs.YtembincggkpflaaDoor
