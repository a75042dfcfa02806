/- coldstorelaw03.alive. -/
import Derived.Test.YtieaolnnlfaagaaDoorHB
import Derived.BigGuardPart
import Derived.Deep.WholeRow
import Derived.Lib.SlBytesConst
import Derived.Test.YtieaolnnlfaagaaDoorHL
namespace Go.Proofs.YtieaolnnlfaagaaDoor
open Go.RowKit

theorem id_cells (x : List UInt8) (hx : x.length = 32) : (Tryd.prog.info? 24).map (·.size) = some (x.map B).toArray.size ∧ (x.map B).toArray.all (·.oneCell') = true ∧ (x.map B).toArray.size = 32 ∧ ((List.replicate 32 (0 : UInt8)).map B).toArray.size = (x.map B).toArray.size := by
  have h : (x.map B).toArray.size = 32 := by simp [hx]
  refine ⟨by rw [h]; exact info_id, ?_, h, by rw [h]; simp⟩
  rw [Array.all_eq_true_iff_forall_mem]
  intro u hu
  exact B_one x u (by simpa using hu)

/-- 'step_call' at a callee that is named: elsewhere it does not fit. -/
theorem step_callf {P : Program} {ops : Array Oper} {o : Oper} {a : Act} {w : World} {K : Act → World → Prop} {Q : Exit → Act → World → Prop} {E : Prop} {xs : Array Operand} {ts : Array TypeId} (hg : o.guard = none ∨ Region.wanted o (yielded ops a.tmps) = true) (f : FuncId) (_ : o.op = .call { callee := .value (.func f), args := xs, argTypes := ts }) (args : Array Value)
    (hrun : (execOp a.eval o).run P w = .ok (.enter f args) w) (R : Value → World → Prop) (h : Calls P f args w fun e w' => ∃ v, e = .returned v ∧ R v w')
    (hK : ∀ v w', R v w' → K (a.put o.dst v) w') : if Region.wanted o (yielded ops a.tmps) = true then Oper.wp P o a w K Q else E := by
  have hw : Region.wanted o (yielded ops a.tmps) = true := by
    rcases hg with hg | hg
    · simp [Region.wanted, hg]
    · exact hg
  rw [if_pos hw]
  unfold Oper.wp
  rw [hrun]
  exact h.mono fun e w' ⟨v, he, hr⟩ => by subst he; exact hK v w' hr

/-- What stands through the last test: the hash at p was written xs, the sum at q is x. -/
def Al (w : World) (p q : Nat) (xs x : List UInt8) (v : World) : Prop :=
  Kept [] w v ∧ Hs v p xs ∧ v.heap[q]? = some (.cells (x.map B).toArray 24 (0, 0)) ∧ Tabs v ∧ 1 < p
theorem Al.next {w v v' : World} {p q : Nat} {xs x : List UInt8} (h : Al w p q xs x v) (hk : Kept [] v v') : Al w p q xs x v' :=
  ⟨h.1.trans hk, h.2.1.kept hk (by simp), hk.at h.2.2.1 (by simp), h.2.2.2.1.kept hk (by simp) (by simp), h.2.2.2.2⟩
theorem Al.drew {w v : World} {p q : Nat} {xs x : List UInt8} (h : Al w p q xs x v) : Al w p q xs x v.drew := h.next (Kept.of_drew [] v)
theorem Al.ld {w v : World} {p q : Nat} {xs x : List UInt8} (h : Al w p q xs x v) (hx : x.length = 32) : (ldID (.pointer (some ⟨q, 0, none⟩))).run Tryd.prog v = .ok (.agg (x.map B).toArray) v :=
  run_ldID v q _ h.2.2.1 (by simp [hx])
theorem Al.range {w v : World} {p q : Nat} {xs x : List UInt8} (h : Al w p q xs x v) : v.rangeAt q 0 (x.map B) := fun j u hj => by
  rw [Nat.zero_add, cell_of_row v _ _ _ _ _ h.2.2.1]
  simpa using hj
theorem al_call {w v : World} {p q : Nat} {xs x : List UInt8} {f : FuncId} {args : Array Value} {val : Value} (h : Al w p q xs x v) (hc : Calls Tryd.prog f args v fun e w' => e = .returned val ∧ Kept [] v w') :
    Calls Tryd.prog f args v fun e w' => e = .returned val ∧ Al w p q xs x w' :=
  hc.mono fun _ _ h' => ⟨h'.1, h.next h'.2⟩

set_option maxRecDepth 100000 in
set_option maxHeartbeats 2000000 in
theorem alive03 (w : World) (ht : Tabs w) : Calls Tryd.prog 4 #[] w fun e w' => e = .returned (.bool true) ∧ Kept [] w w' := by
  obtain ⟨x0, hx0⟩ : ∃ x, x = Sha.sum [] := ⟨_, rfl⟩
  have hl0 : x0.length = 32 := by rw [hx0]; exact Sha.sum_len _
  obtain ⟨t0, ht0⟩ : ∃ t, t = hexOf x0 := ⟨_, rfl⟩
  have ht64 : t0.length = 64 := by rw [ht0, hexOf_len, hl0]
  have hp0 := hid (parse_text x0 hl0)
  rw [← ht0] at hp0
  have hp1 := hid (parse_short t0.tail (by simp; omega))
  have hcut : (⟨t0.toArray⟩ : ByteArray).extract 0 8 = _ := extract_l t0 0 8
  have hcut1 : (⟨t0.toArray⟩ : ByteArray).extract 1 t0.length = ⟨t0.tail.toArray⟩ := by rw [extract_l]; simp
  have htake : t0.take 8 = [101, 51, 98, 48, 99, 52, 52, 50] := by rw [ht0, hx0]; exact hex_nil
  rw [htake, List.drop_zero] at hcut
  obtain ⟨x1, hx1⟩ : ∃ x, x = Sha.sum [97, 98, 99] := ⟨_, rfl⟩
  have hl1 : x1.length = 32 := by rw [hx1]; exact Sha.sum_len _
  obtain ⟨t1, ht1⟩ : ∃ t, t = hexOf x1 := ⟨_, rfl⟩
  have hcut2 : (⟨t1.toArray⟩ : ByteArray).extract 0 8 = _ := extract_l t1 0 8
  have htake1 : t1.take 8 = [98, 97, 55, 56, 49, 54, 98, 102] := by rw [ht1, hx1]; exact hex_abc
  rw [htake1, List.drop_zero] at hcut2
  have hless := hid (show lessL x1 x0 = true by rw [hx1, hx0]; exact less_abc)
  have hofs := hid (show ∀ w, Tabs w → Calls Tryd.prog 7 #[.slice none 0 0] w fun e w' => e = .returned (.agg (x0.map B).toArray) ∧ Kept [] w w' by
    intro w ht
    rw [hx0]
    exact of_any none 0 [] w ht ⟨fun _ => rfl, fun ad h => by simp at h⟩ (by simp) (by omega) (by simp))
  obtain ⟨cs0, hcs0⟩ : ∃ cs0, cs0 = z0 := ⟨_, rfl⟩
  have hzv : ∀ W, (zeroValue 39).run Tryd.prog W = .ok (.agg cs0.toArray) W := by rw [hcs0]; exact zero_hash
  have Hcs0 := hid hcs0
  have Hx1 := hid hx1
  have Hl1 := hid hl1
  have Ht1 := hid ht1
  have Ht0 := hid ht0
  have Hl0 := hid hl0
  have Ht := hid ht
  have hi64 : (t0.length : Int) = 64 := by omega
  have hi641 : (t1.length : Int) = 64 := by have := hexOf_len x1; rw [← ht1] at this; omega
  clear hcs0 hx0 hx1 ht0 ht1 hl0 hl1 htake htake1 ht ht64
  have hcv := fun (w : World) (C : Array Value) (n c : Nat) => Lib.run_convert_bytes_const (P := Tryd.prog) w 22 5 C n c Tryd.underlying22 Tryd.underlying5
  go_enter Tryd.func4, Tryd.ntmps4
  go_wp2_with fail
  refine (hofs.out _ Ht.out).mono ?_
  rintro e w1 ⟨rfl, hk1⟩
  have Hk1 := hid hk1
  have htx := hid (text_any x0 Hl0.out w1)
  rw [← Ht0.out] at htx
  clear hk1
  go_wp2_with fail
  refine htx.out.mono ?_
  rintro e w2 ⟨rfl, hk2⟩
  have Hk2 := hid (Hk1.out.trans hk2)
  clear hk2 Hk1 htx
  have hcv2 := hcv (w2.alloc (.cells cs0.toArray 39)) #[.int .u8 97, .int .u8 98, .int .u8 99] 3 3
  rw [World.size_alloc] at hcv2
  clear hcv
  go_wp2_with fail
  obtain ⟨wb, hwb⟩ : ∃ wb, wb = (w2.alloc (.cells cs0.toArray 39)).alloc (.cells #[.int .u8 97, .int .u8 98, .int .u8 99] 5 (3, 4)) := ⟨_, rfl⟩
  have Hkb := hid (show Kept [] w wb by rw [hwb]; exact (Hk2.out.alloc _).alloc _)
  have hHs := hid (show Hs wb w2.heap.size [] from hs_fresh (by rw [hwb, Hcs0.out]; exact heap_alloc_old (heap_alloc_at rfl)))
  have hRd := hid (show Reads wb (some ⟨w2.heap.size + 1, 0, none⟩) [97, 98, 99] from ⟨fun h => by simp at h, fun ad had j u hj => by
    simp at had; subst had
    rw [plain_add, Nat.zero_add, hwb, cell_of_row _ _ _ _ _ _ (heap_alloc_at (by simp))]
    rcases j with _ | _ | _ | j <;> first | exact hj | simp at hj⟩)
  have hp1' : 1 < w2.heap.size := by have := Ht.out.pos; have := Hk2.out.size; omega
  have hwr := hid (write_any w2.heap.size (some ⟨w2.heap.size + 1, 0, none⟩) 3 [] [97, 98, 99] wb hHs.out (Ht.out.kept Hkb.out (by simp) (by simp)) hp1' hRd.out (fun _ x hx => by simp at hx; subst hx; show w2.heap.size + 1 ≠ _; omega) (by decide) (by decide) (by decide))
  rw [← hwb]
  clear hwb
  refine hwr.out.mono ?_
  rintro e w3 ⟨rfl, hk3, hs3⟩
  have Hs3 := hid (show Hs w3 w2.heap.size [97, 98, 99] from hs3.hs)
  have Hk3 := hid (Hkb.out.trans' hk3 (fun x hx hm => by simp at hm; have := Hk2.out.size; omega))
  have hz2 := Hk2.out.size
  have hz3 : w2.heap.size < w3.heap.size := Hs3.out.lt
  obtain ⟨p, hp⟩ : ∃ p, p = w2.heap.size := ⟨_, rfl⟩
  rw [← hp] at Hs3 hz2 hz3 hp1' ⊢
  clear hwr hk3 hs3 Hkb hHs hRd Hk2 hp Hcs0
  have hpa := hid (parse_any t0 (by omega) w3)
  rw [hp0.out.1, hp0.out.2] at hpa
  go_wp2_with fail
  refine hpa.out.mono ?_
  rintro e w4 ⟨rfl, hk4⟩
  have Hk4 := hid (Hk3.out.trans hk4)
  have Hs4 := hid (Hs3.out.kept hk4 (by simp))
  have hz4 : w3.heap.size ≤ w4.heap.size := hk4.size
  clear hk4 hpa Hs3 Hk3
  have ix0 := hid (id_cells x0 Hl0.out)
  obtain ⟨zz, hzz⟩ : ∃ zz, zz = List.replicate 32 (0 : UInt8) := ⟨_, rfl⟩
  have hzl : zz.length = 32 := by rw [hzz]; simp
  have ixz := hid (id_cells zz hzl)
  have Hzz := hid hzz
  clear hzz hzl
  have HG4 := hid (show (w4.alloc (.cells ((List.replicate 32 (0 : UInt8)).map B).toArray 24)).heap[w4.heap.size]? = some (.cells ((List.replicate 32 (0 : UInt8)).map B).toArray 24 (0, 0)) from heap_alloc_at rfl)
  go_wp2_with (refine wpList_store_row rfl 24 (.tmp 3) (.tmp 23) rfl w4.heap.size (x0.map B).toArray rfl rfl _ _ HG4.out ix0.out.1 ix0.out.2.2.2 ix0.out.2.1 ?_; refine halt ?_)
  clear HG4
  rw [World.setRow_alloc_new]
  obtain ⟨w5, hw5⟩ : ∃ w5, w5 = w4.alloc (.cells (x0.map B).toArray 24) := ⟨_, rfl⟩
  have Hk5 := hid (show Kept [] w w5 by rw [hw5]; exact Hk4.out.alloc _)
  have Hs5 := hid (show Hs w5 p [97, 98, 99] by rw [hw5]; exact Hs4.out.kept ((Kept.refl [] w4).alloc _) (by simp))
  have Hi5 := hid (show w5.heap[w4.heap.size]? = some (.cells (x0.map B).toArray 24 (0, 0)) by rw [hw5]; exact heap_alloc_at rfl)
  rw [← hw5]
  obtain ⟨q, hq⟩ : ∃ q, q = w4.heap.size := ⟨_, rfl⟩
  rw [← hq] at Hi5 ⊢
  clear hw5 hq Hk4 Hs4
  refine Halt.mk ?_
  have hpb := hid (parse_any t0.tail (by simp; omega) w5)
  rw [hp1.out.1, hp1.out.2, ← Hzz.out] at hpb
  go_wp2_with fail
  refine hpb.out.mono ?_
  rintro e w6 ⟨rfl, hk6⟩
  have Hk6 := hid (Hk5.out.trans hk6)
  have Hs6 := hid (Hs5.out.kept hk6 (by simp))
  have Hi6 := hid (hk6.at Hi5.out (by simp))
  clear hk6 hpb Hs5 Hk5 Hi5
  have HG6 := hid (show (w6.alloc (.cells ((List.replicate 32 (0 : UInt8)).map B).toArray 24)).heap[w6.heap.size]? = some (.cells ((List.replicate 32 (0 : UInt8)).map B).toArray 24 (0, 0)) from heap_alloc_at rfl)
  go_wp2_with (refine wpList_store_row rfl 24 (.tmp 5) (.tmp 29) rfl w6.heap.size (zz.map B).toArray rfl rfl _ _ HG6.out ixz.out.1 ixz.out.2.2.2 ixz.out.2.1 ?_; refine halt ?_)
  clear HG6
  rw [World.setRow_alloc_new]
  obtain ⟨W, hW⟩ : ∃ W, W = w6.alloc (.cells (zz.map B).toArray 24) := ⟨_, rfl⟩
  have HkW := hid (show Kept [] w W by rw [hW]; exact Hk6.out.alloc _)
  have HsW := hid (show Hs W p [97, 98, 99] by rw [hW]; exact Hs6.out.kept ((Kept.refl [] w6).alloc _) (by simp))
  have HiW := hid (show W.heap[q]? = some (.cells (x0.map B).toArray 24 (0, 0)) by rw [hW]; exact heap_alloc_old Hi6.out)
  rw [← hW]
  clear hW Hk6 Hs6 Hi6 hzv hcv2 hcut1
  refine Halt.mk ?_
  have hAl : Hid (Al w p q [97, 98, 99] x0 W.drew) := hid (Al.drew ⟨HkW.out, HsW.out, HiW.out, Ht.out.kept HkW.out (by simp) (by simp), hp1'⟩)
  have cSum := hid (show ∀ v, Al w p q [97, 98, 99] x0 v → Calls Tryd.prog 14 #[.pointer (some ⟨p, 0, none⟩)] v fun e w' => e = .returned (.agg (x1.map B).toArray) ∧ Al w p q [97, 98, 99] x0 w' from fun v h => al_call h (by
    rw [Hx1.out]; exact sum_any p [97, 98, 99] v h.2.1 h.2.2.2.1 h.2.2.2.2 (by decide)))
  have cOf := hid (show ∀ v, Al w p q [97, 98, 99] x0 v → Calls Tryd.prog 7 #[.slice none 0 0] v fun e w' => e = .returned (.agg (x0.map B).toArray) ∧ Al w p q [97, 98, 99] x0 w' from fun v h => al_call h (hofs.out v h.2.2.2.1))
  have cText := hid (show ∀ v, Al w p q [97, 98, 99] x0 v → Calls Tryd.prog 11 #[.agg (x1.map B).toArray] v fun e w' => e = .returned (.string ⟨t1.toArray⟩) ∧ Al w p q [97, 98, 99] x0 w' from fun v h => al_call h (by
    rw [Ht1.out]; exact text_any x1 Hl1.out v))
  have cLen := hid (show ∀ v, Al w p q [97, 98, 99] x0 v → Calls Tryd.prog 15 #[.pointer (some ⟨p, 0, none⟩)] v fun e w' => e = .returned (.int .i64 3) ∧ Al w p q [97, 98, 99] x0 w' from fun v h => al_call h ((len_any p [97, 98, 99] v h.2.1).mono fun e w' h' => ⟨h'.1, h'.2 ▸ Kept.refl _ _⟩))
  have cLess := hid (show ∀ v, Al w p q [97, 98, 99] x0 v → Calls Tryd.prog 9 #[.agg (x1.map B).toArray, .agg (x0.map B).toArray] v fun e w' => e = .returned (.bool true) ∧ Al w p q [97, 98, 99] x0 w' from fun v h => al_call h (by
    rw [← hless.out]; exact less_any x1 x0 Hl1.out Hl0.out v))
  have heq := fun W => id_equal x0 x0 Hl0.out Hl0.out W
  simp only [decide_true] at heq
  clear HkW HsW HiW hp0 hp1 hcut hofs ix0 ixz Hzz
  go_wp2_with fail
  have hu := Tryd.underlying24
  have hi : (Tryd.prog.info? 24).map (·.size) = some (x0.map B).length := by rw [List.length_map, Hl0.out]; exact info_id
  refine wp_region_held_drew (S := Al w p q [97, 98, 99] x0) (by kernel_rfl) hAl.out (fun hH => ?_)
  refine callH 0 rfl (by kernel_rfl) (by rfl) 14 #[.pointer (some ⟨p, 0, none⟩)] (by go_simp) (.agg (x1.map B).toArray) hH (cSum.out _) ?_
  clear hH
  intro vv hH
  simp only [Act.put, List.setIfInBounds_toArray, List.set_cons_succ, List.set_cons_zero]
  refine callH 1 rfl (by kernel_rfl) (by rfl) 11 #[.agg (x1.map B).toArray] (by go_simp) (.string ⟨t1.toArray⟩) hH (cText.out _) ?_
  clear hH
  intro vv hH
  simp only [Act.put, List.setIfInBounds_toArray, List.set_cons_succ, List.set_cons_zero]
  refine takeH 2 (.string ⟨#[98, 97, 55, 56, 49, 54, 98, 102]⟩) rfl (by kernel_rfl) (by kernel_rfl) (by kernel_rfl) (fun _ _ _ h => h) (by rfl) (fun w hSw => by go_simp) hH ?_
  simp only [Act.put, List.setIfInBounds_toArray, List.set_cons_succ, List.set_cons_zero]
  refine takeH 3 (Value.bool true) rfl (by kernel_rfl) (by kernel_rfl) (by kernel_rfl) (fun _ _ _ h => h) (by rfl) (fun w hSw => by go_simp) hH ?_
  simp only [Act.put, List.setIfInBounds_toArray, List.set_cons_succ, List.set_cons_zero]
  refine takeH 4 (Value.bool true) rfl (by kernel_rfl) (by kernel_rfl) (by kernel_rfl) (fun _ _ _ h => h) (by rfl) (fun w hSw => by go_simp) hH ?_
  simp only [Act.put, List.setIfInBounds_toArray, List.set_cons_succ, List.set_cons_zero]
  refine callH 5 rfl (by kernel_rfl) (by rfl) 15 #[.pointer (some ⟨p, 0, none⟩)] (by go_simp) (.int .i64 3) hH (cLen.out _) ?_
  clear hH
  intro vv hH
  simp only [Act.put, List.setIfInBounds_toArray, List.set_cons_succ, List.set_cons_zero]
  refine takeH 6 (Value.bool true) rfl (by kernel_rfl) (by kernel_rfl) (by kernel_rfl) (fun _ _ _ h => h) (by rfl) (fun w hSw => by go_simp) hH ?_
  simp only [Act.put, List.setIfInBounds_toArray, List.set_cons_succ, List.set_cons_zero]
  refine takeH 7 (Value.bool true) rfl (by kernel_rfl) (by kernel_rfl) (by kernel_rfl) (fun _ _ _ h => h) (by rfl) (fun w hSw => by go_simp) hH ?_
  simp only [Act.put, List.setIfInBounds_toArray, List.set_cons_succ, List.set_cons_zero]
  refine takeH 8 (Value.bool true) rfl (by kernel_rfl) (by kernel_rfl) (by kernel_rfl) (fun _ _ _ h => h) (by rfl) (fun w hSw => by go_simp) hH ?_
  simp only [Act.put, List.setIfInBounds_toArray, List.set_cons_succ, List.set_cons_zero]
  refine loadH 9 (x0.map B) rfl (by kernel_rfl) (by kernel_rfl) (by kernel_rfl) (fun _ _ _ h => h) (by rfl) 24 (.tmp 3) rfl (q) 0 rfl _ (fun v h => h.range) hu rfl hi hH ?_
  simp only [Act.put, List.setIfInBounds_toArray, List.set_cons_succ, List.set_cons_zero]
  refine callH 10 rfl (by kernel_rfl) (by rfl) 7 #[.slice none 0 0] (by go_simp) (.agg (x0.map B).toArray) hH (cOf.out _) ?_
  clear hH
  intro vv hH
  simp only [Act.put, List.setIfInBounds_toArray, List.set_cons_succ, List.set_cons_zero]
  refine takeH 11 (Value.bool true) rfl (by kernel_rfl) (by kernel_rfl) (by kernel_rfl) (fun _ _ _ h => h) (by rfl) (fun w hSw => by go_simp) hH ?_
  simp only [Act.put, List.setIfInBounds_toArray, List.set_cons_succ, List.set_cons_zero]
  refine takeH 12 (Value.bool true) rfl (by kernel_rfl) (by kernel_rfl) (by kernel_rfl) (fun _ _ _ h => h) (by rfl) (fun w hSw => by go_simp) hH ?_
  simp only [Act.put, List.setIfInBounds_toArray, List.set_cons_succ, List.set_cons_zero]
  refine takeH 13 (Value.bool true) rfl (by kernel_rfl) (by kernel_rfl) (by kernel_rfl) (fun _ _ _ h => h) (by rfl) (fun w hSw => by go_simp) hH ?_
  simp only [Act.put, List.setIfInBounds_toArray, List.set_cons_succ, List.set_cons_zero]
  refine takeH 14 (.int .i64 0) rfl (by kernel_rfl) (by kernel_rfl) (by kernel_rfl) (fun _ _ _ h => h) (by rfl) (fun w hSw => by go_simp) hH ?_
  simp only [Act.put, List.setIfInBounds_toArray, List.set_cons_succ, List.set_cons_zero]
  refine takeH 15 (Value.bool true) rfl (by kernel_rfl) (by kernel_rfl) (by kernel_rfl) (fun _ _ _ h => h) (by rfl) (fun w hSw => by go_simp) hH ?_
  simp only [Act.put, List.setIfInBounds_toArray, List.set_cons_succ, List.set_cons_zero]
  refine takeH 16 (Value.bool true) rfl (by kernel_rfl) (by kernel_rfl) (by kernel_rfl) (fun _ _ _ h => h) (by rfl) (fun w hSw => by go_simp) hH ?_
  simp only [Act.put, List.setIfInBounds_toArray, List.set_cons_succ, List.set_cons_zero]
  refine takeH 17 (Value.bool true) rfl (by kernel_rfl) (by kernel_rfl) (by kernel_rfl) (fun _ _ _ h => h) (by rfl) (fun w hSw => by go_simp) hH ?_
  simp only [Act.put, List.setIfInBounds_toArray, List.set_cons_succ, List.set_cons_zero]
  refine takeH 18 (.int .i64 21) rfl (by kernel_rfl) (by kernel_rfl) (by kernel_rfl) (fun _ _ _ h => h) (by rfl) (fun w hSw => by go_simp) hH ?_
  simp only [Act.put, List.setIfInBounds_toArray, List.set_cons_succ, List.set_cons_zero]
  refine takeH 19 (Value.bool true) rfl (by kernel_rfl) (by kernel_rfl) (by kernel_rfl) (fun _ _ _ h => h) (by rfl) (fun w hSw => by go_simp) hH ?_
  simp only [Act.put, List.setIfInBounds_toArray, List.set_cons_succ, List.set_cons_zero]
  refine takeH 20 (Value.bool true) rfl (by kernel_rfl) (by kernel_rfl) (by kernel_rfl) (fun _ _ _ h => h) (by rfl) (fun w hSw => by go_simp) hH ?_
  simp only [Act.put, List.setIfInBounds_toArray, List.set_cons_succ, List.set_cons_zero]
  refine takeH 21 (Value.bool true) rfl (by kernel_rfl) (by kernel_rfl) (by kernel_rfl) (fun _ _ _ h => h) (by rfl) (fun w hSw => by go_simp) hH ?_
  simp only [Act.put, List.setIfInBounds_toArray, List.set_cons_succ, List.set_cons_zero]
  refine loadH 23 (x0.map B) rfl (by kernel_rfl) (by kernel_rfl) (by kernel_rfl) (fun _ _ _ h => h) (by rfl) 24 (.tmp 3) rfl (q) 0 rfl _ (fun v h => h.range) hu rfl hi hH ?_
  simp only [Act.put, List.setIfInBounds_toArray, List.set_cons_succ, List.set_cons_zero]
  refine callH 22 rfl (by kernel_rfl) (by rfl) 14 #[.pointer (some ⟨p, 0, none⟩)] (by go_simp) (.agg (x1.map B).toArray) hH (cSum.out _) ?_
  clear hH
  intro vv hH
  simp only [Act.put, List.setIfInBounds_toArray, List.set_cons_succ, List.set_cons_zero]
  refine callH 24 rfl (by kernel_rfl) (by rfl) 9 #[.agg (x1.map B).toArray, .agg (x0.map B).toArray] (by go_simp) (.bool true) hH (cLess.out _) ?_
  clear hH
  intro vv hH
  simp only [Act.put, List.setIfInBounds_toArray, List.set_cons_succ, List.set_cons_zero]
  refine takeH 25 (Value.bool true) rfl (by kernel_rfl) (by kernel_rfl) (by kernel_rfl) (fun _ _ _ h => h) (by rfl) (fun w hSw => by go_simp) hH ?_
  simp only [Act.put, List.setIfInBounds_toArray, List.set_cons_succ, List.set_cons_zero]
  refine takeH 26 (Value.bool true) rfl (by kernel_rfl) (by kernel_rfl) (by kernel_rfl) (fun _ _ _ h => h) (by rfl) (fun w hSw => by go_simp) hH ?_
  simp only [Act.put, List.setIfInBounds_toArray, List.set_cons_zero]
  refine wpAnyH_done (by kernel_rfl) ?_ _
  have hfin := hid hH.1
  go_wp2_with fail
  go_ret
  exact ⟨rfl, hfin.out⟩
end Go.Proofs.YtieaolnnlfaagaaDoor
