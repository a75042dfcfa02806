
/- ObjectFuses. -/
import Derived.Test.YtnegpggikllopaaOJ
namespace Go.Proofs.Ytnegpggikllopaa
open Go.RowKit Go.Lib Go.Maps

/-- Two stores that hold the same, as i steps are done. -/
def Both (w : World) (pa pb f k i : Nat) (W : World) : Prop := ∃ esa esb Ua Ub, Duo w W pa pb f i i k esa esb Ua Ub ∧ SameE esa esb ∧ esa.length ≤ i
theorem build_tt (W : World) : (Instr.buildSlice 22 2 #[(0, .bool true), (1, .bool true)]).run Try.prog W = .ok (.slice (some ⟨W.heap.size, 0, none⟩) 2 2) (W.alloc (.cells #[.bool true, .bool true] 4)) := by kernel_rfl

set_option maxRecDepth 100000 in
set_option maxHeartbeats 4000000 in
theorem object_fuses (a0 : Option Addr) (c0 : Nat) (ops : List OpO) (m : Int) (w : World) (h : IsSteps w a0 ops) (hm : ops.length ≤ 9223372036854775807) (hm1 : -9223372036854775808 ≤ m) (hm2 : m ≤ 9223372036854775807) :
    Calls Try.prog 6 #[.slice a0 ops.length c0, .int .i64 m] w fun e w' => e = .returned (.bool true) ∧ Kept [] w w' := by
  have hal := hid (alive06 w)
  have H := hid h
  clear h
  by_cases hfew : Few ops
  · have HF := hid hfew
    have hcf := hid (show ∀ W, Kept [] w W → Calls Try.prog 9 #[.slice a0 ops.length c0] W fun e w' => e = .returned (.bool true) ∧ Kept [] W w' from fun W hk => by
      have h := few06 a0 c0 ops W ⟨H.out.1, fun x hx i o ho => by
        obtain ⟨q0, q1, q2, q3, q4, q5⟩ := H.out.2 x hx i o ho
        exact ⟨(hk.cell (World.block_lt_of_cell? w _ q0) (by simp)).trans q0, (hk.cell (World.block_lt_of_cell? w _ q1) (by simp)).trans q1, (hk.cell (World.block_lt_of_cell? w _ q2) (by simp)).trans q2, q3.kept hk (by simp), q4, q5⟩⟩ hm
      rw [decide_eq_true hfew] at h
      exact h)
    obtain ⟨n, hn⟩ : ∃ n, n = ops.length := ⟨_, rfl⟩
    have HN := hid hn
    have hn60 : n ≤ 60 := by rw [hn]; exact hfew.2
    rw [← hn] at hcf ⊢
    obtain ⟨k, hk⟩ : ∃ k : Nat, k = (m % 64).toNat := ⟨_, rfl⟩
    have hand : bits .and .i64 m 63 = (k : Int) := by rw [i64_and63, hk]; omega
    have hk63 : k ≤ 63 := by omega
    have hmk := fun W => make_bools k W (by omega)
    have hbt := build_tt
    have hnew := hid (fun W => ob_new 5000 (by decide) (by decide) W)
    clear hfew hm hn hk hm1 hm2
    go_enter Try.func6, Try.ntmps6
    go_wp2_with fail
    refine hal.out.mono ?_
    rintro e w1 ⟨rfl, k1⟩
    have K1 := hid k1
    clear k1 hal
    go_wp2_with fail
    refine (hcf.out w1 K1.out).mono ?_
    rintro e w2 ⟨rfl, k2⟩
    have K2 := hid (K1.out.trans k2)
    clear k2 hcf
    go_wp2_with fail
    refine (hnew.out w2).mono ?_
    rintro e w3 ⟨rfl, k3, ob3⟩
    obtain ⟨pa, hpa⟩ : ∃ p, p = w2.heap.size := ⟨_, rfl⟩
    rw [← hpa] at ob3 ⊢
    have K3 := hid (K2.out.trans k3); have OA3 := hid ob3; have hpw := hid (show w.heap.size ≤ pa from by rw [hpa]; exact K2.out.size)
    clear k3 ob3 hpa
    go_wp2_with fail
    refine (hnew.out w3).mono ?_
    rintro e w4 ⟨rfl, k4, ob4⟩
    obtain ⟨pb, hpb⟩ : ∃ p, p = w3.heap.size := ⟨_, rfl⟩
    rw [← hpb] at ob4 ⊢
    have K4 := hid (K3.out.trans k4); have OA4 := hid (OA3.out.kept k4 (by simp)); have OB4 := hid ob4
    have hab := hid (show pa < pb from by rw [hpb]; exact OA3.out.bound pa (by simp))
    have hnf := hid (newfuse_any 1000 (by decide) w4)
    clear k4 ob4 hnew hpb
    go_wp2_with fail
    refine hnf.out.mono ?_
    rintro e w5 ⟨rfl, hw5⟩
    obtain ⟨f, hf⟩ : ∃ f, f = w4.heap.size := ⟨_, rfl⟩
    rw [← hf] at ⊢
    have k5 : Kept [] w4 w5 := hw5 ▸ (Kept.refl [] w4).alloc _
    have K5 := hid (K4.out.trans k5); have OA5 := hid (OA4.out.kept k5 (by simp)); have OB5 := hid (OB4.out.kept k5 (by simp))
    have HFU5 := hid (show w5.heap[f]? = some (.cells #[.int .i64 1000] 70 (0, 0)) from by rw [hf, ← hw5]; exact heap_alloc_at rfl)
    have hpbf := hid (show pb < f from by rw [hf]; exact OB4.out.bound pb (by simp))
    clear k5 hw5 hnf hf
    have kb := (Kept.refl [] w5).alloc (.cells #[.bool true, .bool true] 4)
    have har := hid (ob_arm (w5.alloc (.cells #[.bool true, .bool true] 4)) [pb] pb 68 [] 5000 [] (.pointer none) [] 0 (OB5.out.kept kb (by simp)) (.pointer none) (.slice (some ⟨w5.heap.size, 0, none⟩) 2 2) [true, true] ⟨_, rfl⟩ (Or.inr ⟨w5.heap.size, 0, 2, rfl, fun hm => by have := OB5.out.bound pb (by simp); simp at hm; omega, fun j u hj => by
      have hb : (w5.alloc (.cells #[.bool true, .bool true] 4)).heap[w5.heap.size]? = some (.cells #[.bool true, .bool true] 4 (0, 0)) := heap_alloc_at rfl
      rw [cell_of_row _ _ _ _ _ _ hb]
      simpa using hj⟩) (by decide))
    have KB := hid kb
    clear kb
    go_wp2_with fail
    refine har.out.mono ?_
    rintro e w6 ⟨rfl, k6, U6, hU6, ob6⟩
    have hs5 := hid KB.out.size
    have K6 := hid ((K5.out.trans KB.out).trans' k6 (fun x hx hm => by simp at hm; have := hpw.out; have := hab.out; omega))
    have OA6 := hid ((OA5.out.kept KB.out (by simp)).kept k6 (fun x hx hm => by simp at hx hm; have := hab.out; omega))
    have HFU6 := hid (k6.at (KB.out.at HFU5.out (by simp)) (by simp; have := hpbf.out; omega))
    have OB6 := hid ob6
    have HU6 := hid (show ∀ x ∈ U6, x = pb ∨ f < x from fun x hx => by
      rcases hU6 x hx with h | h
      · left; simpa using h
      · right; have := lt_of_block HFU5.out; have := KB.out.size; omega)
    clear k6 hU6 ob6 har
    have kb := (Kept.refl [] w6).alloc (.cells (madeCells #[.bool false] k) 4)
    have har := hid (ob_arm (w6.alloc (.cells (madeCells #[.bool false] k) 4)) U6 pb 68 [] 5000 [] (.pointer none) [true, true] 0 (OB6.out.kept kb (by simp)) (.pointer (some ⟨f, 0, none⟩)) (.slice (some ⟨w6.heap.size, 0, none⟩) k k) (List.replicate k false) ⟨_, rfl⟩ (bools_at w6 k U6 OB6.out.bound) (by simp; omega))
    have KB6 := hid kb
    clear kb
    go_wp2_with fail
    refine har.out.mono ?_
    rintro e w7 ⟨rfl, k7, U7, hU7, ob7⟩
    have hI0 := hid (show Both w pa pb f k 0 w7 from by
      have hU7' : ∀ x ∈ U7, x = pb ∨ f < x := fun x hx => by
        rcases hU7 x hx with h | h
        · exact HU6.out x h
        · right; have := lt_of_block HFU6.out; have := KB6.out.size; omega
      have hfu := k7.at (KB6.out.at HFU6.out (by simp)) (by simp; have := hpbf.out; omega)
      refine ⟨[], [], [pa], U7, ⟨(OA6.out.kept KB6.out (by simp)).kept k7 (fun x hx hm => by simp at hx hm; have := hab.out; omega), by simpa using ob7, Or.inr ⟨f, rfl, fun hm => ?_, by simpa using hfu, by omega, by omega⟩, (K6.out.trans KB6.out).trans' k7 (fun x hx hm => by simp at hm; have := hpw.out; have := hab.out; omega), fun x hx => ?_, fun x hx => ?_, fun x hx hm => ?_, fun hm => ?_, ?_, by simp [sizeE], by simp [sizeE]⟩, rfl, Nat.le_refl _⟩
      · rcases hU7' f hm with h | h
        · have := hpbf.out; omega
        · omega
      · simp at hx; subst hx; exact hpw.out
      · have := hpw.out; have := hab.out; have := hpbf.out
        rcases hU7' x hx with h | h <;> omega
      · simp at hx; subst hx
        have := hab.out; have := hpbf.out
        rcases hU7' x hm with h | h <;> omega
      · simp at hm; have := hab.out; have := hpbf.out; omega
      · have := hpw.out; have := hab.out; have := hpbf.out; omega)
    clear k7 U7 hU7 ob7 har
    go_wp2_with fail
    go_loopw [43] (fun s wr => ∃ i : Nat, i ≤ n ∧ s = .int .i64 i ∧ Hid (Both w pa pb f k i wr)) (fun s _ => n - (intOf s).toNat)
    case atStart => exact ⟨0, Nat.zero_le _, rfl, hI0⟩
    case round =>
      clear hI0
      obtain ⟨i, hi, rfl, hst⟩ := hrel
      obtain ⟨esa, esb, Ua, Ub, duo, hsame, hlen⟩ := hst.out
      have DUO := hid duo; have SAME := hid hsame; have LEN := hid hlen
      by_cases hlt : i < n
      · have hlt' : i < ops.length := by have := HN.out; omega
        obtain ⟨o, ho⟩ : ∃ o, ops[i]? = some o := ⟨ops[i], by simp⟩
        obtain ⟨x, rfl⟩ : ∃ x, a0 = some x := by
          cases a0 with
          | none => exact absurd (H.out.1 rfl) (fun e => by rw [e] at hlt'; simp at hlt')
          | some x => exact ⟨x, rfl⟩
        obtain ⟨q0, q1, q2, hsrc, hnl, hbl⟩ := H.out.2 x rfl i o ho
        have hofew := HF.out.1 o (List.mem_of_getElem? ho)
        have hkw := duo.kept
        have g0 := (hkw.cell (World.block_lt_of_cell? w _ q0) (by simp)).trans q0
        have g1 := (hkw.cell (World.block_lt_of_cell? w _ q1) (by simp)).trans q1
        have g2 := (hkw.cell (World.block_lt_of_cell? w _ q2) (by simp)).trans q2
        have hsv := hid (show ∀ V, Kept [] w V → Src V (.slice o.ba o.bs.length o.bc) o.bs.length (o.bs.map B) from fun V hk => hsrc.kept hk (by simp))
        have HOF := hid hofew
        have HLT := hid hlt
        obtain ⟨W, hW⟩ : ∃ W, W = wr.alloc (.cells #[.int .i64 o.kind, .string (S o.nm), .slice o.ba o.bs.length o.bc] 38) := ⟨_, rfl⟩
        have HW := hid hW
        have hkW := hid (show Kept [] wr W from hW ▸ (Kept.refl [] wr).alloc _)
        have hq := hid (show W.heap[wr.heap.size]? = some (.cells #[.int .i64 o.kind, .string (S o.nm), .slice o.ba o.bs.length o.bc] 38 (0, 0)) from hW ▸ heap_alloc_at rfl)
        have DW := hid (duo.keep hkW.out)
        have hqa := hid (show wr.heap.size ∉ Ua from fun hm => Nat.lt_irrefl _ (duo.a.bound _ hm))
        have hqb := hid (show wr.heap.size ∉ Ub ++ [f] from fun hm => by
          rcases List.mem_append.1 hm with h | h
          · exact Nat.lt_irrefl _ (duo.b.bound _ h)
          · simp at h; have := duo.flt.1; omega)
        have hK : W.cell? ⟨wr.heap.size, 0, none⟩ = some (.int .i64 o.kind) := by rw [cell_of_row _ _ 0 _ _ _ hq.out]; rfl
        have hcS : ∀ (V : World) (T : List Nat), Kept T W V → wr.heap.size ∉ T → V.cell? ⟨wr.heap.size, 1, none⟩ = some (.string (S o.nm)) ∧ V.cell? ⟨wr.heap.size, 2, none⟩ = some (.slice o.ba o.bs.length o.bc) := fun V T hk hT => ⟨by rw [cell_of_row _ _ 1 _ _ _ (hk.at hq.out hT)]; rfl, by rw [cell_of_row _ _ 2 _ _ _ (hk.at hq.out hT)]; rfl⟩
        have HCS := hid hcS
        have hwd := hid (show Kept [] W W.drew from (Kept.refl [] W).drew)
        clear hst q0 q1 q2 hsrc hnl hbl ho hlt' hkw hW duo hsame hlen hofew hcS
        by_cases hk3 : o.kind = 3
        · have hke : (o.kind == 3) = true := by simp [hk3]
          clear hk3
          go_wp2_with fail
          rw [← HW.out]
          go_wp2_with fail
          have hS0 := HCS.out _ _ hwd.out (by simp)
          have hda := hid (duo_drop_a (DW.out.keep hwd.out) (by omega) o.nm HOF.out.1)
          refine wp_region_held_drew (S := fun v => v.cell? ⟨wr.heap.size, 1, none⟩ = some (.string (S o.nm)) ∧ v.cell? ⟨wr.heap.size, 2, none⟩ = some (.slice o.ba o.bs.length o.bc)) (by kernel_rfl) hS0 (fun hH => ?_)
          refine takeH 0 (.pointer (some ⟨pa, 0, none⟩)) rfl (by kernel_rfl) (by kernel_rfl) (by kernel_rfl) (fun _ _ _ h => h) (by rfl) (fun v hv => by go_simp) hH ?_
          simp only [Act.put, List.setIfInBounds_toArray, List.set_cons_succ, List.set_cons_zero]
          refine takeH 1 (.pointer (some ⟨wr.heap.size, 1, none⟩)) rfl (by kernel_rfl) (by kernel_rfl) (by kernel_rfl) (fun _ _ _ h => h) (by rfl) (fun v hv => by go_simp) hH ?_
          simp only [Act.put, List.setIfInBounds_toArray, List.set_cons_succ, List.set_cons_zero]
          refine takeH 2 (.string (S o.nm)) rfl (by kernel_rfl) (by kernel_rfl) (by kernel_rfl) (fun _ _ _ h => h) (by rfl) (fun v hv => by have h := hv.1; go_simp) hH ?_
          simp only [Act.put, List.setIfInBounds_toArray, List.set_cons_succ, List.set_cons_zero]
          refine takeH 4 (.pointer (some ⟨pb, 0, none⟩)) rfl (by kernel_rfl) (by kernel_rfl) (by kernel_rfl) (fun _ _ _ h => h) (by rfl) (fun v hv => by go_simp) hH ?_
          simp only [Act.put, List.setIfInBounds_toArray, List.set_cons_succ, List.set_cons_zero]
          refine takeH 5 (.pointer (some ⟨wr.heap.size, 1, none⟩)) rfl (by kernel_rfl) (by kernel_rfl) (by kernel_rfl) (fun _ _ _ h => h) (by rfl) (fun v hv => by go_simp) hH ?_
          simp only [Act.put, List.setIfInBounds_toArray, List.set_cons_succ, List.set_cons_zero]
          refine takeH 6 (.string (S o.nm)) rfl (by kernel_rfl) (by kernel_rfl) (by kernel_rfl) (fun _ _ _ h => h) (by rfl) (fun v hv => by have h := hv.1; go_simp) hH ?_
          simp only [Act.put, List.setIfInBounds_toArray, List.set_cons_succ, List.set_cons_zero]
          refine callR 3 rfl (by kernel_rfl) (by rfl) 20 #[.pointer (some ⟨pa, 0, none⟩), .string (S o.nm)] (by go_simp) (.int .i64 (erD esa o.nm)) (fun V => Duo w V pa pb f (i + 1) i k (delE o.nm esa) esb Ua Ub ∧ Kept Ua W.drew V) (fun V h => HCS.out _ Ua ((hwd.out.wider (fun _ _ h => by simp at h)).trans h.2) hqa.out) hda.out ?_
          rintro v1 ⟨duo1, kv1⟩
          simp only [Act.put, List.setIfInBounds_toArray, List.set_cons_succ, List.set_cons_zero]
          have KV1 := hid ((hwd.out.wider (fun _ _ h => by simp at h)).trans kv1)
          have D1 := hid duo1
          clear duo1 kv1
          refine callR 7 rfl (by kernel_rfl) (by rfl) 20 #[.pointer (some ⟨pb, 0, none⟩), .string (S o.nm)] (by go_simp) (.int .i64 (erD esb o.nm)) (fun V => Duo w V pa pb f (i + 1) (i + 1) k (delE o.nm esa) (delE o.nm esb) Ua Ub ∧ Kept (Ub ++ [f]) v1 V) (fun V h => HCS.out _ (Ua ++ (Ub ++ [f])) ((KV1.out.wider (fun _ _ h => by simp [h])).trans' h.2 (fun x _ hx => by simp at hx; simp [hx])) (fun hm => by rcases List.mem_append.1 hm with h1 | h1; exact hqa.out h1; exact hqb.out h1)) (duo_drop_b D1.out (by omega) o.nm HOF.out.1) ?_
          rintro v2 ⟨duo2, kv2⟩
          simp only [Act.put, List.setIfInBounds_toArray, List.set_cons_succ, List.set_cons_zero]
          have hs2 := HCS.out _ (Ua ++ (Ub ++ [f])) ((KV1.out.wider (fun _ _ h => by simp [h])).trans' kv2 (fun x _ hx => by simp at hx; simp [hx])) (fun hm => by rcases List.mem_append.1 hm with h1 | h1; exact hqa.out h1; exact hqb.out h1)
          refine takeH 8 (.int .i64 (erD esa o.nm)) rfl (by kernel_rfl) (by kernel_rfl) (by kernel_rfl) (fun _ _ _ h => h) (by rfl) (fun v hv => by go_simp) hs2 ?_
          simp only [Act.put, List.setIfInBounds_toArray, List.set_cons_succ, List.set_cons_zero]
          refine takeH 9 (.int .i64 (erD esb o.nm)) rfl (by kernel_rfl) (by kernel_rfl) (by kernel_rfl) (fun _ _ _ h => h) (by rfl) (fun v hv => by go_simp) hs2 ?_
          simp only [Act.put, List.setIfInBounds_toArray, List.set_cons_succ, List.set_cons_zero]
          refine wpAnyH_done (by kernel_rfl) ?_ _
          have hfin := hid (show Both w pa pb f k (i + 1) v2 from ⟨_, _, _, _, duo2, SAME.out.del o.nm, by have := LEN.out; have := len_del_le o.nm esa; omega⟩)
          have her := hid (SAME.out.erD o.nm)
          rw [← her.out]
          obtain ⟨er, her2⟩ : ∃ er, er = erD esa o.nm := ⟨_, rfl⟩
          rw [← her2]
          clear her her2 duo2 kv2 hs2 hS0 hH hda
          go_wp2
          go_roundw
          case rel => exact ⟨i + 1, HLT.out, by go_num, hfin⟩
          case measure => simp [intOf]; omega
        · have hke : (o.kind == 3) = false := by simp [hk3]
          clear hk3
          go_wp2_with fail
          rw [← HW.out]
          go_wp2_with fail
          have hS0 := HCS.out _ _ hwd.out (by simp)
          have hda := hid (duo_put_a (DW.out.keep hwd.out) (by omega) o.nm o.bs HOF.out.1 HOF.out.2 o.ba o.bc hsv.out)
          refine wp_region_held_drew (S := fun v => v.cell? ⟨wr.heap.size, 1, none⟩ = some (.string (S o.nm)) ∧ v.cell? ⟨wr.heap.size, 2, none⟩ = some (.slice o.ba o.bs.length o.bc)) (by kernel_rfl) hS0 (fun hH => ?_)
          refine takeH 0 (.pointer (some ⟨pa, 0, none⟩)) rfl (by kernel_rfl) (by kernel_rfl) (by kernel_rfl) (fun _ _ _ h => h) (by rfl) (fun v hv => by go_simp) hH ?_
          simp only [Act.put, List.setIfInBounds_toArray, List.set_cons_succ, List.set_cons_zero]
          refine takeH 1 (.pointer (some ⟨wr.heap.size, 1, none⟩)) rfl (by kernel_rfl) (by kernel_rfl) (by kernel_rfl) (fun _ _ _ h => h) (by rfl) (fun v hv => by go_simp) hH ?_
          simp only [Act.put, List.setIfInBounds_toArray, List.set_cons_succ, List.set_cons_zero]
          refine takeH 2 (.string (S o.nm)) rfl (by kernel_rfl) (by kernel_rfl) (by kernel_rfl) (fun _ _ _ h => h) (by rfl) (fun v hv => by have h := hv.1; go_simp) hH ?_
          simp only [Act.put, List.setIfInBounds_toArray, List.set_cons_succ, List.set_cons_zero]
          refine takeH 3 (.pointer (some ⟨wr.heap.size, 2, none⟩)) rfl (by kernel_rfl) (by kernel_rfl) (by kernel_rfl) (fun _ _ _ h => h) (by rfl) (fun v hv => by go_simp) hH ?_
          simp only [Act.put, List.setIfInBounds_toArray, List.set_cons_succ, List.set_cons_zero]
          refine takeH 4 (.slice o.ba o.bs.length o.bc) rfl (by kernel_rfl) (by kernel_rfl) (by kernel_rfl) (fun _ _ _ h => h) (by rfl) (fun v hv => by have h := hv.2; go_simp) hH ?_
          simp only [Act.put, List.setIfInBounds_toArray, List.set_cons_succ, List.set_cons_zero]
          refine takeH 6 (.pointer (some ⟨pb, 0, none⟩)) rfl (by kernel_rfl) (by kernel_rfl) (by kernel_rfl) (fun _ _ _ h => h) (by rfl) (fun v hv => by go_simp) hH ?_
          simp only [Act.put, List.setIfInBounds_toArray, List.set_cons_succ, List.set_cons_zero]
          refine takeH 7 (.pointer (some ⟨wr.heap.size, 1, none⟩)) rfl (by kernel_rfl) (by kernel_rfl) (by kernel_rfl) (fun _ _ _ h => h) (by rfl) (fun v hv => by go_simp) hH ?_
          simp only [Act.put, List.setIfInBounds_toArray, List.set_cons_succ, List.set_cons_zero]
          refine takeH 8 (.string (S o.nm)) rfl (by kernel_rfl) (by kernel_rfl) (by kernel_rfl) (fun _ _ _ h => h) (by rfl) (fun v hv => by have h := hv.1; go_simp) hH ?_
          simp only [Act.put, List.setIfInBounds_toArray, List.set_cons_succ, List.set_cons_zero]
          refine takeH 9 (.pointer (some ⟨wr.heap.size, 2, none⟩)) rfl (by kernel_rfl) (by kernel_rfl) (by kernel_rfl) (fun _ _ _ h => h) (by rfl) (fun v hv => by go_simp) hH ?_
          simp only [Act.put, List.setIfInBounds_toArray, List.set_cons_succ, List.set_cons_zero]
          refine takeH 10 (.slice o.ba o.bs.length o.bc) rfl (by kernel_rfl) (by kernel_rfl) (by kernel_rfl) (fun _ _ _ h => h) (by rfl) (fun v hv => by have h := hv.2; go_simp) hH ?_
          simp only [Act.put, List.setIfInBounds_toArray, List.set_cons_succ, List.set_cons_zero]
          refine callR 5 rfl (by kernel_rfl) (by rfl) 21 #[.pointer (some ⟨pa, 0, none⟩), .string (S o.nm), .slice o.ba o.bs.length o.bc] (by go_simp) (.int .i64 (erP esa o.nm o.bs)) (fun V => (∃ v' Ua', Duo w V pa pb f (i + 1) i k (if erP esa o.nm o.bs = 0 then putE ⟨o.nm, v', o.bs⟩ esa else esa) esb Ua' Ub) ∧ Kept Ua W.drew V) (fun V h => HCS.out _ Ua ((hwd.out.wider (fun _ _ h => by simp at h)).trans h.2) hqa.out) hda.out ?_
          rintro v1 ⟨⟨va, Ua1, duo1⟩, kv1⟩
          simp only [Act.put, List.setIfInBounds_toArray, List.set_cons_succ, List.set_cons_zero]
          have KV1 := hid ((hwd.out.wider (fun _ _ h => by simp at h)).trans kv1)
          have D1 := hid duo1
          clear duo1 kv1
          refine callR 11 rfl (by kernel_rfl) (by rfl) 21 #[.pointer (some ⟨pb, 0, none⟩), .string (S o.nm), .slice o.ba o.bs.length o.bc] (by go_simp) (.int .i64 (erP esb o.nm o.bs)) (fun V => (∃ v' Ub', Duo w V pa pb f (i + 1) (i + 1) k (if erP esa o.nm o.bs = 0 then putE ⟨o.nm, va, o.bs⟩ esa else esa) (if erP esb o.nm o.bs = 0 then putE ⟨o.nm, v', o.bs⟩ esb else esb) Ua1 Ub') ∧ Kept (Ub ++ [f]) v1 V) (fun V h => HCS.out _ (Ua ++ (Ub ++ [f])) ((KV1.out.wider (fun _ _ h => by simp [h])).trans' h.2 (fun x _ hx => by simp at hx; simp [hx])) (fun hm => by rcases List.mem_append.1 hm with h1 | h1; exact hqa.out h1; exact hqb.out h1)) (duo_put_b D1.out (by omega) o.nm o.bs HOF.out.1 HOF.out.2 o.ba o.bc hsv.out) ?_
          rintro v2 ⟨⟨vb, Ub1, duo2⟩, kv2⟩
          simp only [Act.put, List.setIfInBounds_toArray, List.set_cons_succ, List.set_cons_zero]
          have hs2 := HCS.out _ (Ua ++ (Ub ++ [f])) ((KV1.out.wider (fun _ _ h => by simp [h])).trans' kv2 (fun x _ hx => by simp at hx; simp [hx])) (fun hm => by rcases List.mem_append.1 hm with h1 | h1; exact hqa.out h1; exact hqb.out h1)
          refine takeH 12 (.int .i64 (erP esa o.nm o.bs)) rfl (by kernel_rfl) (by kernel_rfl) (by kernel_rfl) (fun _ _ _ h => h) (by rfl) (fun v hv => by go_simp) hs2 ?_
          simp only [Act.put, List.setIfInBounds_toArray, List.set_cons_succ, List.set_cons_zero]
          refine takeH 13 (.int .i64 (erP esb o.nm o.bs)) rfl (by kernel_rfl) (by kernel_rfl) (by kernel_rfl) (fun _ _ _ h => h) (by rfl) (fun v hv => by go_simp) hs2 ?_
          simp only [Act.put, List.setIfInBounds_toArray, List.set_cons_succ, List.set_cons_zero]
          refine wpAnyH_done (by kernel_rfl) ?_ _
          have her := hid (SAME.out.erP o.nm o.bs)
          have hfin := hid (show Both w pa pb f k (i + 1) v2 from ⟨_, _, _, _, duo2, by
            rw [← her.out]
            split
            · exact SAME.out.put o.nm o.bs va vb
            · exact SAME.out, by
            have := LEN.out
            have := len_put_le ⟨o.nm, va, o.bs⟩ esa
            split <;> omega⟩)
          rw [← her.out]
          obtain ⟨er, her2⟩ : ∃ er, er = erP esa o.nm o.bs := ⟨_, rfl⟩
          rw [← her2]
          clear her her2 duo2 kv2 hs2 hS0 hH hda
          go_wp2
          go_roundw
          case rel => exact ⟨i + 1, HLT.out, by go_num, hfin⟩
          case measure => simp [intOf]; omega
      · obtain rfl : i = n := by omega
        have hna := hid (names_any wr Ua pa 68 [] 5000 esa (.pointer none) [] i duo.a 1000 (by have := LEN.out; omega) (by decide))
        obtain ⟨ne, hne⟩ : ∃ ne, ne = esa.length := ⟨_, rfl⟩
        have HNE := hid hne
        have hna' := hid (hna.out.mono (R' := fun e w' => ∃ a c b d, e = .returned (.tuple #[.slice a ne c, .slice b ne d]) ∧ Kept [] wr w' ∧ w'.ownsRow wr.heap.size 9 1 (.slice a ne c) ne (esa.map nmV) ∧ w'.ownsRow wr.heap.size 3 1 (.slice b ne d) ne (esa.map szV)) fun e w' h => by
          obtain ⟨vx, vy, h1, h2, h3, h4⟩ := h
          rw [← hne] at h3 h4
          obtain ⟨a, c, rfl⟩ := owns_slice h3
          obtain ⟨b, d, rfl⟩ := owns_slice h4
          exact ⟨a, c, b, d, h1, h2, h3, h4⟩)
        clear hst duo hsame hlen hna hne hlt
        go_wp2_with fail
        refine hna'.out.mono ?_
        rintro e v1 ⟨xa, xc, ya, yc, rfl, k1, ox, oy⟩
        have KA := hid k1; have OX := hid ox; have OY := hid oy
        have D1 := hid (DUO.out.keep k1)
        have hnb := hid ((names_any v1 Ub pb 68 [] 5000 esb (.pointer (some ⟨f, 0, none⟩)) _ i D1.out.b 1000 (by have := LEN.out; have := SAME.out.length; omega) (by decide)).mono (R' := fun e w' => ∃ a c b d, e = .returned (.tuple #[.slice a ne c, .slice b ne d]) ∧ Kept [] v1 w' ∧ w'.ownsRow v1.heap.size 9 1 (.slice a ne c) ne (esa.map nmV) ∧ w'.ownsRow v1.heap.size 3 1 (.slice b ne d) ne (esa.map szV)) fun e w' h => by
          obtain ⟨vx, vy, h1, h2, h3, h4⟩ := h
          rw [← SAME.out.length, ← HNE.out, ← SAME.out.names.1] at h3
          rw [← SAME.out.length, ← HNE.out, ← SAME.out.names.2] at h4
          obtain ⟨a, c, rfl⟩ := owns_slice h3
          obtain ⟨b, d, rfl⟩ := owns_slice h4
          exact ⟨a, c, b, d, h1, h2, h3, h4⟩)
        clear k1 ox oy hna'
        go_wp2_with fail
        refine hnb.out.mono ?_
        rintro e v2 ⟨ua, uc, va, vc, rfl, k2, ou, ov⟩
        have D2 := hid (D1.out.keep k2)
        have hss := hid (same_names xa ua xc uc wr.heap.size v1.heap.size ne esa v2 HNE.out (k2.owns OX.out (by simp)) ou (by have := LEN.out; have := HNE.out; omega))
        have OY2 := hid (k2.owns OY.out (by simp)); have OV := hid ov
        clear k2 ou ov hnb
        go_wp2_with fail
        refine hss.out.mono ?_
        rintro e v3 ⟨rfl, k3⟩
        have D3 := hid (D2.out.keep k3)
        have hsi := hid (same_sizes ya va yc vc wr.heap.size v1.heap.size ne esa v3 HNE.out (k3.owns OY2.out (by simp)) (k3.owns OV.out (by simp)) (by have := LEN.out; have := HNE.out; omega))
        clear k3 hss
        go_wp2_with fail
        refine hsi.out.mono ?_
        rintro e v4 ⟨rfl, k4⟩
        have D4 := hid (D3.out.keep k4)
        have hlf := hid (show Calls Try.prog 29 #[.pointer (some ⟨f, 0, none⟩)] v4 fun e w' => e = .returned (.int .i64 (1000 - (i : Int))) ∧ v4 = w' from by
          rcases D4.out.fu with ⟨h1, _⟩ | ⟨g, hg, _, h3, _⟩
          · simp at h1
          · simp at hg; subst hg; exact left_any f _ v4 h3)
        have hob := hid (ob_ops v4 Ub pb 68 [] 5000 esb _ _ i D4.out.b)
        have hoa := hid (ob_ops v4 Ua pa 68 [] 5000 esa _ _ i D4.out.a)
        clear k4 hsi
        go_wp2_with fail
        refine hlf.out.mono ?_
        rintro e v5 ⟨rfl, rfl⟩
        go_wp2_with fail
        refine hob.out.mono ?_
        rintro e v5 ⟨rfl, rfl⟩
        go_wp2_with fail
        refine hoa.out.mono ?_
        rintro e v5 ⟨rfl, rfl⟩
        go_wp2
        go_ret
        exact ⟨rfl, D4.out.kept⟩
  · have hcf := hid (fun W (hk : Kept [] w W) => by
      have h := few06 a0 c0 ops W ⟨H.out.1, fun x hx i o ho => by
        obtain ⟨q0, q1, q2, q3, q4, q5⟩ := H.out.2 x hx i o ho
        exact ⟨(hk.cell (World.block_lt_of_cell? w _ q0) (by simp)).trans q0, (hk.cell (World.block_lt_of_cell? w _ q1) (by simp)).trans q1, (hk.cell (World.block_lt_of_cell? w _ q2) (by simp)).trans q2, q3.kept hk (by simp), q4, q5⟩⟩ hm
      rw [decide_eq_false hfew] at h
      exact h)
    clear hfew
    go_enter Try.func6, Try.ntmps6
    go_wp2_with fail
    refine hal.out.mono ?_
    rintro e w1 ⟨rfl, k1⟩
    have K1 := hid k1
    clear k1
    go_wp2_with fail
    refine (hcf.out w1 K1.out).mono ?_
    rintro e w2 ⟨rfl, k2⟩
    have K2 := hid (K1.out.trans k2)
    clear k2
    go_wp2
    go_ret
    exact ⟨rfl, K2.out⟩
end Go.Proofs.Ytnegpggikllopaa
