/- coldstorelaw01.GuardLast: it answers true. -/
import Derived.Test.YtohmmkceffmipaaG4
namespace Go.Proofs.Ytohmmkceffmipaa
open Go.RowKit

theorem enters_last1 : Enters 19 := fun args w => by simp [go_sem]
theorem enters_last2 : Enters 20 := fun args w => by simp [go_sem]
theorem enters_last3 : Enters 21 := fun args w => by simp [go_sem]
theorem enters_last31 : Enters 22 := fun args w => by simp [go_sem]

theorem last_1 (b : Nat) (n : Int) (w : World) (hb : w.heap[b]? = some (.cells #[.int .i64 n] 3 (0, 0))) :
    Calls Try.prog 19 #[.pointer (some ⟨b, 0, none⟩)] w (Threw fun m w' => m = n ∧ w = w') := by
  have hm := hid (must_threw n w)
  have hc := cell_of_one hb
  clear hb
  go_enter Try.func19, Try.ntmps19
  go_wp2_with fail
  refine hm.out.mono ?_
  rintro e w' (⟨rfl, hm, rfl⟩ | ⟨m, ⟨older, rfl, hcalm⟩, hm, rfl⟩)
  · go_wp2
    go_end0
    exact Or.inl ⟨rfl, hm, rfl⟩
  · exact ⟨rfl, Or.inr ⟨m, ⟨older, rfl, hcalm⟩, hm, rfl⟩⟩

theorem last_31 (b : Nat) (n : Int) (w : World) (hb : w.heap[b]? = some (.cells #[.int .i64 n] 3 (0, 0))) :
    Calls Try.prog 22 #[.pointer (some ⟨b, 0, none⟩)] w (Threw fun m w' => m = n ∧ w = w') := by
  have hm := hid (must_threw n w)
  have hc := cell_of_one hb
  clear hb
  go_enter Try.func22, Try.ntmps22
  go_wp2_with fail
  refine hm.out.mono ?_
  rintro e w' (⟨rfl, hm, rfl⟩ | ⟨m, ⟨older, rfl, hcalm⟩, hm, rfl⟩)
  · go_wp2
    go_end0
    exact Or.inl ⟨rfl, hm, rfl⟩
  · exact ⟨rfl, Or.inr ⟨m, ⟨older, rfl, hcalm⟩, hm, rfl⟩⟩

theorem last_2 (c b : Nat) (n : Int) (w : World) (hcb : c ≠ b) (hb : w.heap[b]? = some (.cells #[.int .i64 n] 3 (0, 0))) (hc : w.heap[c]? = some (.cells #[.int .i64 0] 3 (0, 0))) :
    Calls Try.prog 20 #[.pointer (some ⟨c, 0, none⟩), .pointer (some ⟨b, 0, none⟩)] w (Threw fun m w' => m = n ∧ Kept [c] w w' ∧ w'.heap[c]? = some (.cells #[.int .i64 1] 3 (0, 0))) := by
  have hm := hid (must_threw n (w.setCell ⟨c, 0, none⟩ (.int .i64 1)))
  have gc := cell_of_one hc
  have gz := free_of_one hc
  have gb := cell_of_one (heap_setCell_other (p := ⟨c, 0, none⟩) (u := .int .i64 1) hb (by simpa using hcb.symm))
  have hk := hid (show Kept [c] w (w.setCell ⟨c, 0, none⟩ (.int .i64 1)) from (Kept.refl _ _).setCell (p := ⟨c, 0, none⟩) (fun _ => by simp) _)
  have hc1 := hid (one_setCell (u := .int .i64 1) hc)
  clear hb hc hcb
  go_enter Try.func20, Try.ntmps20
  go_wp2_with fail
  refine hm.out.mono ?_
  rintro e w' (⟨rfl, hm, rfl⟩ | ⟨m, ⟨older, rfl, hcalm⟩, hm, rfl⟩)
  · go_wp2
    go_end0
    exact Or.inl ⟨rfl, hm, hk.out, hc1.out⟩
  · exact ⟨rfl, Or.inr ⟨m, ⟨older, rfl, hcalm⟩, hm, hk.out, hc1.out⟩⟩

theorem last_3 (b i f : Nat) (n m x : Int) (w : World) (hif : i ≠ f) (hb : w.heap[b]? = some (.cells #[.int .i64 n] 3 (0, 0))) (hi : w.heap[i]? = some (.cells #[.int .i64 x] 26 (0, 0))) (hf : w.heap[f]? = some (.cells #[.int .i64 m] 3 (0, 0))) :
    Calls Try.prog 21 #[.pointer (some ⟨b, 0, none⟩), .pointer (some ⟨i, 0, none⟩), .pointer (some ⟨f, 0, none⟩)] w (Threw fun r w' => r = m ∧ Kept [i] w w' ∧ w'.heap[i]? = some (.cells #[.int .i64 n] 26 (0, 0))) := by
  have hmf : ∀ (fn : Fn) (first cap : Array Value) (w : World), (Instr.makeFunc fn first cap).run Try.prog w = .ok (.func fn first cap) w := fun _ _ _ _ => rfl
  have hrun := hid (run_kept 22 enters_last31 #[.pointer (some ⟨b, 0, none⟩)] w [] (by simp) (fun r _ => r = n) (fun _ _ _ h _ => h) ((last_31 b n _ (heap_alloc_old hb)).mono fun e w' hx => by
    rcases hx with ⟨he, hm, hw⟩ | ⟨m, he, hm, hw⟩
    · exact Or.inl ⟨he, hw ▸ Kept.refl _ _, hm⟩
    · exact Or.inr ⟨m, he, hw ▸ Kept.refl _ _, hm⟩))
  have Hi := hid hi; have Hf := hid hf; have N1 := hid hif
  clear hb hi hf hif
  go_enter Try.func21, Try.ntmps21
  go_wp2_with fail
  refine hrun.out.mono ?_
  rintro e w1 ⟨r, rfl, hk, rfl⟩
  have hi1 := hk.at Hi.out (by simp)
  have gi := cell_of_one hi1
  have gz := free_of_one hi1
  have gf := cell_of_one (heap_setCell_other (p := ⟨i, 0, none⟩) (u := .int .i64 r) (hk.at Hf.out (by simp)) (by simpa using N1.out.symm))
  have hm := hid (must_threw m (w1.setCell ⟨i, 0, none⟩ (.int .i64 r)))
  have hk2 := hid (show Kept [i] w (w1.setCell ⟨i, 0, none⟩ (.int .i64 r)) from (hk.wider (by simp)).setCell (p := ⟨i, 0, none⟩) (fun _ => by simp) _)
  have hi2 := hid (one_setCell (u := .int .i64 r) hi1)
  clear hk hi1
  go_wp2_with fail
  refine hm.out.mono ?_
  rintro e w' (⟨rfl, hm, rfl⟩ | ⟨q, ⟨older, rfl, hcalm⟩, hm, rfl⟩)
  · go_wp2
    go_end0
    exact Or.inl ⟨rfl, hm, hk2.out, hi2.out⟩
  · exact ⟨rfl, Or.inr ⟨q, ⟨older, rfl, hcalm⟩, hm, hk2.out, hi2.out⟩⟩

theorem guardlast (n m : Int) (w : World) : Calls Try.prog 4 #[.int .i64 n, .int .i64 m] w fun e w' => e = .returned (.bool true) ∧ Kept [] w w' := by
  have hmf : ∀ (fn : Fn) (first cap : Array Value) (w : World), (Instr.makeFunc fn first cap).run Try.prog w = .ok (.func fn first cap) w := fun _ _ _ _ => rfl
  go_enter Try.func4, Try.ntmps4
  go_wp2_with fail
  refine (alive01 _).mono ?_
  rintro e w1 ⟨rfl, hk⟩
  have hb0 := hk.at (k := w.heap.size) (heap_alloc_old (heap_alloc_at rfl)) (by simp)
  have hb1 := hk.at (k := w.heap.size + 1) (heap_alloc_at (by simp)) (by simp)
  have Hk := hid (((Kept.refl [] w).alloc _).alloc _ |>.trans hk)
  have Hb0 := hid hb0; have Hb1 := hid hb1
  have hlt := hid (lt_of_block hb1)
  clear hk hb0 hb1
  go_wp2_with fail
  have hfin := hid (finally_any 19 20 enters_last1 enters_last2 #[.pointer (some ⟨w.heap.size, 0, none⟩)] #[.pointer (some ⟨w1.heap.size, 0, none⟩), .pointer (some ⟨w.heap.size + 1, 0, none⟩)]
    (w1.alloc (.cells #[.int .i64 0] 3)) [w1.heap.size] (by simp) (fun r W => r = n ∧ W.heap[w1.heap.size]? = some (.cells #[.int .i64 0] 3 (0, 0))) (fun r q W => r = n ∧ q = m ∧ W.heap[w1.heap.size]? = some (.cells #[.int .i64 1] 3 (0, 0)))
    (fun _ _ _ h hbl => ⟨h.1, at_below hbl h.2 (by simp)⟩) (fun _ _ _ _ h hbl => ⟨h.1, h.2.1, at_below hbl h.2.2 (by simp)⟩)
    (fun W hW => (last_1 w.heap.size n W (hW.at (heap_alloc_old Hb0.out) (by simp))).mono fun e w' hx => by
      have h0 := hW.at (k := w1.heap.size) (heap_alloc_at rfl) (by simp)
      rcases hx with ⟨he, hm, hw⟩ | ⟨m, he, hm, hw⟩
      · exact Or.inl ⟨he, hw ▸ Kept.refl _ _, hm, hw ▸ h0⟩
      · exact Or.inr ⟨m, he, hw ▸ Kept.refl _ _, hm, hw ▸ h0⟩)
    (fun r W hW hr => (last_2 w1.heap.size (w.heap.size + 1) m W (by have := hlt.out; omega) (hW.at (heap_alloc_old Hb1.out) (by have := hlt.out; simp; omega)) hr.2).mono fun e w' hx => by
      rcases hx with ⟨he, hm, hk, hc⟩ | ⟨q, he, hm, hk, hc⟩
      · exact Or.inl ⟨he, hk, hr.1, hm, hc⟩
      · exact Or.inr ⟨q, he, hk, hr.1, hm, hc⟩))
  refine hfin.out.mono ?_
  rintro e w2 ⟨r, q, rfl, hk2, rfl, rfl, hc2⟩
  have Hc2 := hid hc2
  have Hb0' := hid (hk2.at (heap_alloc_old Hb0.out) (by have := hlt.out; simp; omega))
  have Hb1' := hid (hk2.at (heap_alloc_old Hb1.out) (by have := hlt.out; simp; omega))
  have Hk2 := hid (show Kept [] w w2 from (Hk.out.alloc _).trans' hk2 (fun x hx hm => by have := hlt.out; simp at hm; omega))
  have gb0 := cell_of_one Hb0'.out
  have gb1 := cell_of_one Hb1'.out
  clear hk2 hc2 hfin
  have hi0 : (w2.alloc (.cells #[.int .i64 0] 26)).heap[w2.heap.size]? = some (.cells #[.int .i64 0] 26 (0, 0)) := heap_alloc_at rfl
  have hrun := hid (run_kept 21 enters_last3 #[.pointer (some ⟨w.heap.size, 0, none⟩), .pointer (some ⟨w2.heap.size, 0, none⟩), .pointer (some ⟨w.heap.size + 1, 0, none⟩)] (w2.alloc (.cells #[.int .i64 0] 26)) [w2.heap.size] (by simp)
    (fun r' W => r' = q ∧ W.heap[w2.heap.size]? = some (.cells #[.int .i64 r] 26 (0, 0))) (fun _ _ _ h hbl => ⟨h.1, at_below hbl h.2 (by simp)⟩)
    ((last_3 w.heap.size w2.heap.size (w.heap.size + 1) r q 0 _ (by have := lt_of_block Hb1'.out; omega) (heap_alloc_old (heap_alloc_old Hb0'.out)) (heap_alloc_old hi0) (heap_alloc_old (heap_alloc_old Hb1'.out))).mono fun e w' hx => by
      rcases hx with ⟨he, hm, hk, hc⟩ | ⟨q, he, hm, hk, hc⟩
      · exact Or.inl ⟨he, hk, hm, hc⟩
      · exact Or.inr ⟨q, he, hk, hm, hc⟩))
  clear hi0
  have fin : ∀ w3, Hid (Kept [w2.heap.size] (w2.alloc (.cells #[.int .i64 0] 26)) w3 → w3.heap[w2.heap.size]? = some (.cells #[.int .i64 r] 26 (0, 0)) →
      w3.cell? ⟨w1.heap.size, 0, none⟩ = some (.int .i64 1) ∧ w3.cell? ⟨w2.heap.size, 0, none⟩ = some (.int .i64 r) ∧ w3.cell? ⟨w.heap.size, 0, none⟩ = some (.int .i64 r) ∧ w3.cell? ⟨w.heap.size + 1, 0, none⟩ = some (.int .i64 q) ∧ Hid (Kept [] w w3)) := fun w3 => hid fun hk hc => by
    have l1 := lt_of_block Hc2.out
    have l2 := lt_of_block Hb0'.out
    have l3 := lt_of_block Hb1'.out
    exact ⟨cell_of_one (hk.at (heap_alloc_old Hc2.out) (by simp; omega)), cell_of_one hc, cell_of_one (hk.at (heap_alloc_old Hb0'.out) (by simp; omega)), cell_of_one (hk.at (heap_alloc_old Hb1'.out) (by simp; omega)),
      hid ((Hk2.out.alloc _).trans' hk (fun x hx hm => by have := Hk2.out.size; simp at hm; omega))⟩
  by_cases hr : r = 0
  · subst hr
    rw [if_pos rfl]
    go_wp2_with fail
    refine hrun.out.mono ?_
    rintro e w3 ⟨_, rfl, hk3, rfl, hc3⟩
    obtain ⟨g1, g2, g3, g4, HK⟩ := (fin w3).out hk3 hc3
    clear hk3 hc3 gb0 gb1 hrun fin
    go_wp2
    go_ret
    exact ⟨by simp, HK.out⟩
  · have hr' : (r == 0) = false := by simpa using hr
    rw [if_neg hr]
    clear hr
    go_wp2_with fail
    refine hrun.out.mono ?_
    rintro e w3 ⟨_, rfl, hk3, rfl, hc3⟩
    obtain ⟨g1, g2, g3, g4, HK⟩ := (fin w3).out hk3 hc3
    clear hk3 hc3 gb0 gb1 hrun fin
    go_wp2
    go_ret
    exact ⟨by simp, HK.out⟩
end Go.Proofs.Ytohmmkceffmipaa
