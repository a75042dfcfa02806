/- coldstorelaw01.alive: it answers true. -/
import Derived.Test.YtohmmkceffmipaaG3
namespace Go.Proofs.Ytohmmkceffmipaa
open Go.RowKit

theorem step_kept (b : Nat) (n : Int) (h0 : 0 < n) (hn : n ≤ 9223372036854775807) (w : World) (hb : w.heap[b]? = some (.cells #[.int .i64 n] 70 (0, 0))) :
    Calls Try.prog 31 #[.pointer (some ⟨b, 0, none⟩)] w fun e w' => e = .returned (.tuple #[]) ∧ Kept [b] w w' ∧ w'.heap[b]? = some (.cells #[.int .i64 (n - 1)] 70 (0, 0)) :=
  (step_some b n h0 hn w hb).mono fun e w' ⟨he, hw⟩ => by subst hw; exact ⟨he, (Kept.refl _ _).setCell (p := ⟨b, 0, none⟩) (fun _ => by simp) _, one_setCell hb⟩

theorem alive01_1 (f v c : Nat) (w : World) (hfv : f ≠ v) (hfc : f ≠ c) (hvc : v ≠ c)
    (hf : w.heap[f]? = some (.cells #[.int .i64 2] 70 (0, 0))) (hv : w.heap[v]? = some (.cells #[.pointer (some ⟨f, 0, none⟩)] 38 (0, 0))) (hc : w.heap[c]? = some (.cells #[.int .i64 0] 3 (0, 0))) :
    Calls Try.prog 50 #[.pointer (some ⟨v, 0, none⟩), .pointer (some ⟨c, 0, none⟩)] w fun e w' =>
      Thrown 72 (.agg #[.pointer (some ⟨f, 0, none⟩)]) e ∧ Kept [f, c] w w' ∧ w'.heap[f]? = some (.cells #[.int .i64 0] 70 (0, 0)) ∧ w'.heap[c]? = some (.cells #[.int .i64 2] 3 (0, 0)) := by
  have Hv := hid hv; have n1 := hid hfv; have n2 := hid hfc; have n3 := hid hvc; have Hc := hid hc; have Hf := hid hf
  clear hv hc hf hfv hfc hvc
  go_enter Try.func50, Try.ntmps50
  go_wp2_with fail
  go_loopw [2] (fun s wr => ∃ i : Nat, i ≤ 2 ∧ s = .int .i64 i ∧ Kept [f, c] w wr ∧ wr.heap[f]? = some (.cells #[.int .i64 (2 - i)] 70 (0, 0)) ∧ wr.heap[c]? = some (.cells #[.int .i64 i] 3 (0, 0))) (fun s _ => 2 - (intOf s).toNat)
  case atStart => exact ⟨0, by omega, rfl, Kept.refl _ _, Hf.out, Hc.out⟩
  case round =>
    obtain ⟨i, hi, rfl, hkw, hwf, hwc⟩ := hrel
    have gv : wr.cell? ⟨v, 0, none⟩ = some (.pointer (some ⟨f, 0, none⟩)) := cell_of_one (hkw.at Hv.out (by simp [n1.out.symm, n3.out]))
    have hlt5 : (i : Int) < 5 := by omega
    by_cases hlt : i < 2
    · have hs := hid (step_kept f (2 - i) (by omega) (by omega) wr hwf)
      have Hkw := hid hkw; have Hwc := hid hwc
      clear hkw hwf hwc
      go_wp2_with fail
      refine hs.out.mono ?_
      rintro e w1 ⟨rfl, k1, f1⟩
      have c1 := k1.at Hwc.out (by simp [n2.out.symm])
      have gc := cell_of_one c1
      have gz := free_of_one c1
      have hk2 := hid (show Kept [f, c] w (w1.setCell ⟨c, 0, none⟩ (.int .i64 (i + 1))) from (Hkw.out.trans' k1 (fun x _ hx => by simp at hx; simp [hx])).setCell (p := ⟨c, 0, none⟩) (fun _ => by simp) _)
      have hf2 := hid (heap_setCell_other (p := ⟨c, 0, none⟩) (u := .int .i64 (i + 1)) f1 n2.out)
      have hc2 := hid (one_setCell (u := .int .i64 (i + 1)) c1)
      clear k1 f1 c1
      go_wp2
      go_roundw
      case rel => exact ⟨i + 1, by omega, by go_num, hk2.out, by simpa [Int.sub_sub] using hf2.out, by simpa using hc2.out⟩
      case measure => simp [intOf]; omega
    · have hi2 : i = 2 := by omega
      subst hi2
      have hs := hid (step_none f wr (by simpa using hwf))
      have Hkw := hid hkw; have Hwc := hid hwc; have Hwf := hid hwf
      clear hkw hwf hwc
      go_wp2_with fail
      refine hs.out.mono ?_
      rintro e w1 ⟨⟨older, rfl, hcalm⟩, rfl⟩
      exact ⟨rfl, ⟨older, rfl, hcalm⟩, Hkw.out, by simpa using Hwf.out, by simpa using Hwc.out⟩

theorem alive01_2 (w : World) : Calls Try.prog 51 #[] w (Threw fun m w' => m = 21 ∧ w = w') := by
  have hm := hid (must_threw 21 w)
  go_enter Try.func51, Try.ntmps51
  go_wp2_with fail
  refine hm.out.mono ?_
  rintro e w' (⟨rfl, hm, rfl⟩ | ⟨m, ⟨older, rfl, hcalm⟩, hm, rfl⟩)
  · go_wp2
    go_end0
    exact Or.inl ⟨rfl, hm, rfl⟩
  · exact ⟨rfl, Or.inr ⟨m, ⟨older, rfl, hcalm⟩, hm, rfl⟩⟩

theorem alive01_3 (d : Nat) (x : Int) (w : World) (hd : w.heap[d]? = some (.cells #[.int .i64 x] 3 (0, 0))) :
    Calls Try.prog 52 #[.pointer (some ⟨d, 0, none⟩)] w fun e w' => e = .returned (.tuple #[]) ∧ Kept [d] w w' ∧ w'.heap[d]? = some (.cells #[.int .i64 7] 3 (0, 0)) := by
  have hc := cell_of_one hd
  have hf := free_of_one hd
  have hk := hid (show Kept [d] w (w.setCell ⟨d, 0, none⟩ (.int .i64 7)) from (Kept.refl _ _).setCell (p := ⟨d, 0, none⟩) (fun _ => by simp) _)
  have hb := hid (one_setCell (u := .int .i64 7) hd)
  clear hd
  go_enter Try.func52, Try.ntmps52
  go_wp2_with (go_at_call 15; refine (valueint_ok _ _).mono ?_; rintro e w' ⟨rfl, rfl⟩)
  go_end0
  exact ⟨rfl, hk.out, hb.out⟩

theorem alive01_4 (w : World) : Calls Try.prog 53 #[] w fun e w' => e = .returned (.int .i64 0) ∧ w = w' := by
  go_enter Try.func53, Try.ntmps53
  go_wp2
  go_ret
  exact ⟨rfl, rfl⟩

theorem alive01_5 (w : World) : Calls Try.prog 54 #[] w fun e w' => e = .returned (.int .i64 22) ∧ w = w' := by
  go_enter Try.func54, Try.ntmps54
  go_wp2
  go_ret
  exact ⟨rfl, rfl⟩

theorem enters_alive1 : Enters 50 := fun args w => by simp [go_sem]
theorem enters_alive2 : Enters 51 := fun args w => by simp [go_sem]
theorem enters_alive3 : Enters 52 := fun args w => by simp [go_sem]
theorem enters_alive4 : Enters 53 := fun args w => by simp [go_sem]
theorem enters_alive5 : Enters 54 := fun args w => by simp [go_sem]

theorem alive01 (w : World) : Calls Try.prog 9 #[] w fun e w' => e = .returned (.bool true) ∧ Kept [] w w' := by
  have hmf : ∀ (fn : Fn) (first cap : Array Value) (w : World), (Instr.makeFunc fn first cap).run Try.prog w = .ok (.func fn first cap) w := fun _ _ _ _ => rfl
  have hnf := hid (newfuse_any 2 (by omega) w)
  go_enter Try.func9, Try.ntmps9
  go_wp2_with fail
  refine hnf.out.mono ?_
  rintro e w1 ⟨rfl, rfl⟩
  go_wp2_with fail
  refine (left_any w.heap.size 2 _ (heap_alloc_old (heap_alloc_new' _ _))).mono ?_
  rintro e w1 ⟨rfl, rfl⟩
  go_wp2_with fail
  obtain ⟨W, hW⟩ : ∃ W, W = ((w.alloc (.cells #[.int .i64 2] 70)).alloc (.cells #[.pointer (some ⟨w.heap.size, 0, none⟩)] 38)).alloc (.cells #[.int .i64 0] 3) := ⟨_, rfl⟩
  have hk0 := hid (show Kept [] w W from hW ▸ (((Kept.refl [] w).alloc _).alloc _).alloc _)
  have hb0 : W.heap[w.heap.size]? = some (.cells #[.int .i64 2] 70 (0, 0)) := hW ▸ heap_alloc_old (heap_alloc_old (heap_alloc_at rfl))
  have hb1 : W.heap[w.heap.size + 1]? = some (.cells #[.pointer (some ⟨w.heap.size, 0, none⟩)] 38 (0, 0)) := hW ▸ heap_alloc_old (heap_alloc_at (by simp))
  have hb2 : W.heap[w.heap.size + 1 + 1]? = some (.cells #[.int .i64 0] 3 (0, 0)) := hW ▸ heap_alloc_at (by simp)
  rw [← hW]
  clear hW
  have hcatch := hid (catch_blown ⟨w.heap.size, 0, none⟩ 50 enters_alive1 #[.pointer (some ⟨w.heap.size + 1, 0, none⟩), .pointer (some ⟨w.heap.size + 1 + 1, 0, none⟩)] W [w.heap.size, w.heap.size + 1 + 1]
    (fun b hb => by
      have := lt_of_block hb2
      simp at hb
      omega)
    (fun W' => W'.heap[w.heap.size]? = some (.cells #[.int .i64 0] 70 (0, 0)) ∧ W'.heap[w.heap.size + 1 + 1]? = some (.cells #[.int .i64 2] 3 (0, 0)))
    (fun W1 W2 ⟨h1, h2⟩ hbl => ⟨at_below hbl h1 (lt_of_block hb0), at_below hbl h2 (lt_of_block hb2)⟩)
    (alive01_1 w.heap.size (w.heap.size + 1) (w.heap.size + 1 + 1) _ (by omega) (by omega) (by omega) (heap_alloc_old (heap_alloc_old hb0)) (heap_alloc_old (heap_alloc_old hb1)) (heap_alloc_old (heap_alloc_old hb2))))
  refine hcatch.out.mono ?_
  rintro e w3 ⟨rfl, hk3, hc0, hc2⟩
  have hc1 := hid (hk3.at hb1 (by simp))
  have hk0' := hid (show Kept [] w w3 from hk0.out.trans' hk3 (fun x hx hm => by simp at hm; omega))
  have Hc0 := hid hc0; have Hc2 := hid hc2
  clear hk3 hc0 hc2 hcatch hb0 hb1 hb2 hk0 hnf
  go_wp2_with fail
  refine (run_kept 51 enters_alive2 #[] w3 [] (by simp) (fun n _ => n = 21) (fun _ _ _ h _ => h) ((alive01_2 _).mono fun e w' hx => by
    rcases hx with ⟨he, hm, hw⟩ | ⟨m, he, hm, hw⟩
    · exact Or.inl ⟨he, hw ▸ Kept.refl _ _, hm⟩
    · exact Or.inr ⟨m, he, hw ▸ Kept.refl _ _, hm⟩)).mono ?_
  rintro e w4 ⟨n, rfl, hk4, rfl⟩
  have Hk4 := hid hk4
  clear hk4
  go_wp2_with fail
  have hd : (w4.alloc (.cells #[.int .i64 0] 3)).heap[w4.heap.size]? = some (.cells #[.int .i64 0] 3 (0, 0)) := heap_alloc_at rfl
  refine (run_kept 52 enters_alive3 #[.pointer (some ⟨w4.heap.size, 0, none⟩)] (w4.alloc (.cells #[.int .i64 0] 3)) [w4.heap.size] (by simp)
    (fun n W' => n = 0 ∧ W'.heap[w4.heap.size]? = some (.cells #[.int .i64 7] 3 (0, 0))) (fun _ _ _ h hbl => ⟨h.1, at_below hbl h.2 (by simp)⟩)
    ((alive01_3 w4.heap.size 0 _ (heap_alloc_old hd)).mono fun e w' hx => Or.inl ⟨hx.1, hx.2.1, rfl, hx.2.2⟩)).mono ?_
  rintro e w5 ⟨n, rfl, hk5, rfl, hc7⟩
  have Hk5 := hid (show Kept [] w4 w5 from ((Kept.refl _ _).alloc _).trans' hk5 (fun x hx hm => by simp at hm; omega))
  have Hc7 := hid hc7
  clear hk5 hc7 hd
  go_wp2_with fail
  have hall := hid (all_any 2 (by omega) w5.heap.size 0 2 (fun i => if i = 0 then 53 else 54) (fun _ => #[]) (fun i => if i = 0 then 0 else 22)
    (w5.alloc (.cells #[.func (.func 53) #[] #[], .func (.func 54) #[] #[]] 31)) [] (by simp) (by simp) (by simp)
    (fun i hi => by
      have : i = 0 ∨ i = 1 := by omega
      rcases this with rfl | rfl
      · exact enters_alive4
      · exact enters_alive5)
    (fun i hi => by
      have : i = 0 ∨ i = 1 := by omega
      rcases this with rfl | rfl <;> simp [go_sem])
    (fun _ _ => True) (fun _ _ _ _ _ => trivial) trivial
    (fun i hi W _ _ => by
      have : i = 0 ∨ i = 1 := by omega
      rcases this with rfl | rfl
      · exact (alive01_4 W).mono fun e w' ⟨he, hw⟩ => ⟨he, hw ▸ Kept.refl _ _, trivial⟩
      · exact (alive01_5 W).mono fun e w' ⟨he, hw⟩ => ⟨he, hw ▸ Kept.refl _ _, trivial⟩))
  refine hall.out.mono ?_
  rintro e w6 ⟨rfl, hk6, -⟩
  have Hk6 := hid (show Kept [] w5 w6 from ((Kept.refl _ _).alloc _).trans hk6)
  clear hk6 hall
  have Hk36 := hid (Hk4.out.trans (Hk5.out.trans Hk6.out))
  have gc2 := cell_of_one (Hk36.out.at Hc2.out (by simp))
  have gc1 := cell_of_one (Hk36.out.at hc1.out (by simp))
  have gc7 := cell_of_one (Hk6.out.at Hc7.out (by simp))
  have hff : firstFrom (fun i => if i = 0 then (0 : Int) else 22) 2 0 = (1, 22) := by simp [firstFrom]
  rw [hff]
  clear hff
  go_wp2_with fail
  refine (left_any w.heap.size 0 _ (Hk36.out.at Hc0.out (by simp))).mono ?_
  rintro e w7 ⟨rfl, rfl⟩
  go_wp2_with fail
  refine (run_nil _).mono ?_
  rintro e w7 ⟨rfl, rfl⟩
  have Hend := hid ((hk0'.out.trans Hk36.out).alloc (.cells #[.int .i64 0] 26))
  go_wp2
  go_ret
  exact ⟨rfl, Hend.out⟩
end Go.Proofs.Ytohmmkceffmipaa
