import Derived.Test.YtmholofhmpplcaaMG

/- guard.All over steps that may be methods bound to what they are of. -/
namespace Go.Proofs.Ytmholofhmpplcaa
open Go.RowKit

theorem o_outcome1 (k : Nat) (hk : Enters k) (fs caps : Array Value) (n : Int) (b : Nat) (w : World) (hb : w.heap[b]? = some (.cells #[.func (.func k) fs caps] 82 (0, 0))) (R : World → Prop)
    (h : Calls Try.prog k (fs ++ caps) w fun e w' => e = .returned (.int .i64 n) ∧ R w') :
    Calls Try.prog 54 #[.pointer (some ⟨b, 0, none⟩)] w (Threw fun m w' => m = n ∧ R w') := by
  have hc := cell_of_one hb
  have H : Hid (Calls Try.prog k (fs ++ caps) w fun e w' => e = .returned (.int .i64 n) ∧ R w') := h
  clear h hb
  unfold Enters at hk
  go_enter Try.func54, Try.ntmps54
  go_wp2_with fail
  refine H.out.mono ?_
  rintro e w1 ⟨rfl, hR⟩
  go_wp2_with fail
  refine (must_threw n w1).mono ?_
  rintro e w' (⟨rfl, hm, rfl⟩ | ⟨m, ⟨older, rfl, hcalm⟩, hm, rfl⟩)
  · go_wp2
    go_end0
    exact Or.inl ⟨rfl, hm, hR⟩
  · exact ⟨rfl, Or.inr ⟨m, ⟨older, rfl, hcalm⟩, hm, hR⟩⟩

theorem o_outcome (k : Nat) (hk : Enters k) (fs caps : Array Value) (n : Int) (w : World) (S : List Nat) (hS : ∀ b ∈ S, b < w.heap.size) (Q : World → Prop)
    (hQ : ∀ W W', Q W → Below w.heap.size W W' → Q W')
    (h : ∀ W, Kept [] w W → Calls Try.prog k (fs ++ caps) W fun e w' => e = .returned (.int .i64 n) ∧ Kept S W w' ∧ Q w') :
    Calls Try.prog 49 #[.func (.func k) fs caps] w fun e w' => e = .returned (.int .i64 n) ∧ Kept S w w' ∧ Q w' := by
  have hmf : ∀ (fn : Fn) (first cap : Array Value) (w : World), (Instr.makeFunc fn first cap).run Try.prog w = .ok (.func fn first cap) w := fun _ _ _ _ => rfl
  have hne := func2_eq_nil
  have hrun := run_kept 54 enters_outcome1 #[.pointer (some ⟨w.heap.size, 0, none⟩)] (w.alloc (.cells #[.func (.func k) fs caps] 82)) S (fun b hb => by have := hS b hb; simp; omega)
    (fun m W => m = n ∧ Q W) (fun m W W' ⟨hm, hq⟩ hb => ⟨hm, hQ _ _ hq (hb.mono (by simp))⟩)
    ((o_outcome1 k hk fs caps n w.heap.size _ (heap_alloc_old (heap_alloc_new' _ _)) _ (h _ (((Kept.refl [] w).alloc _).alloc _))).mono fun e w' hx => by
      rcases hx with ⟨he, hm, hkk, hq⟩ | ⟨m, he, hm, hkk, hq⟩
      · exact Or.inl ⟨he, hkk, hm, hq⟩
      · exact Or.inr ⟨m, he, hkk, hm, hq⟩)
  have H := hid hrun
  clear hrun h hS hQ
  go_enter Try.func49, Try.ntmps49
  go_wp2_with fail
  refine H.out.mono ?_
  rintro e w1 ⟨m, rfl, hkk, rfl, hq⟩
  go_wp2
  go_ret
  exact ⟨rfl, ((Kept.refl S w).alloc _).trans hkk, hq⟩

set_option maxHeartbeats 1000000 in
theorem o_all (n : Nat) (hn : n ≤ 4611686018427387904) (b off : Nat) (cap : Nat) (kf : Nat → Nat) (fsf capf : Nat → Array Value) (E : Nat → Int) (w : World) (S : List Nat) (hS : ∀ x ∈ S, x < w.heap.size)
    (ha : b < w.heap.size) (haS : b ∉ S) (hk : ∀ i, i < n → Enters (kf i))
    (hcell : ∀ i, i < n → w.cell? ⟨b, off + i, none⟩ = some (.func (.func (kf i)) (fsf i) (capf i)))
    (St : Nat → World → Prop) (hSt : ∀ i W W', St i W → Below w.heap.size W W' → St i W') (h0 : St 0 w)
    (h : ∀ i, i < n → ∀ W, St i W → Kept S w W → Calls Try.prog (kf i) (fsf i ++ capf i) W fun e w' => e = .returned (.int .i64 (E i)) ∧ Kept S W w' ∧ St (i + 1) w') :
    Calls Try.prog 33 #[.slice (some ⟨b, off, none⟩) n cap] w fun e w' =>
      e = .returned (.tuple #[.int .i64 ((firstFrom E n 0).1 : Nat), .int .i64 (firstFrom E n 0).2]) ∧ Kept S w w' ∧ St (begun E n) w' := by
  have HS := hid hS; have Hk := hid hk; have Hcell := hid hcell; have HSt := hid hSt; have H := hid h
  clear hS hk hcell hSt h
  go_enter Try.func33, Try.ntmps33
  go_wp2_with fail
  go_loopw [9] (fun v wr => ∃ i : Nat, i ≤ n ∧ v = .int .i64 i ∧ Kept S w wr ∧ St i wr ∧ Hid (firstFrom E n 0 = firstFrom E (n - i) i)) (fun v _ => n - (intOf v).toNat)
  case atStart => exact ⟨0, Nat.zero_le _, rfl, Kept.refl _ _, h0, rfl⟩
  case round =>
    obtain ⟨i, hi, rfl, hkw, hst, hff⟩ := hrel
    by_cases hlt : i < n
    · have hci : wr.cell? ⟨b, off + i, none⟩ = some (.func (.func (kf i)) (fsf i) (capf i)) := (hkw.cell (p := ⟨b, off + i, none⟩) ha haS).trans (Hcell.out i hlt)
      have hcall := hid (o_outcome (kf i) (Hk.out i hlt) (fsf i) (capf i) (E i) wr S (fun x hx => Nat.lt_of_lt_of_le (HS.out x hx) hkw.size) (St (i + 1))
        (fun W W' hs hb => HSt.out _ _ _ hs (hb.mono hkw.size))
        (fun W hW => H.out i hlt W (HSt.out _ _ _ hst (hW.below hkw.size (fun x hx => absurd hx (by simp)))) (hkw.trans (hW.wider (fun x _ hx => absurd hx (by simp))))))
      have hkw' := hid hkw
      clear hkw hst h0
      by_cases hE : E i = 0
      · have hff' : Hid (firstFrom E n 0 = firstFrom E (n - (i + 1)) (i + 1)) := by
          have := hff.out
          rw [show n - i = (n - (i + 1)) + 1 by omega] at this
          exact hid (by simpa [firstFrom, hE] using this)
        have hE' := hid hE
        clear hE hff
        rw [hE'.out] at hcall
        go_wp2_with fail
        refine hcall.out.mono ?_
        rintro e w1 ⟨rfl, hk1, hs1⟩
        go_wp2
        go_roundw
        case rel => exact ⟨i + 1, by omega, by go_num, hkw'.out.trans hk1, hs1, hff'⟩
        case measure => simp [intOf]; omega
      · have hne : (E i == 0) = false := by simpa using hE
        have hres : Hid (firstFrom E n 0 = (i, E i)) := by
          have := hff.out
          rw [show n - i = (n - (i + 1)) + 1 by omega] at this
          exact hid (by simpa [firstFrom, hE] using this)
        clear hE hff
        go_wp2_with fail
        refine hcall.out.mono ?_
        rintro e w1 ⟨rfl, hk1, hs1⟩
        go_wp2
        go_ret2
        rw [show begun E n = i + 1 by unfold begun; rw [hres.out]; omega, hres.out]
        exact ⟨rfl, hkw'.out.trans hk1, hs1⟩
    · have hin : i = n := by omega
      subst hin
      have hres : Hid (firstFrom E i 0 = (i, 0)) := by
        have := hff.out
        exact hid (by simpa [firstFrom] using this)
      clear hff h0 hlt
      go_wp2
      go_ret2
      rw [show begun E i = i by unfold begun; rw [hres.out]; simp, hres.out]
      exact ⟨rfl, hkw, hst⟩

end Go.Proofs.Ytmholofhmpplcaa
