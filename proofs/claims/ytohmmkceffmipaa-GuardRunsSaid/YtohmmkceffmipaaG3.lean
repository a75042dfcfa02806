/- guard.All with its outcome, guard.Finally. -/
import Derived.Test.YtohmmkceffmipaaG2
import Derived.Handy
namespace Go.Proofs.Ytohmmkceffmipaa
open Go.RowKit

theorem must_threw (n : Int) (w : World) : Calls Try.prog 13 #[.int .i64 n] w (Threw fun m w' => m = n ∧ w = w') := by
  by_cases hn : n = 0
  · subst hn
    exact (must_ok w).mono fun e w' ⟨h, hw⟩ => Or.inl ⟨h, rfl, hw⟩
  · exact (must_err n (by simpa using hn) w).mono fun e w' ⟨h, hw⟩ => Or.inr ⟨n, ⟨_, h, Calm.nil⟩, rfl, hw⟩

theorem enters_run1 : Enters 55 := fun args w => by simp [go_sem]
theorem enters_outcome1 : Enters 78 := fun args w => by simp [go_sem]
theorem enters_finally1 : Enters 57 := fun args w => by simp [go_sem]

theorem outcome1_any (k : Nat) (hk : Enters k) (caps : Array Value) (n : Int) (b : Nat) (w : World) (hb : w.heap[b]? = some (.cells #[.func (.func k) #[] caps] 31 (0, 0))) (R : World → Prop)
    (h : Calls Try.prog k caps w fun e w' => e = .returned (.int .i64 n) ∧ R w') :
    Calls Try.prog 78 #[.pointer (some ⟨b, 0, none⟩)] w (Threw fun m w' => m = n ∧ R w') := by
  have hc := cell_of_one hb
  have H : Hid (Calls Try.prog k caps w fun e w' => e = .returned (.int .i64 n) ∧ R w') := h
  clear h hb
  unfold Enters at hk
  go_enter Try.func78, Try.ntmps78
  go_wp2_with fail
  refine H.out.mono ?_
  rintro e w1 ⟨rfl, hR⟩
  go_wp2_with fail
  refine (must_threw n w1).mono ?_
  rintro e w' (⟨rfl, hm, rfl⟩ | ⟨m, ⟨older, rfl, hcalm⟩, hm, rfl⟩)
  · go_wp2
    go_end0
    exact Or.inl ⟨rfl, hm, hR⟩
  · exact ⟨rfl, Or.inr ⟨m, ⟨older, rfl, hcalm⟩, hm, hR⟩⟩

theorem func2_eq_nil (fn : Fn) (a b : Array Value) (w : World) : (binOp .eql 31 (.func fn a b) .nilFunc).run Try.prog w = .ok (.bool false) w := by kernel_rfl

theorem outcome_any (k : Nat) (hk : Enters k) (caps : Array Value) (n : Int) (w : World) (S : List Nat) (hS : ∀ b ∈ S, b < w.heap.size) (Q : World → Prop)
    (hQ : ∀ W W', Q W → Below w.heap.size W W' → Q W')
    (h : ∀ W, Kept [] w W → Calls Try.prog k caps W fun e w' => e = .returned (.int .i64 n) ∧ Kept S W w' ∧ Q w') :
    Calls Try.prog 56 #[.func (.func k) #[] caps] w fun e w' => e = .returned (.int .i64 n) ∧ Kept S w w' ∧ Q w' := by
  have hmf : ∀ (fn : Fn) (first cap : Array Value) (w : World), (Instr.makeFunc fn first cap).run Try.prog w = .ok (.func fn first cap) w := fun _ _ _ _ => rfl
  have hne := func2_eq_nil
  have hrun := run_kept 78 enters_outcome1 #[.pointer (some ⟨w.heap.size, 0, none⟩)] (w.alloc (.cells #[.func (.func k) #[] caps] 31)) S (fun b hb => by have := hS b hb; simp; omega)
    (fun m W => m = n ∧ Q W) (fun m W W' ⟨hm, hq⟩ hb => ⟨hm, hQ _ _ hq (hb.mono (by simp))⟩)
    ((outcome1_any k hk caps n w.heap.size _ (heap_alloc_old (heap_alloc_new' _ _)) _ (h _ (((Kept.refl [] w).alloc _).alloc _))).mono fun e w' hx => by
      rcases hx with ⟨he, hm, hkk, hq⟩ | ⟨m, he, hm, hkk, hq⟩
      · exact Or.inl ⟨he, hkk, hm, hq⟩
      · exact Or.inr ⟨m, he, hkk, hm, hq⟩)
  have H := hid hrun
  clear hrun h hS hQ
  go_enter Try.func56, Try.ntmps56
  go_wp2_with fail
  refine H.out.mono ?_
  rintro e w1 ⟨m, rfl, hkk, rfl, hq⟩
  go_wp2
  go_ret
  exact ⟨rfl, ((Kept.refl S w).alloc _).trans hkk, hq⟩

/-- How far a row of answers comes: the first that is not 0 among those from i on (m of them left). -/
def firstFrom (E : Nat → Int) : Nat → Nat → Nat × Int
  | 0, i => (i, 0)
  | m + 1, i => if E i = 0 then firstFrom E m (i + 1) else (i, E i)

/-- How many steps were begun. -/
def begun (E : Nat → Int) (n : Nat) : Nat := min ((firstFrom E n 0).1 + 1) n

theorem firstFrom_le (E : Nat → Int) : ∀ m i, (firstFrom E m i).1 ≤ i + m ∧ i ≤ (firstFrom E m i).1
  | 0, i => by simp [firstFrom]
  | m + 1, i => by
    have := firstFrom_le E m (i + 1)
    simp only [firstFrom]
    split
    · omega
    · dsimp only; omega

set_option maxHeartbeats 1000000 in
theorem all_any (n : Nat) (hn : n ≤ 4611686018427387904) (b off : Nat) (cap : Nat) (kf : Nat → Nat) (capf : Nat → Array Value) (E : Nat → Int) (w : World) (S : List Nat) (hS : ∀ x ∈ S, x < w.heap.size)
    (ha : b < w.heap.size) (haS : b ∉ S) (hk : ∀ i, i < n → Enters (kf i))
    (hcell : ∀ i, i < n → w.cell? ⟨b, off + i, none⟩ = some (.func (.func (kf i)) #[] (capf i)))
    (St : Nat → World → Prop) (hSt : ∀ i W W', St i W → Below w.heap.size W W' → St i W') (h0 : St 0 w)
    (h : ∀ i, i < n → ∀ W, St i W → Kept S w W → Calls Try.prog (kf i) (capf i) W fun e w' => e = .returned (.int .i64 (E i)) ∧ Kept S W w' ∧ St (i + 1) w') :
    Calls Try.prog 17 #[.slice (some ⟨b, off, none⟩) n cap] w fun e w' =>
      e = .returned (.tuple #[.int .i64 ((firstFrom E n 0).1 : Nat), .int .i64 (firstFrom E n 0).2]) ∧ Kept S w w' ∧ St (begun E n) w' := by
  have HS := hid hS; have Hk := hid hk; have Hcell := hid hcell; have HSt := hid hSt; have H := hid h
  clear hS hk hcell hSt h
  go_enter Try.func17, Try.ntmps17
  go_wp2_with fail
  go_loopw [9] (fun v wr => ∃ i : Nat, i ≤ n ∧ v = .int .i64 i ∧ Kept S w wr ∧ St i wr ∧ Hid (firstFrom E n 0 = firstFrom E (n - i) i)) (fun v _ => n - (intOf v).toNat)
  case atStart => exact ⟨0, Nat.zero_le _, rfl, Kept.refl _ _, h0, rfl⟩
  case round =>
    obtain ⟨i, hi, rfl, hkw, hst, hff⟩ := hrel
    by_cases hlt : i < n
    · have hci : wr.cell? ⟨b, off + i, none⟩ = some (.func (.func (kf i)) #[] (capf i)) := (hkw.cell (p := ⟨b, off + i, none⟩) ha haS).trans (Hcell.out i hlt)
      have hcall := hid (outcome_any (kf i) (Hk.out i hlt) (capf i) (E i) wr S (fun x hx => Nat.lt_of_lt_of_le (HS.out x hx) hkw.size) (St (i + 1))
        (fun W W' hs hb => HSt.out _ _ _ hs (hb.mono hkw.size))
        (fun W hW => H.out i hlt W (HSt.out _ _ _ hst (hW.below hkw.size (fun x hx => absurd hx (by simp)))) (hkw.trans (hW.wider (fun x _ hx => absurd hx (by simp))))))
      have hkw' := hid hkw
      clear hkw hst h0
      by_cases hE : E i = 0
      · have hff' : Hid (firstFrom E n 0 = firstFrom E (n - (i + 1)) (i + 1)) := by
          have := hff.out
          rw [show n - i = (n - (i + 1)) + 1 by omega] at this
          exact hid (by simpa [firstFrom, hE] using this)
        have hE' := hid hE
        clear hE hff
        rw [hE'.out] at hcall
        go_wp2_with fail
        refine hcall.out.mono ?_
        rintro e w1 ⟨rfl, hk1, hs1⟩
        go_wp2
        go_roundw
        case rel => exact ⟨i + 1, by omega, by go_num, hkw'.out.trans hk1, hs1, hff'⟩
        case measure => simp [intOf]; omega
      · have hne : (E i == 0) = false := by simpa using hE
        have hres : Hid (firstFrom E n 0 = (i, E i)) := by
          have := hff.out
          rw [show n - i = (n - (i + 1)) + 1 by omega] at this
          exact hid (by simpa [firstFrom, hE] using this)
        clear hE hff
        go_wp2_with fail
        refine hcall.out.mono ?_
        rintro e w1 ⟨rfl, hk1, hs1⟩
        go_wp2
        go_ret2
        rw [show begun E n = i + 1 by unfold begun; rw [hres.out]; omega, hres.out]
        exact ⟨rfl, hkw'.out.trans hk1, hs1⟩
    · have hin : i = n := by omega
      subst hin
      have hres : Hid (firstFrom E i 0 = (i, 0)) := by
        have := hff.out
        exact hid (by simpa [firstFrom] using this)
      clear hff h0 hlt
      go_wp2
      go_ret2
      rw [show begun E i = i by unfold begun; rw [hres.out]; simp, hres.out]
      exact ⟨rfl, hkw, hst⟩

theorem all_nil (w : World) : Calls Try.prog 17 #[.slice none 0 0] w fun e w' => e = .returned (.tuple #[.int .i64 0, .int .i64 0]) ∧ w = w' := by
  go_enter Try.func17, Try.ntmps17
  go_wp2
  go_rounds 1
  go_ret2
  exact ⟨rfl, rfl⟩

def Fin1 (b : Nat) (n : Int) (S : List Nat) (w : World) (Q : Int → World → Prop) (e : Ending) (w' : World) : Prop :=
  e = .returned (.tuple #[]) ∧ ∃ m, Kept ((b + 1) :: S) w w' ∧ Q m w' ∧ w'.heap[b + 1]? = some (.cells #[.int .i64 (if n = 0 then m else n)] 26 (0, 0))

/-- What must be done last, done behind a function that returned. -/
theorem finally1_any (k : Nat) (hk : Enters k) (caps : Array Value) (n : Int) (b : Nat) (w : World) (S : List Nat) (hS : ∀ x ∈ S, x < b) (Q : Int → World → Prop)
    (hQ : ∀ m W W', Q m W → Below b W W' → Q m W')
    (hb : w.heap[b]? = some (.cells #[.func (.func k) #[] caps] 1 (0, 0))) (hb1 : w.heap[b + 1]? = some (.cells #[.int .i64 n] 26 (0, 0)))
    (h : ∀ W, Kept [] w W → Calls Try.prog k caps W (Threw fun m w' => Kept S W w' ∧ Q m w')) :
    CallsD Try.prog 57 #[.pointer (some ⟨b, 0, none⟩), .pointer (some ⟨b + 1, 0, none⟩)] .returning w fun e u' w' =>
      u' = .returning ∧ Fin1 b n S w Q e w' := by
  have hlt := lt_of_block hb
  have hrun := hid (run_kept k hk caps w S (fun x hx => Nat.lt_trans (hS x hx) hlt) Q (fun m W W' hq hbl => hQ m _ _ hq (hbl.mono (by omega))) (h _ ((Kept.refl [] w).alloc _)))
  have hc := cell_of_one hb
  have HS := hid hS; have HQ := hid hQ; have Hb1 := hid hb1
  clear hb hb1 h hS hQ hlt
  refine callsD_of_wp Try.func57 rfl ?_
  simp only [Try.ntmps57, List.size_toArray, List.length_cons, List.length_nil, Nat.reduceAdd, Nat.reduceSub, Array.replicate_succ,
     Array.replicate_zero, List.push_toArray, List.append_toArray, List.nil_append, List.cons_append]
  go_wp2_with fail
  refine hrun.out.mono ?_
  rintro e w1 ⟨m, rfl, hk1, hq1⟩
  have hb1' := hk1.at Hb1.out (fun hm => by have := HS.out _ hm; omega)
  have hc1 := cell_of_one hb1'
  have hf1 := free_of_one hb1'
  have Hb1' := hid hb1'
  clear hb1'
  by_cases hn : n = 0
  · subst hn
    go_wp2
    go_end0
    refine ⟨rfl, m, (hk1.wider (fun x _ hx => List.mem_cons_of_mem _ hx)).setCell (p := ⟨b + 1, 0, none⟩) (fun _ => by simp) _, HQ.out _ _ _ hq1 (Below.of_setCell _ (p := ⟨b + 1, 0, none⟩) (by simp) _), ?_⟩
    simpa using one_setCell Hb1'.out
  · have hne : (n == 0) = false := by simpa using hn
    have hn' := hid hn
    clear hn
    go_wp2
    go_end0
    refine ⟨rfl, m, (hk1.wider (fun x _ hx => List.mem_cons_of_mem _ hx)), hq1, ?_⟩
    rw [if_neg hn'.out]
    exact Hb1'.out

theorem finally_any (k1 k2 : Nat) (hk1 : Enters k1) (hk2 : Enters k2) (caps1 caps2 : Array Value) (w : World) (S : List Nat) (hS : ∀ x ∈ S, x < w.heap.size) (A : Int → World → Prop) (B : Int → Int → World → Prop)
    (hA : ∀ n W W', A n W → Below w.heap.size W W' → A n W') (hB : ∀ n m W W', B n m W → Below w.heap.size W W' → B n m W')
    (h1 : ∀ W, Kept [] w W → Calls Try.prog k1 caps1 W (Threw fun n w' => Kept S W w' ∧ A n w'))
    (h2 : ∀ n W, Kept S w W → A n W → Calls Try.prog k2 caps2 W (Threw fun m w' => Kept S W w' ∧ B n m w')) :
    Calls Try.prog 18 #[.func (.func k1) #[] caps1, .func (.func k2) #[] caps2] w fun e w' =>
      ∃ n m, e = .returned (.int .i64 (if n = 0 then m else n)) ∧ Kept S w w' ∧ B n m w' := by
  have hmf : ∀ (fn : Fn) (first cap : Array Value) (w : World), (Instr.makeFunc fn first cap).run Try.prog w = .ok (.func fn first cap) w := fun _ _ _ _ => rfl
  have hrun := hid (run_kept k1 hk1 caps1 ((w.alloc (.cells #[.func (.func k2) #[] caps2] 1)).alloc (.cells #[.int .i64 0] 26)) S (fun x hx => by have := hS x hx; simp; omega) A
    (fun m W W' hq hbl => hA m _ _ hq (hbl.mono (by simp; omega))) (h1 _ ((((Kept.refl [] w).alloc _).alloc _).alloc _)))
  have HS := hid hS; have HA := hid hA; have HB := hid hB; have H2 := hid h2
  have hkk := hid (show Kept S w ((w.alloc (.cells #[.func (.func k2) #[] caps2] 1)).alloc (.cells #[.int .i64 0] 26)) from ((Kept.refl S w).alloc _).alloc _)
  have hb0 := hid (show ((w.alloc (.cells #[.func (.func k2) #[] caps2] 1)).alloc (.cells #[.int .i64 0] 26)).heap[w.heap.size]? = some (.cells #[.func (.func k2) #[] caps2] 1 (0, 0)) from heap_alloc_old (heap_alloc_new' _ _))
  have hb1 := hid (show ((w.alloc (.cells #[.func (.func k2) #[] caps2] 1)).alloc (.cells #[.int .i64 0] 26)).heap[w.heap.size + 1]? = some (.cells #[.int .i64 0] 26 (0, 0)) from by
    have := heap_alloc_new' (w.alloc (.cells #[.func (.func k2) #[] caps2] 1)) (.cells #[.int .i64 0] 26); simpa using this)
  clear hS hA hB h1 h2
  go_enter_defers Try.func18, Try.ntmps18
  go_wp2_with fail
  refine hrun.out.mono ?_
  rintro e w1 ⟨n, rfl, hk, ha⟩
  have hb0' := hk.at hb0.out (fun hm => by have := HS.out _ hm; omega)
  have hb1' := hk.at hb1.out (fun hm => by have := HS.out _ hm; omega)
  have hc1 := cell_of_one hb1'
  have hf1 := free_of_one hb1'
  have hb0'' := hid (heap_setCell_other (p := ⟨w.heap.size + 1, 0, none⟩) (u := .int .i64 n) hb0' (by simp))
  have hb1'' := hid (one_setCell (u := .int .i64 n) hb1')
  have hkw := hid (show Kept S w (w1.setCell ⟨w.heap.size + 1, 0, none⟩ (.int .i64 n)) from (hkk.out.trans hk).setCell (fun h => absurd h (by simp)) _)
  have ha' := hid (HA.out _ _ _ ha (Below.of_setCell w1 (p := ⟨w.heap.size + 1, 0, none⟩) (by simp) (.int .i64 n)))
  clear hb0' hb1' hk ha
  go_wp2
  refine leaves_cons (f := 57) (args := #[.pointer (some ⟨w.heap.size, 0, none⟩), .pointer (some ⟨w.heap.size + 1, 0, none⟩)]) (by simp) (by simp [go_sem]) ?_
  refine (finally1_any k2 hk2 caps2 n w.heap.size _ S HS.out (fun m W => B n m W) (HB.out n) hb0''.out hb1''.out (fun W hW => H2.out n W (hkw.out.trans' hW (fun _ _ hx => absurd hx (by simp))) (HA.out _ _ _ ha'.out (hW.below hkw.out.size (fun x hx => absurd hx (by simp)))))).mono ?_
  rintro e u' w'' ⟨rfl, rfl, m, hk3, hb3, hcell⟩
  have hkf : Kept S w w'' := hkw.out.trans' hk3 (fun x hx hm => by
    rcases List.mem_cons.1 hm with h | h
    · omega
    · exact h)
  simp [Leaves, settle, results, Try.results18, go_sem, cell_of_one hcell]
  exact ⟨n, m, rfl, hkf, hb3⟩
end Go.Proofs.Ytohmmkceffmipaa
