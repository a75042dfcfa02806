/- coldstorelaw01.GuardRuns. -/
import Derived.Test.YtohmmkceffmipaaG9
import Derived.IntWalk
namespace Go.Proofs.Ytohmmkceffmipaa
open Go.RowKit

theorem enters_runs1 : Enters 12 := fun args w => by simp [go_sem]
theorem enters_runs2 : Enters 14 := fun args w => by simp [go_sem]
theorem enters_runs3 : Enters 16 := fun args w => by simp [go_sem]

theorem runs_3 (b : Nat) (x : Int) (w : World) (hb : w.heap[b]? = some (.cells #[.int .i64 x] 3 (0, 0))) :
    Calls Try.prog 16 #[.pointer (some ⟨b, 0, none⟩)] w fun e w' => e = .returned (.int .i64 x) ∧ w = w' := by
  have gb := cell_of_one hb
  clear hb
  go_enter Try.func16, Try.ntmps16
  go_wp2
  go_ret
  exact ⟨rfl, rfl⟩

/-- The numbers of a list, as a row of answers. -/
def row (zs : List Int) : Nat → Int := fun i => zs[i]?.getD 0

/-- coldstoreref01.First. -/
theorem first_any (a : Option Addr) (n c : Nat) (hn : n ≤ 9223372036854775807) (zs : List Int) (w : World) (ha : Reads w a n zs) :
    Calls Try.prog 10 #[.slice a n c] w fun e w' => e = .returned (.tuple #[.int .i64 ((firstFrom (row zs) n 0).1 : Nat), .int .i64 (firstFrom (row zs) n 0).2]) ∧ Kept [] w w' := by
  have Ha := hid ha
  clear ha
  go_enter Try.func10, Try.ntmps10
  go_wp2_with fail
  go_loopw [4] (fun s wr => ∃ i : Nat, i ≤ n ∧ s = .int .i64 i ∧ Kept [] w wr ∧ Hid (firstFrom (row zs) n 0 = firstFrom (row zs) (n - i) i)) (fun s _ => n - (intOf s).toNat)
  case atStart => exact ⟨0, Nat.zero_le _, rfl, Kept.refl _ _, hid rfl⟩
  case round =>
    obtain ⟨i, hi, rfl, hk, hff⟩ := hrel
    by_cases hlt : i < n
    · have ra := Ha.out.kept hk (fun _ _ => by simp)
      obtain ⟨_, na, ca⟩ := ra
      cases a with
      | none => exact absurd (na rfl) (by omega)
      | some x =>
        have gx := ca x rfl i hlt
        have h0 : (0 : Int) ≤ (i : Int) := by omega
        have h1 : (i : Int) < (n : Int) := by omega
        have Hk := hid hk
        clear ca na hk
        have hst := hff.out
        rw [show n - i = (n - (i + 1)) + 1 by omega] at hst
        simp only [firstFrom] at hst
        by_cases hE : zs[i]?.getD 0 = 0
        · have hst' : Hid (firstFrom (row zs) n 0 = firstFrom (row zs) (n - (i + 1)) (i + 1)) := hid (by rw [if_pos (show row zs i = 0 from hE)] at hst; exact hst)
          have hEq : (zs[i]?.getD 0 == 0) = true := by simpa using hE
          have hEn : (zs[i]?.getD 0 != 0) = false := by simpa using hE
          clear hst hE hff
          go_wp2_with fail
          go_roundw
          case rel => exact ⟨i + 1, by omega, by go_num, Hk.out, hst'⟩
          case measure => simp [intOf]; omega
        · have hst' : Hid (firstFrom (row zs) n 0 = (i, zs[i]?.getD 0)) := hid (by rw [if_neg (show ¬ row zs i = 0 from hE)] at hst; exact hst)
          have hEq : (zs[i]?.getD 0 == 0) = false := by simpa using hE
          have hEn : (zs[i]?.getD 0 != 0) = true := by simpa using hE
          clear hst hE hff
          go_wp2_with fail
          go_quiet (fail)
          go_wp2
          go_ret2
          rw [hst'.out]
          exact ⟨rfl, Hk.out.drewN _⟩
    · have hin : i = n := by omega
      subst hin
      have hst : Hid (firstFrom (row zs) i 0 = (i, 0)) := hid (by have := hff.out; simpa [firstFrom] using this)
      clear hff
      go_wp2
      go_ret2
      rw [hst.out]
      exact ⟨rfl, hk⟩

/-- The first closure: as far as there is no error it counts. -/
theorem runs_1 (pl pc : Nat) (a : Option Addr) (len cap : Nat) (zs : List Int) (w : World) (hlen : len ≤ 200) (hplc : pl ≠ pc)
    (hl : w.heap[pl]? = some (.cells #[.slice a len cap] 22 (0, 0))) (hc : w.heap[pc]? = some (.cells #[.int .i64 0] 3 (0, 0))) (ha : Reads w a len zs) (hac : 0 < len → ∀ x, a = some x → x.block ≠ pc) :
    Calls Try.prog 12 #[.pointer (some ⟨pl, 0, none⟩), .pointer (some ⟨pc, 0, none⟩)] w
      (Threw fun m w' => m = (firstFrom (row zs) len 0).2 ∧ Kept [pc] w w' ∧ w'.heap[pc]? = some (.cells #[.int .i64 ((firstFrom (row zs) len 0).1 : Nat)] 3 (0, 0))) := by
  have gl := cell_of_one hl
  have Ha := hid ha; have Hac := hid hac; have Hc := hid hc
  clear ha hac hl hc hplc
  go_enter Try.func12, Try.ntmps12
  go_wp2_with fail
  go_loopw [6] (fun s wr => ∃ i : Nat, i ≤ len ∧ s = .int .i64 i ∧ Kept [pc] w wr ∧ wr.heap[pc]? = some (.cells #[.int .i64 i] 3 (0, 0)) ∧ Hid (firstFrom (row zs) len 0 = firstFrom (row zs) (len - i) i)) (fun s _ => len - (intOf s).toNat)
  case atStart => exact ⟨0, Nat.zero_le _, rfl, Kept.refl _ _, Hc.out, hid rfl⟩
  case round =>
    obtain ⟨i, hi, rfl, hk, hci, hff⟩ := hrel
    by_cases hlt : i < len
    · have ra := Ha.out.kept hk (fun x hx => by simpa using Hac.out (by omega) x hx)
      obtain ⟨_, na, ca⟩ := ra
      cases a with
      | none => exact absurd (na rfl) (by omega)
      | some x =>
        have gx := ca x rfl i hlt
        have Hk := hid hk
        have hst := hff.out
        rw [show len - i = (len - (i + 1)) + 1 by omega] at hst
        simp only [firstFrom] at hst
        by_cases hE : zs[i]?.getD 0 = 0
        · have hst' : Hid (firstFrom (row zs) len 0 = firstFrom (row zs) (len - (i + 1)) (i + 1)) := hid (by rw [if_pos (show row zs i = 0 from hE)] at hst; exact hst)
          rw [hE] at gx
          have gc := cell_of_one hci
          have gz := free_of_one hci
          have hk2 := hid (show Kept [pc] w (wr.setCell ⟨pc, 0, none⟩ (.int .i64 (i + 1))) from hk.setCell (p := ⟨pc, 0, none⟩) (fun _ => by simp) _)
          have hc2 := hid (one_setCell (u := .int .i64 (i + 1)) hci)
          clear hst hE hff hk hci ca na
          go_wp2_with (go_at_call 13; refine (must_ok _).mono ?_; rintro e w' ⟨rfl, rfl⟩)
          go_roundw
          case rel => exact ⟨i + 1, by omega, by go_num, hk2.out, by simpa using hc2.out, hst'⟩
          case measure => simp [intOf]; omega
        · have hst' : Hid (firstFrom (row zs) len 0 = (i, zs[i]?.getD 0)) := hid (by rw [if_neg (show ¬ row zs i = 0 from hE)] at hst; exact hst)
          have hEq : (zs[i]?.getD 0 == 0) = false := by simpa using hE
          have Hci := hid hci
          clear hst hE hff hk hci ca na
          go_wp2_with fail
          refine (must_err _ hEq _).mono ?_
          rintro e w' ⟨rfl, rfl⟩
          refine ⟨rfl, Or.inr ⟨_, ⟨_, rfl, Calm.nil⟩, ?_⟩⟩
          rw [hst'.out]
          exact ⟨rfl, Hk.out, Hci.out⟩
    · have hin : i = len := by omega
      subst hin
      have hst : Hid (firstFrom (row zs) i 0 = (i, 0)) := hid (by have := hff.out; simpa [firstFrom] using this)
      clear hff
      go_wp2
      go_end0
      refine Or.inl ⟨rfl, ?_⟩
      rw [hst.out]
      exact ⟨rfl, hk, hci⟩

/-- The second closure: as runs_1, by values. -/
theorem runs_2 (pl pc : Nat) (a : Option Addr) (len cap : Nat) (zs : List Int) (w : World) (hlen : len ≤ 200) (hplc : pl ≠ pc)
    (hl : w.heap[pl]? = some (.cells #[.slice a len cap] 22 (0, 0))) (hc : w.heap[pc]? = some (.cells #[.int .i64 0] 3 (0, 0))) (ha : Reads w a len zs) (hac : 0 < len → ∀ x, a = some x → x.block ≠ pc) :
    Calls Try.prog 14 #[.pointer (some ⟨pl, 0, none⟩), .pointer (some ⟨pc, 0, none⟩)] w
      (Threw fun m w' => m = (firstFrom (row zs) len 0).2 ∧ Kept [pc] w w' ∧ w'.heap[pc]? = some (.cells #[.int .i64 ((firstFrom (row zs) len 0).1 : Nat)] 3 (0, 0))) := by
  have gl := cell_of_one hl
  have Ha := hid ha; have Hac := hid hac; have Hc := hid hc
  clear ha hac hl hc hplc
  go_enter Try.func14, Try.ntmps14
  go_wp2_with fail
  go_loopw [6] (fun s wr => ∃ i : Nat, i ≤ len ∧ s = .int .i64 i ∧ Kept [pc] w wr ∧ wr.heap[pc]? = some (.cells #[.int .i64 i] 3 (0, 0)) ∧ Hid (firstFrom (row zs) len 0 = firstFrom (row zs) (len - i) i)) (fun s _ => len - (intOf s).toNat)
  case atStart => exact ⟨0, Nat.zero_le _, rfl, Kept.refl _ _, Hc.out, hid rfl⟩
  case round =>
    obtain ⟨i, hi, rfl, hk, hci, hff⟩ := hrel
    by_cases hlt : i < len
    · have ra := Ha.out.kept hk (fun x hx => by simpa using Hac.out (by omega) x hx)
      obtain ⟨_, na, ca⟩ := ra
      cases a with
      | none => exact absurd (na rfl) (by omega)
      | some x =>
        have gx := ca x rfl i hlt
        have Hk := hid hk
        have hst := hff.out
        have gc := cell_of_one hci
        have gz := free_of_one hci
        rw [show len - i = (len - (i + 1)) + 1 by omega] at hst
        simp only [firstFrom] at hst
        by_cases hE : zs[i]?.getD 0 = 0
        · have hst' : Hid (firstFrom (row zs) len 0 = firstFrom (row zs) (len - (i + 1)) (i + 1)) := hid (by rw [if_pos (show row zs i = 0 from hE)] at hst; exact hst)
          rw [hE] at gx
          have hk2 := hid (fun u : Value => show Kept [pc] w (wr.setCell ⟨pc, 0, none⟩ u).drew from (hk.setCell (p := ⟨pc, 0, none⟩) (fun _ => by simp) u).drew)
          have hc2 := hid (fun u : Value => show (wr.setCell ⟨pc, 0, none⟩ u).drew.heap[pc]? = some (.cells #[u] 3 (0, 0)) from one_setCell (u := u) hci)
          clear hst hE hff hk hci ca na
          go_wp2_with fail
          go_region_with (go_at_call 15; refine (valueint_ok _ _).mono ?_; rintro e w' ⟨rfl, rfl⟩)
          all_goals
            go_wp2
            go_roundw
            case rel => exact ⟨i + 1, by omega, by go_num, hk2.out _, by
              rw [show ((i : Int) + ((i : Int) + 1 - (i : Int))) = ((i + 1 : Nat) : Int) by omega]
              exact hc2.out _, hst'⟩
            case measure => simp [intOf]; omega
        · have hst' : Hid (firstFrom (row zs) len 0 = (i, zs[i]?.getD 0)) := hid (by rw [if_neg (show ¬ row zs i = 0 from hE)] at hst; exact hst)
          have hEq : (zs[i]?.getD 0 == 0) = false := by simpa using hE
          have Hci := hid hci
          clear hst hE hff hk hci ca na
          go_wp2_with fail
          have h0 : (0 : Int) ≤ (i : Int) := by omega
          have h1 : (i : Int) ≤ 200 := by omega
          refine wp_region_any (by kernel_rfl) ?_
          refine wpAny_take (i := 1) (v := .int .i64 i) rfl (by kernel_rfl) (by kernel_rfl) (by kernel_rfl) (fun _ _ _ h => h) (Or.inl ⟨by rfl, ?_⟩) ?_
          · intro w; go_simp
          refine wpAny_take (i := 2) (v := .int .i64 (i + 1)) rfl (by kernel_rfl) (by kernel_rfl) (by kernel_rfl) (fun _ _ _ h => h) (Or.inl ⟨by rfl, ?_⟩) ?_
          · intro w; go_simp; exact IntWalk.i64_in _ (by omega)
          refine wpAny_take (i := 3) (v := .int .i64 (zs[i]?.getD 0)) rfl (by kernel_rfl) (by kernel_rfl) (by kernel_rfl) (fun _ _ _ h => h) (Or.inl ⟨by rfl, ?_⟩) ?_
          · intro w; go_simp
          refine wpAny_take (i := 5) (v := .int .i64 i) rfl (by kernel_rfl) (by kernel_rfl) (by kernel_rfl) (fun _ _ _ h => h) (Or.inl ⟨by rfl, ?_⟩) ?_
          · intro w; go_simp
          refine wpAny_ready (rs := [0, 4]) (by kernel_rfl) (by simp) ?_
          refine AllReady.cons rfl (fun K hK => ?_) (AllReady.cons rfl (fun K hK => ?_) AllReady.nil)
          · go_simp
            refine hK _ _ ?_
            refine wpAny_ready (rs := [4]) (by kernel_rfl) (by simp) ?_
            refine AllReady.cons rfl (fun K hK => ?_) AllReady.nil
            go_simp
            refine (valueint_err _ _ hEq _).mono ?_
            rintro e w' ⟨⟨older, rfl, hcalm⟩, rfl⟩
            refine ⟨rfl, Or.inr ⟨_, ⟨_, rfl, hcalm⟩, ?_⟩⟩
            rw [hst'.out]
            exact ⟨rfl, Hk.out.drew, Hci.out⟩
          · go_simp
            refine (valueint_err _ _ hEq _).mono ?_
            rintro e w' ⟨⟨older, rfl, hcalm⟩, rfl⟩
            refine ⟨rfl, Or.inr ⟨_, ⟨_, rfl, hcalm⟩, ?_⟩⟩
            rw [hst'.out]
            exact ⟨rfl, Hk.out.drew, Hci.out⟩
    · have hin : i = len := by omega
      subst hin
      have hst : Hid (firstFrom (row zs) i 0 = (i, 0)) := hid (by have := hff.out; simpa [firstFrom] using this)
      clear hff
      go_wp2
      go_end0
      refine Or.inl ⟨rfl, ?_⟩
      rw [hst.out]
      exact ⟨rfl, hk, hci⟩

set_option maxHeartbeats 1000000 in
theorem guardruns (a : Option Addr) (len cap : Nat) (zs : List Int) (w : World) (hlen : len ≤ 9223372036854775807) (ha : Reads w a len zs) :
    Calls Try.prog 3 #[.slice a len cap] w fun e w' => e = .returned (.bool true) ∧ Kept [] w w' := by
  have hmf : ∀ (fn : Fn) (first cap : Array Value) (w : World), (Instr.makeFunc fn first cap).run Try.prog w = .ok (.func fn first cap) w := fun _ _ _ _ => rfl
  have Ha := hid ha
  clear ha
  go_enter Try.func3, Try.ntmps3
  go_wp2_with fail
  refine (alive01 _).mono ?_
  rintro e w1 ⟨rfl, hk⟩
  have hb0 := hk.at (k := w.heap.size) (heap_alloc_at rfl) (by simp)
  have gb0 := cell_of_one hb0
  have Hk := hid (((Kept.refl [] w).alloc _).trans hk)
  have Hb0 := hid hb0
  have hlt := lt_of_block hb0
  clear hk hb0
  by_cases hl : 200 < len
  · go_wp2
    go_ret
    exact ⟨rfl, Hk.out⟩
  · have hl' : ¬ (200 : Int) < (len : Int) := by omega
    have hfirst := hid (first_any a len cap hlen zs w1 (Ha.out.kept Hk.out (fun _ _ => by simp)))
    obtain ⟨k, r, hkr, hkle⟩ : ∃ (k : Nat) (r : Int), firstFrom (row zs) len 0 = (k, r) ∧ k ≤ len := ⟨_, _, rfl, by have := (firstFrom_le (row zs) len 0).1; omega⟩
    rw [hkr] at hfirst
    have Hkr := hid hkr
    clear hkr
    go_wp2_with fail
    refine hfirst.out.mono ?_
    rintro e w2 ⟨rfl, hk2⟩
    have Hk2 := hid (Hk.out.trans hk2)
    have Hb2 := hid (hk2.at Hb0.out (by simp))
    have hne : ∀ {S : List Nat} {W : World} (x : Addr), Reads W a len zs → a = some x → True := fun _ _ _ => trivial
    clear hk2 gb0 hfirst hne
    go_wp2_with fail
    have hlt2 := lt_of_block Hb2.out
    have hc0 := hid (heap_alloc_new' w2 (.cells #[.int .i64 0] 3))
    have hr1 := Ha.out.kept (Hk2.out.alloc (.cells #[.int .i64 0] 3)) (fun _ _ => by simp)
    -- a slice that came in does not lie in a block of ours
    have hold : ∀ b, Hid (w.heap.size ≤ b → 0 < len → ∀ x, a = some x → x.block ≠ b) := fun b => hid fun hb hpos x hx he => by
      have := World.block_lt_of_cell? w _ (Ha.out.2.2 x hx 0 hpos)
      rw [add_block] at this; omega
    have hrun1 := hid (run_kept 12 enters_runs1 #[.pointer (some ⟨w.heap.size, 0, none⟩), .pointer (some ⟨w2.heap.size, 0, none⟩)] (w2.alloc (.cells #[.int .i64 0] 3)) [w2.heap.size] (by simp)
      (fun m W' => m = r ∧ W'.heap[w2.heap.size]? = some (.cells #[.int .i64 (k : Nat)] 3 (0, 0))) (fun _ _ _ h hbl => ⟨h.1, at_below hbl h.2 (by simp)⟩)
      ((runs_1 w.heap.size w2.heap.size a len cap zs _ (by omega) (by omega) (heap_alloc_old (heap_alloc_old Hb2.out)) (heap_alloc_old hc0.out) (hr1.kept ((Kept.refl [] _).alloc _) (fun _ _ => by simp)) (fun h => (hold _).out (by omega) h)).mono fun e w' hx => by
        rw [Hkr.out] at hx
        rcases hx with ⟨he, hm, hk, hc⟩ | ⟨q, he, hm, hk, hc⟩
        · exact Or.inl ⟨he, hk, hm, hc⟩
        · exact Or.inr ⟨q, he, hk, hm, hc⟩))
    refine hrun1.out.mono ?_
    rintro e w3 ⟨m, rfl, hk3, rfl, hc3⟩
    have Hc3 := hid hc3
    have Hb3 := hid (hk3.at (heap_alloc_old Hb2.out) (by simp; omega))
    have Hk3 := hid (show Kept [] w w3 from (Hk2.out.alloc _).trans' hk3 (fun x hx hm => by simp at hm; omega))
    clear hrun1 hk3 hc3 hr1
    go_wp2_with fail
    have hlt3 := lt_of_block Hb3.out
    have hlc3 := lt_of_block Hc3.out
    have hc0' := hid (heap_alloc_new' w3 (.cells #[.int .i64 0] 3))
    have hr2 := Ha.out.kept (Hk3.out.alloc (.cells #[.int .i64 0] 3)) (fun _ _ => by simp)
    have hrun2 := hid (run_kept 14 enters_runs2 #[.pointer (some ⟨w.heap.size, 0, none⟩), .pointer (some ⟨w3.heap.size, 0, none⟩)] (w3.alloc (.cells #[.int .i64 0] 3)) [w3.heap.size] (by simp)
      (fun m' W' => m' = m ∧ W'.heap[w3.heap.size]? = some (.cells #[.int .i64 (k : Nat)] 3 (0, 0))) (fun _ _ _ h hbl => ⟨h.1, at_below hbl h.2 (by simp)⟩)
      ((runs_2 w.heap.size w3.heap.size a len cap zs _ (by omega) (by omega) (heap_alloc_old (heap_alloc_old Hb3.out)) (heap_alloc_old hc0'.out) (hr2.kept ((Kept.refl [] _).alloc _) (fun _ _ => by simp)) (fun h => (hold _).out (by omega) h)).mono fun e w' hx => by
        rw [Hkr.out] at hx
        rcases hx with ⟨he, hm, hk, hc⟩ | ⟨q, he, hm, hk, hc⟩
        · exact Or.inl ⟨he, hk, hm, hc⟩
        · exact Or.inr ⟨q, he, hk, hm, hc⟩))
    refine hrun2.out.mono ?_
    rintro e w4 ⟨m2, rfl, hk4, rfl, hc4⟩
    have Hc4 := hid hc4
    have Hb4 := hid (hk4.at (heap_alloc_old Hb3.out) (by simp; omega))
    have Hd4 := hid (hk4.at (heap_alloc_old Hc3.out) (by simp; omega))
    have Hk4 := hid (show Kept [] w w4 from (Hk3.out.alloc _).trans' hk4 (fun x hx hm => by simp at hm; omega))
    have gb4 := cell_of_one (heap_alloc_old (o := .cells #[] 31) Hb4.out)
    clear hrun2 hk4 hc4 hr2
    obtain ⟨i0, hi0, hz0, hz1, hz2⟩ := info_parts info_step
    go_wp2_with fail
    have hL := hid (show Kept [] w4 (w4.alloc (.cells #[] 31)) from (Kept.refl _ _).alloc _)
    have hB5 := hid (show (w4.alloc (.cells #[] 31)).heap[w4.heap.size]? = some (.cells #[] 31 (0, 0)) from heap_alloc_at rfl)
    clear gb4
    generalize (w4.alloc (.cells #[] 31)) = w5 at *
    go_loopw [9, 31] (fun v s wr => ∃ (i : Nat) (bs : List Nat) (g cp : Nat), i ≤ len ∧ Hid (bs.length = i) ∧ v = .slice (some ⟨g, 0, none⟩) i cp ∧ s = .int .i64 i ∧ Kept [w4.heap.size] w5 wr ∧ Made wr w4.heap.size 16 #[] zs g cp bs ∧ Hid (g = w4.heap.size ∨ w5.heap.size ≤ g))
      (fun _ s _ => len - (intOf s).toNat)
    case atStart => exact ⟨0, [], w4.heap.size, 0, Nat.zero_le _, hid rfl, rfl, rfl, Kept.refl _ _, Made.start hB5.out, hid (Or.inl rfl)⟩
    case round =>
      obtain ⟨i, bs, g, cp, hi, hbs, rfl, rfl, hkr, hmade, hgB⟩ := hrel
      have lB := hid (lt_of_block hB5.out)
      have lk4 := Hk4.out.size
      by_cases hlt : i < len
      · have hra := Ha.out.kept (Hk4.out.trans (hL.out.trans' (S := []) hkr (fun x hx hm => by simp at hm; omega))) (fun _ _ => by simp)
        obtain ⟨_, na, ca⟩ := hra
        cases a with
        | none => exact absurd (na rfl) (by omega)
        | some x =>
          have gx := ca x rfl i hlt
          clear ca na
          have hkc := hid (hkr)
          have hm := hid hmade
          have hgl := hid (show g < wr.heap.size from by
            obtain ⟨_, h2⟩ := hmade.own
            rcases h2 with ⟨h2, _⟩ | ⟨g', cap', cur, hv, hg, hh, _⟩
            · simp at h2
            · simp at hv; obtain ⟨rfl, _⟩ := hv; exact lt_of_block hh)
          have how := hid (((((Kept.refl [] wr).alloc (.cells #[.int .i64 (zs[i]?.getD 0)] 3)).alloc (.cells #[clos 16 #[] wr.heap.size] 31)).owns hmade.own (by simp)))
          have hsz3 := hid hkr.size
          have hbs' := hid hbs.out
          clear hkr hmade
          go_wp2_with (at_builtin; refine halt ?_)
          refine Halt.mk ?_
          refine wpList_append_lies _ rfl _ _ _ rfl w4.heap.size 31 i0 _ 1 8 Try.underlying30 hi0 hz0 hz1 hz2 rfl (by decide) (.slice (some ⟨g, 0, none⟩) i cp) i (bs.map (clos 16 #[])) rfl (by have := how.out; rw [hbs.out] at this; exact this) ⟨wr.heap.size + 1, 0, none⟩ 1 1 [clos 16 #[] wr.heap.size] rfl rfl ?_ ?_ (by decide) ?_ ?_ ?_ (wr.heap.size + 2) ?_ ?_
          · intro j u hj
            have := cell_one_new (wr.alloc (.cells #[.int .i64 (zs[i]?.getD 0)] 3)) (clos 16 #[] wr.heap.size) 31 j u hj
            simpa [clos] using this
          · simp [Value.oneCell', clos]
          · unfold maxLen; omega
          · omega
          · have h1 := lB.out; have h2 := hsz3.out; simp; omega
          · simp
          intro g2 cp2 w6 hown6 hgrow6 hat6 hlt6
          have hmade6 := hid (hm.out.step (g2 := g2) (cp2 := cp2) (by rw [hbs.out]; exact hown6) (by rw [hbs.out]; exact hgrow6) (by have h1 := lB.out; have h2 := hsz3.out; omega) hgl.out (by simpa [Value.ownBlock] using hat6))
          have hk6 := hid (show Kept [w4.heap.size] w5 w6 from ((hkc.out.alloc _).alloc _).trans' (Kept.of_row hgrow6) (fun y hy hm => by
            simp [Value.ownBlock] at hm
            have := hgB.out
            simp; omega))
          have hg6 := hid (show g2 = w4.heap.size ∨ w5.heap.size ≤ g2 from by
            have h1 := hgB.out
            have h2 := hsz3.out
            simp [Value.ownBlock] at hat6
            omega)
          have hbs6 := hid (show (bs ++ [wr.heap.size]).length = i + 1 from by simp [hbs.out])
          clear hown6 hgrow6 hat6 hlt6
          go_wp2
          go_roundw
          case rel => exact ⟨i + 1, _, g2, cp2, by omega, hbs6, rfl, by go_num, hk6.out, hmade6.out, hg6⟩
          case measure => simp [intOf]; omega
      · have hin : i = len := by omega
        subst hin
        have hkk := hid hkr
        have hall := hid (all_made i (by omega) w4.heap.size 16 enters_runs3 #[] zs g cp bs hbs.out wr hmade [] (by simp) (by simp) (fun _ _ => True) (fun _ _ _ _ _ => trivial) trivial
          (fun j b W hj hb _ _ _ => (runs_3 b (zs[j]?.getD 0) W hb).mono fun e w' h => ⟨h.1, h.2 ▸ Kept.refl _ _, trivial⟩))
        have hkr2 : firstFrom (fun i => zs[i]?.getD 0) i 0 = (k, m2) := Hkr.out
        rw [hkr2] at hall
        have hk46 := hid (hL.out.trans' (S := []) hkr (fun y hy hm => by simp at hm; omega))
        clear hkr hmade hkr2
        go_wp2_with fail
        refine hall.out.mono ?_
        rintro e w6 ⟨rfl, hk6, -⟩
        have hk7 := hid (hk46.out.trans hk6)
        have g3 := cell_of_one (hk7.out.at Hd4.out (by simp))
        have g4 := cell_of_one (hk7.out.at Hc4.out (by simp))
        have hfin := hid (Hk4.out.trans hk7.out)
        clear hk6 hall
        go_wp2
        go_ret
        exact ⟨by simp, hfin.out⟩
end Go.Proofs.Ytohmmkceffmipaa
