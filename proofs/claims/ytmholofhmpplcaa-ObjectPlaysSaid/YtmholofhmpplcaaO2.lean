import Derived.Test.YtmholofhmpplcaaO0
import Derived.Test.YtmholofhmpplcaaO1
import Derived.Test.YtmholofhmpplcaaP0
import Derived.Test.YtmholofhmpplcaaMC

/- object: its small functions; a store in memory. -/
namespace Go.Proofs.Ytmholofhmpplcaa
open Go.RowKit Go.Lib Go.Maps

theorem when_any (b : Bool) (n : Int) (w : World) : Calls Try.prog 36 #[.bool b, .int .i64 n] w fun e w' => e = .returned (.int .i64 (if b then n else 0)) ∧ w = w' := by
  cases b
  · go_enter Try.func36, Try.ntmps36
    go_wp2
    go_ret
    exact ⟨rfl, rfl⟩
  · go_enter Try.func36, Try.ntmps36
    go_wp2
    go_ret
    exact ⟨rfl, rfl⟩
theorem step_forever (b : Nat) (w : World) (hb : w.heap[b]? = some (.cells #[.int .i64 (-1)] 60 (0, 0))) :
    Calls Try.prog 50 #[.pointer (some ⟨b, 0, none⟩)] w fun e w' => e = .returned (.tuple #[]) ∧ w = w' := by
  have hc := cell_of_one hb
  clear hb
  go_enter Try.func50, Try.ntmps50
  go_wp2
  go_end0
  exact ⟨rfl, rfl⟩
theorem newfuse_all (n : Int) (w : World) :
    Calls Try.prog 7 #[.int .i64 n] w fun e w' => e = .returned (.pointer (some ⟨w.heap.size, 0, none⟩)) ∧ w.alloc (.cells #[.int .i64 (max n (-1))] 60) = w' := by
  by_cases h : -1 ≤ n
  · rw [show max n (-1) = n by omega]
    by_cases h2 : -1 < n
    · go_enter Try.func7, Try.ntmps7
      go_wp2
      go_ret
      exact ⟨rfl, rfl⟩
    · obtain rfl : n = -1 := by omega
      go_enter Try.func7, Try.ntmps7
      go_wp2
      go_ret
      exact ⟨rfl, rfl⟩
  · rw [show max n (-1) = -1 by omega]
    have h2 : n < -1 := by omega
    go_enter Try.func7, Try.ntmps7
    go_wp2
    go_ret
    exact ⟨rfl, rfl⟩

/-- A byte that a name may have; a text that is a name. -/
def okN (c : UInt8) : Bool := decide (33 ≤ c.toNat ∧ c.toNat ≤ 126)
def okName (s : List UInt8) : Bool := decide (1 ≤ s.length ∧ s.length ≤ 80) && s.all okN
set_option maxHeartbeats 1000000 in
theorem isname_any (s : List UInt8) (hs : s.length ≤ 1000000000) (w : World) :
    Calls Try.prog 37 #[.string (S s)] w fun e w' => e = .returned (.bool (okName s)) ∧ w = w' := by
  have ss := S_size s
  by_cases h1 : 1 ≤ s.length
  · by_cases h2 : s.length ≤ 80
    · have hr := hid (show okName s = s.all okN by unfold okName; rw [decide_eq_true (And.intro h1 h2)]; rfl)
      go_enter Try.func37, Try.ntmps37
      go_wp2_with fail
      go_loopw [14] (fun v wr => ∃ i : Nat, i ≤ s.length ∧ v = .int .i64 i ∧ Hid (∀ j, j < i → okN (s.getD j 0) = true) ∧ w = wr) (fun v _ => s.length - (intOf v).toNat)
      case atStart => exact ⟨0, Nat.zero_le _, rfl, hid (fun j hj => absurd hj (by omega)), rfl⟩
      case round =>
        obtain ⟨i, hi, rfl, hall, rfl⟩ := hrel
        by_cases hlt : i < s.length
        · have hx1 := fun W => str_index s i hlt W
          have hpb := (s.getD i 0).toNat_lt
          obtain ⟨p, hpe⟩ : ∃ p : Nat, p = (s.getD i 0).toNat := ⟨_, rfl⟩
          rw [← hpe] at hx1 hpb
          by_cases hb : okN (s.getD i 0) = true
          · have hall' := hid (show ∀ j, j < i + 1 → okN (s.getD j 0) = true from fun j hj => by
              rcases Nat.lt_or_ge j i with h | h
              · exact hall.out j h
              · rw [show j = i by omega]; exact hb)
            have hb2 : 33 ≤ p ∧ p ≤ 126 := by unfold okN at hb; rw [← hpe] at hb; exact of_decide_eq_true hb
            obtain ⟨b1, b2⟩ := hb2
            clear hpe hall hb
            go_wp2
            go_roundw
            case rel => exact ⟨i + 1, by omega, by go_num, hall', by first | rfl | trivial⟩
            case measure => simp [intOf]; omega
          · have hf := hid (show s.all okN = false by
              rw [List.all_eq_false]
              exact ⟨s.getD i 0, by simp [List.getD, hlt], hb⟩)
            have hb2 : p < 33 ∨ 126 < p := by
              unfold okN at hb; rw [← hpe] at hb
              simp at hb; omega
            clear hpe hall hb
            rcases hb2 with b1 | b1
            · go_wp2
              go_ret
              exact ⟨by rw [hr.out, hf.out]; rfl, rfl⟩
            · have b2 : 33 ≤ p := by omega
              go_wp2
              go_ret
              exact ⟨by rw [hr.out, hf.out]; rfl, rfl⟩
        · obtain rfl : s.length = i := by omega
          have hf := hid (show s.all okN = true by
            rw [List.all_eq_true]
            intro c hc
            obtain ⟨j, hj, rfl⟩ := List.getElem_of_mem hc
            have := hall.out j hj
            simpa [List.getD, hj] using this)
          clear hall
          go_wp2
          go_ret
          exact ⟨by rw [hr.out, hf.out]; rfl, rfl⟩
    · have hr := hid (show okName s = false by unfold okName; rw [decide_eq_false (by omega)]; rfl)
      have h3 : 80 < s.length := by omega
      clear h2
      go_enter Try.func37, Try.ntmps37
      go_wp2
      go_ret
      exact ⟨by rw [hr.out]; rfl, rfl⟩
  · have hr := hid (show okName s = false by unfold okName; rw [decide_eq_false (by omega)]; rfl)
    have h3 : s.length < 1 := by omega
    clear h1
    go_enter Try.func37, Try.ntmps37
    go_wp2
    go_ret
    exact ⟨by rw [hr.out]; rfl, rfl⟩
end Go.Proofs.Ytmholofhmpplcaa
