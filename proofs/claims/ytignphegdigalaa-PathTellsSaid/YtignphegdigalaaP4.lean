/- path.isPart. -/
import Derived.Test.YtignphegdigalaaP3
namespace Go.Proofs.Ytignphegdigalaa
open Go.RowKit

/-- A text that is a part. -/
def okPart (s : List UInt8) : Bool := decide (1 ≤ s.length ∧ s.length ≤ 40) && decide (s ≠ [46]) && decide (s ≠ [46, 46]) && s.all okByte
theorem okPart_of (s : List UInt8) (h1 : 1 ≤ s.length) (h2 : s.length ≤ 40) (h3 : s ≠ [46]) (h4 : s ≠ [46, 46]) : okPart s = s.all okByte := by
  unfold okPart
  rw [decide_eq_true (And.intro h1 h2), decide_eq_true h3, decide_eq_true h4]; simp
theorem okPart_no (s : List UInt8) (h : s.length < 1 ∨ 40 < s.length ∨ s = [46] ∨ s = [46, 46]) : okPart s = false := by
  unfold okPart
  rcases h with h | h | h | h
  · rw [decide_eq_false (p := 1 ≤ s.length ∧ s.length ≤ 40) (by omega)]; simp
  · rw [decide_eq_false (p := 1 ≤ s.length ∧ s.length ≤ 40) (by omega)]; simp
  · simp [h]
  · simp [h]

set_option maxHeartbeats 1000000 in
theorem ispart_any (s : List UInt8) (hs : s.length ≤ 1000000000) (w : World) :
    Calls Try.prog 55 #[.string (S s)] w fun e w' => e = .returned (.bool (okPart s)) ∧ w = w' := by
  have ss := S_size s
  have hb1 : ((S s).toList == [46]) = decide (s = [46]) := by rw [S_toList]; by_cases h : s = [46] <;> simp [h]
  have hb2 : ((S s).toList == [46, 46]) = decide (s = [46, 46]) := by rw [S_toList]; by_cases h : s = [46, 46] <;> simp [h]
  by_cases hok : 1 ≤ s.length ∧ s.length ≤ 40 ∧ s ≠ [46] ∧ s ≠ [46, 46]
  · obtain ⟨h1, h2, h3, h4⟩ := hok
    have hr := hid (okPart_of s h1 h2 h3 h4)
    rw [decide_eq_false h3] at hb1
    rw [decide_eq_false h4] at hb2
    clear h3 h4
    go_enter Try.func55, Try.ntmps55
    go_wp2_with fail
    go_loopw [22] (fun v wr => ∃ i : Nat, i ≤ s.length ∧ v = .int .i64 i ∧ Hid (∀ j, j < i → okByte (s.getD j 0) = true) ∧ w = wr) (fun v _ => s.length - (intOf v).toNat)
    case atStart => exact ⟨0, Nat.zero_le _, rfl, hid (fun j hj => absurd hj (by omega)), rfl⟩
    case round =>
      obtain ⟨i, hi, rfl, hall, rfl⟩ := hrel
      by_cases hlt : i < s.length
      · have hx1 := fun W => str_index s i hlt W
        have hp := hid (partbyte_any (s.getD i 0) w)
        obtain ⟨p, hpe⟩ : ∃ p, p = s.getD i 0 := ⟨_, rfl⟩
        rw [← hpe] at hx1 hp
        by_cases hb : okByte p = true
        · have hall' := hid (show ∀ j, j < i + 1 → okByte (s.getD j 0) = true from fun j hj => by
            rcases Nat.lt_or_ge j i with h | h
            · exact hall.out j h
            · rw [show j = i by omega, ← hpe]; exact hb)
          rw [hb] at hp
          clear hpe hall hb
          go_wp2_with fail
          refine hp.out.mono ?_
          rintro e w' ⟨rfl, rfl⟩
          go_wp2_with fail
          exact ⟨⟨i + 1, by omega, by go_num, hall', by first | rfl | trivial⟩, by simp [intOf]; omega⟩
        · have hf := hid (show s.all okByte = false by
            rw [List.all_eq_false]
            exact ⟨s.getD i 0, by simp [List.getD, hlt], by rw [← hpe]; exact hb⟩)
          have hb' : okByte p = false := by simpa using hb
          rw [hb'] at hp
          clear hpe hall hb hb'
          go_wp2_with fail
          refine hp.out.mono ?_
          rintro e w' ⟨rfl, rfl⟩
          go_wp2
          go_ret
          exact ⟨by rw [hr.out, hf.out]; rfl, rfl⟩
      · obtain rfl : s.length = i := by omega
        have hf := hid (show s.all okByte = true by
          rw [List.all_eq_true]
          intro c hc
          obtain ⟨j, hj, rfl⟩ := List.getElem_of_mem hc
          have := hall.out j hj
          simpa [List.getD, hj] using this)
        clear hall
        go_wp2
        go_ret
        exact ⟨by rw [hr.out, hf.out]; rfl, rfl⟩
  · have hr := hid (okPart_no s (by
      rcases Nat.lt_or_ge s.length 1 with h | h
      · exact Or.inl h
      · rcases Nat.lt_or_ge 40 s.length with h' | h'
        · exact Or.inr (Or.inl h')
        · by_cases h3 : s = [46]
          · exact Or.inr (Or.inr (Or.inl h3))
          · by_cases h4 : s = [46, 46]
            · exact Or.inr (Or.inr (Or.inr h4))
            · exact absurd ⟨h, h', h3, h4⟩ hok))
    by_cases c1 : s.length < 1
    · clear hok
      go_enter Try.func55, Try.ntmps55
      go_wp2
      go_ret
      exact ⟨by rw [hr.out]; rfl, rfl⟩
    · by_cases c2 : 40 < s.length
      · clear hok
        go_enter Try.func55, Try.ntmps55
        go_wp2
        go_ret
        exact ⟨by rw [hr.out]; rfl, rfl⟩
      · by_cases c3 : s = [46]
        · rw [decide_eq_true c3] at hb1
          clear hok c3
          go_enter Try.func55, Try.ntmps55
          go_wp2
          go_ret
          exact ⟨by rw [hr.out]; rfl, rfl⟩
        · by_cases c4 : s = [46, 46]
          · rw [decide_eq_false c3] at hb1
            rw [decide_eq_true c4] at hb2
            clear hok c3 c4
            go_enter Try.func55, Try.ntmps55
            go_wp2
            go_ret
            exact ⟨by rw [hr.out]; rfl, rfl⟩
          · exact absurd ⟨by omega, by omega, c3, c4⟩ hok
end Go.Proofs.Ytignphegdigalaa
