/- coldstoreref05: Part, Right. -/
import Derived.Test.YtignphegdigalaaT0
namespace Go.Proofs.Ytignphegdigalaa
open Go.RowKit

set_option maxRecDepth 100000 in
set_option maxHeartbeats 2000000 in
theorem rpart_any (s : List UInt8) (hs : s.length ≤ 1000000000) (w : World) :
    Calls Try.prog 53 #[.string (S s)] w fun e w' => e = .returned (.bool (okPart s)) ∧ w = w' := by
  have ss := S_size s
  have hb1 : ((S s).toList == [46]) = decide (s = [46]) := by rw [S_toList]; by_cases h : s = [46] <;> simp [h]
  have hb2 : ((S s).toList == [46, 46]) = decide (s = [46, 46]) := by rw [S_toList]; by_cases h : s = [46, 46] <;> simp [h]
  by_cases hok : 1 ≤ s.length ∧ s.length ≤ 40 ∧ s ≠ [46] ∧ s ≠ [46, 46]
  · obtain ⟨h1, h2, h3, h4⟩ := hok
    have hr := hid (okPart_of s h1 h2 h3 h4)
    rw [decide_eq_false h3] at hb1
    rw [decide_eq_false h4] at hb2
    clear h3 h4
    go_enter Try.func53, Try.ntmps53
    go_wp2_with fail
    go_loopw [3] (fun v wr => ∃ i : Nat, i ≤ s.length ∧ v = .int .i64 i ∧ Hid (∀ j, j < i → okByte (s.getD j 0) = true) ∧ w = wr) (fun v _ => s.length - (intOf v).toNat)
    case atStart => exact ⟨0, Nat.zero_le _, rfl, hid (fun j hj => absurd hj (by omega)), rfl⟩
    case round =>
      obtain ⟨i, hi, rfl, hall, rfl⟩ := hrel
      by_cases hlt : i < s.length
      · have hx1 := fun W => str_index s i hlt W
        obtain ⟨p, hpe⟩ : ∃ p, p = s.getD i 0 := ⟨_, rfl⟩
        rw [← hpe] at hx1
        rcases okByte_ranges p with ⟨hb, hrg⟩ | ⟨hb, hrg⟩
        · have hall' := hid (show ∀ j, j < i + 1 → okByte (s.getD j 0) = true from fun j hj => by
            rcases Nat.lt_or_ge j i with h | h
            · exact hall.out j h
            · rw [show j = i by omega, ← hpe]; exact hb)
          clear hall hb hpe
          generalize p.toNat = n at *
          rcases hrg with hrg | hrg | hrg | hrg | hrg
          · obtain ⟨r1, r2⟩ := hrg
            go_wp2_with fail
            exact ⟨⟨i + 1, by omega, by go_num, hall', by first | rfl | trivial⟩, by simp [intOf]; omega⟩
          · obtain ⟨r1, r2⟩ := hrg
            have r3 : ¬ 97 ≤ n := by omega
            go_wp2_with fail
            exact ⟨⟨i + 1, by omega, by go_num, hall', by first | rfl | trivial⟩, by simp [intOf]; omega⟩
          · subst hrg
            go_wp2_with fail
            exact ⟨⟨i + 1, by omega, by go_num, hall', by first | rfl | trivial⟩, by simp [intOf]; omega⟩
          · subst hrg
            go_wp2_with fail
            exact ⟨⟨i + 1, by omega, by go_num, hall', by first | rfl | trivial⟩, by simp [intOf]; omega⟩
          · subst hrg
            go_wp2_with fail
            exact ⟨⟨i + 1, by omega, by go_num, hall', by first | rfl | trivial⟩, by simp [intOf]; omega⟩
        · have hf := hid (show s.all okByte = false by
            rw [List.all_eq_false]
            exact ⟨s.getD i 0, by simp [List.getD, hlt], by rw [← hpe, hb]; simp⟩)
          clear hall hb hpe
          generalize p.toNat = n at *
          rcases hrg with hrg | hrg | hrg
          · have e1 : ((n : Int) == 46) = false := by simp; omega
            have e2 : ((n : Int) == 95) = false := by simp; omega
            have e3 : ((n : Int) == 45) = false := by simp; omega
            go_wp2
            all_goals first
              | (go_ret; exact ⟨by rw [hr.out, hf.out]; rfl, rfl⟩)
              | (exfalso; rename_i hX; simp only [Bool.not_eq_false', decide_eq_true_eq] at hX; omega)
          · obtain ⟨r1, r2, r3⟩ := hrg
            have e1 : ((n : Int) == 46) = false := by simp; omega
            have e2 : ((n : Int) == 95) = false := by simp; omega
            have e3 : ((n : Int) == 45) = false := by simp; omega
            clear r3
            go_wp2
            all_goals first
              | (go_ret; exact ⟨by rw [hr.out, hf.out]; rfl, rfl⟩)
              | (exfalso; rename_i hX; simp only [Bool.not_eq_false', decide_eq_true_eq] at hX; omega)
          · obtain ⟨r1, r2, r3⟩ := hrg
            have e1 : ((n : Int) == 46) = false := by simp; omega
            have e2 : ((n : Int) == 95) = false := by simp; omega
            have e3 : ((n : Int) == 45) = false := by simp; omega
            clear r2 r3
            go_wp2
            all_goals first
              | (go_ret; exact ⟨by rw [hr.out, hf.out]; rfl, rfl⟩)
              | (exfalso; rename_i hX; simp only [Bool.not_eq_false', decide_eq_true_eq] at hX; omega)
      · obtain rfl : s.length = i := by omega
        have hf := hid (show s.all okByte = true by
          rw [List.all_eq_true]
          intro c hc
          obtain ⟨j, hj, rfl⟩ := List.getElem_of_mem hc
          have := hall.out j hj
          simpa [List.getD, hj] using this)
        clear hall
        go_wp2
        go_ret
        exact ⟨by rw [hr.out, hf.out]; rfl, rfl⟩
  · have hr := hid (okPart_no s (by
      rcases Nat.lt_or_ge s.length 1 with h | h
      · exact Or.inl h
      · rcases Nat.lt_or_ge 40 s.length with h' | h'
        · exact Or.inr (Or.inl h')
        · by_cases h3 : s = [46]
          · exact Or.inr (Or.inr (Or.inl h3))
          · by_cases h4 : s = [46, 46]
            · exact Or.inr (Or.inr (Or.inr h4))
            · exact absurd ⟨h, h', h3, h4⟩ hok))
    by_cases c1 : s.length < 1
    · clear hok
      go_enter Try.func53, Try.ntmps53
      go_wp2
      go_ret
      exact ⟨by rw [hr.out]; rfl, rfl⟩
    · by_cases c2 : 40 < s.length
      · clear hok
        go_enter Try.func53, Try.ntmps53
        go_wp2
        go_ret
        exact ⟨by rw [hr.out]; rfl, rfl⟩
      · by_cases c3 : s = [46]
        · rw [decide_eq_true c3] at hb1
          clear hok c3
          go_enter Try.func53, Try.ntmps53
          go_wp2
          go_ret
          exact ⟨by rw [hr.out]; rfl, rfl⟩
        · by_cases c4 : s = [46, 46]
          · rw [decide_eq_false c3] at hb1
            rw [decide_eq_true c4] at hb2
            clear hok c3 c4
            go_enter Try.func53, Try.ntmps53
            go_wp2
            go_ret
            exact ⟨by rw [hr.out]; rfl, rfl⟩
          · exact absurd ⟨by omega, by omega, c3, c4⟩ hok

set_option maxRecDepth 100000 in
set_option maxHeartbeats 2000000 in
theorem rright_any (a : List UInt8) (ha : a.length ≤ 100000000) (w : World) :
    Calls Try.prog 21 #[.string (S a)] w fun e w' => e = .returned (.bool (okPath a)) ∧ Kept [] w w' := by
  have sa := S_size a
  have hp := hid (rparts_any a ha w)
  have hlen := hid (fun x hx => partsS_len a x hx)
  go_enter Try.func21, Try.ntmps21
  go_wp2_with fail
  refine hp.out.mono ?_
  rintro e w1 ⟨v, rfl, hown, hk⟩
  obtain ⟨av, cv, rfl, hc1, hc2, htr, -⟩ := tr_of_own hown
  unfold maxLen at hc2
  have Htr := hid htr; have Hk := hid hk
  have hcount := partsS_count a
  have hif := hid (show okPath a = (decide (a.length ≤ 120) && (partsS a).all okPart) from rfl)
  obtain ⟨L, hL⟩ : ∃ L, L = partsS a := ⟨_, rfl⟩
  rw [← hL] at Htr hlen hcount hif hc1 ⊢
  obtain ⟨n, hn⟩ : ∃ n, n = L.length := ⟨_, rfl⟩
  have hget := hid (fun j (hj : j < n) => (⟨L[j]'(hn ▸ hj), List.getElem?_eq_getElem _⟩ : ∃ x, L[j]? = some x))
  have Hn := hid hn
  rw [← hn] at hcount hc1 ⊢
  clear hL hn hown htr hk hp
  go_wp2_with fail
  go_loopw [4] (fun v wr => ∃ i : Nat, i ≤ n ∧ v = .int .i64 i ∧ Hid (∀ j x, j < i → L[j]? = some x → okPart x = true) ∧ w1 = wr) (fun v _ => n - (intOf v).toNat)
  case atStart => exact ⟨0, Nat.zero_le _, rfl, hid (fun j x hj => absurd hj (by omega)), rfl⟩
  case round =>
    obtain ⟨i, hi, rfl, hall, rfl⟩ := hrel
    by_cases hlt : i < n
    · obtain ⟨s, hs⟩ := hget.out i hlt
      obtain ⟨g, rfl, hcell⟩ := Htr.out i s hs
      have hpt := hid (rpart_any s (by have := hlen.out s (List.mem_of_getElem? hs); omega) w1)
      by_cases ho : okPart s = true
      · have hall' := hid (show ∀ j x, j < i + 1 → L[j]? = some x → okPart x = true from fun j x hj hx => by
          rcases Nat.lt_or_ge j i with h | h
          · exact hall.out j x h hx
          · rw [show j = i by omega, hs] at hx; cases hx; exact ho)
        rw [ho] at hpt
        clear ho hs hall
        go_wp2_with fail
        refine hpt.out.mono ?_
        rintro e w' ⟨rfl, rfl⟩
        go_wp2_with fail
        exact ⟨⟨i + 1, by omega, by go_num, hall', by first | rfl | trivial⟩, by simp [intOf]; omega⟩
      · have hf := hid (show okPath a = false by
          rw [hif.out, show L.all okPart = false from List.all_eq_false.2 ⟨s, List.mem_of_getElem? hs, ho⟩]; simp)
        rw [show okPart s = false by simpa using ho] at hpt
        clear ho hs hall
        go_wp2_with fail
        refine hpt.out.mono ?_
        rintro e w' ⟨rfl, rfl⟩
        go_wp2
        go_ret
        exact ⟨by rw [hf.out]; rfl, Hk.out⟩
    · obtain rfl : i = n := by omega
      have hf := hid (show okPath a = decide ((a.length : Int) ≤ 120) by
        rw [hif.out, show L.all okPart = true from List.all_eq_true.2 (fun x hx => by
          obtain ⟨j, hj, rfl⟩ := List.getElem_of_mem hx
          exact hall.out j _ (by rw [Hn.out]; exact hj) (List.getElem?_eq_getElem hj)), Bool.and_true]
        apply decide_eq_decide.2; omega)
      clear hall
      go_wp2
      go_ret
      exact ⟨by rw [hf.out]; rfl, Hk.out⟩
end Go.Proofs.Ytignphegdigalaa
