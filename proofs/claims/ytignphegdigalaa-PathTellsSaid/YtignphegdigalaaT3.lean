/- coldstoreref05.Less; coldstoreref01.SameStrings. -/
import Derived.Test.YtignphegdigalaaT2
namespace Go.Proofs.Ytignphegdigalaa
open Go.RowKit

theorem lexP_end {x y : List (List UInt8)} {i : Nat} (h : ∀ j, j < i → x[j]? = y[j]?) (h1 : i ≤ x.length) (h2 : i ≤ y.length) (he : i = x.length ∨ i = y.length) : lexP x y = decide (x.length < y.length) := by
  rw [lexP_drop x y i h1 h2 h]
  rcases he with he | he
  · rw [he, List.drop_length]
    rcases hd : y.drop x.length with _ | ⟨t, r⟩
    · have : y.length - x.length = 0 := by rw [← List.length_drop, hd]; rfl
      rw [show lexP [] [] = false from rfl, decide_eq_false (by omega)]
    · have : y.length - x.length = r.length + 1 := by rw [← List.length_drop, hd]; rfl
      rw [show lexP [] (t :: r) = true from rfl, decide_eq_true (by omega)]
  · rw [he, List.drop_length, decide_eq_false (by omega)]
    unfold lexP; rfl
theorem lexP_at {x y : List (List UInt8)} {i : Nat} {s t : List UInt8} (h : ∀ j, j < i → x[j]? = y[j]?) (hx : x[i]? = some s) (hy : y[i]? = some t) (hne : s ≠ t) : lexP x y = decide (s < t) := by
  obtain ⟨h1, e1⟩ := List.getElem?_eq_some_iff.1 hx
  obtain ⟨h2, e2⟩ := List.getElem?_eq_some_iff.1 hy
  rw [lexP_drop x y i (by omega) (by omega) h, List.drop_eq_getElem_cons h1, List.drop_eq_getElem_cons h2, e1, e2, lexP_cons, if_neg hne]
theorem less_lex : ∀ (x y : List UInt8), Op.bytesLess x y = decide (x < y)
  | [], [] => by simp [Op.bytesLess]
  | [], _ :: _ => by simp [Op.bytesLess]
  | _ :: _, [] => by simp [Op.bytesLess]
  | s :: x, t :: y => by
    have ih := less_lex x y
    unfold Op.bytesLess
    rw [ih, Bool.eq_iff_iff]
    simp [List.cons_lt_cons_iff]
theorem S_less (x y : List UInt8) : Op.bytesLess (S x).toList (S y).toList = decide (x < y) := by
  rw [S_toList, S_toList, less_lex]

set_option maxRecDepth 100000 in
set_option maxHeartbeats 2000000 in
theorem rless_any (a b : List UInt8) (ha : a.length ≤ 100000000) (hb : b.length ≤ 100000000) (w : World) :
    Calls Try.prog 26 #[.string (S a), .string (S b)] w fun e w' => e = .returned (.bool (pless a b)) ∧ Kept [] w w' := by
  have hp := hid (rparts_any a ha w)
  have hq := hid (fun w => rparts_any b hb w)
  have hpl := hid (pless_lex a b)
  obtain ⟨r, hr⟩ : ∃ r, r = pless a b := ⟨_, rfl⟩
  rw [← hr] at hpl ⊢
  clear hr
  go_enter Try.func26, Try.ntmps26
  go_wp2_with fail
  refine hp.out.mono ?_
  rintro e w1 ⟨v, rfl, hown, hk⟩
  obtain ⟨av, cv, rfl, hc1, hc2, htr, -⟩ := tr_of_own hown
  have Hk := hid hk
  clear hown hk hp
  go_wp2_with fail
  refine (hq.out w1).mono ?_
  rintro e w2 ⟨v, rfl, hown, hk⟩
  obtain ⟨bv, dv, rfl, hd1, hd2, htr2, -⟩ := tr_of_own hown
  have Hx := hid (htr.kept hk)
  have Hy := hid htr2
  have K2 := hid (Hk.out.trans hk)
  unfold maxLen at hc2 hd2
  have n1 := partsS_count a; have n2 := partsS_count b
  obtain ⟨X, hX⟩ : ∃ X, X = partsS a := ⟨_, rfl⟩
  obtain ⟨Y, hY⟩ : ∃ Y, Y = partsS b := ⟨_, rfl⟩
  rw [← hX] at Hx hpl n1 hc1 ⊢
  rw [← hY] at Hy hpl n2 hd1 ⊢
  obtain ⟨nx, hnx⟩ : ∃ n, n = X.length := ⟨_, rfl⟩
  obtain ⟨ny, hny⟩ : ∃ n, n = Y.length := ⟨_, rfl⟩
  have hgx := hid (fun j (hj : j < nx) => (⟨X[j]'(hnx ▸ hj), List.getElem?_eq_getElem _⟩ : ∃ x, X[j]? = some x))
  have hgy := hid (fun j (hj : j < ny) => (⟨Y[j]'(hny ▸ hj), List.getElem?_eq_getElem _⟩ : ∃ x, Y[j]? = some x))
  have Hnx := hid hnx; have Hny := hid hny
  rw [← hnx] at n1 hc1 ⊢
  rw [← hny] at n2 hd1 ⊢
  clear hown hk htr htr2 hX hY hnx hny hq Hk
  go_wp2_with fail
  go_loopw [7] (fun v wr => ∃ i : Nat, i ≤ nx ∧ i ≤ ny ∧ v = .int .i64 i ∧ Hid (∀ j, j < i → X[j]? = Y[j]?) ∧ Hid (Kept [] w2 wr)) (fun v _ => nx - (intOf v).toNat)
  case atStart => exact ⟨0, Nat.zero_le _, Nat.zero_le _, rfl, hid (fun j hj => absurd hj (by omega)), hid (Kept.refl _ _)⟩
  case round =>
    obtain ⟨i, hi, hi2, rfl, heq, hkr⟩ := hrel
    by_cases h1 : i < nx
    · by_cases h2 : i < ny
      · obtain ⟨s, hs⟩ := hgx.out i h1
        obtain ⟨t, ht⟩ := hgy.out i h2
        obtain ⟨g, rfl, hcell⟩ := (Hx.out.kept hkr.out) i s hs
        obtain ⟨g2, rfl, hcell2⟩ := (Hy.out.kept hkr.out) i t ht
        have hbe := S_beq s t
        have hbl := S_less s t
        by_cases hst : s = t
        · have heq' := hid (show ∀ j, j < i + 1 → X[j]? = Y[j]? from fun j hj => by
            rcases Nat.lt_or_ge j i with h | h
            · exact heq.out j h
            · rw [show j = i by omega, hs, ht, hst])
          rw [decide_eq_true hst] at hbe
          clear hbl hst hs ht heq
          have hkd := hid (fun n => hkr.out.drewN n)
          go_wp2_with fail
          go_quiet (fail)
          have hk2 := hid (hkd.out nq)
          generalize wr.drewN nq = W3 at *
          go_wp2_with fail
          exact ⟨⟨i + 1, by omega, by omega, by go_num, heq', hk2⟩, by simp [intOf]; omega⟩
        · have hf := hid (hpl.out.trans (lexP_at heq.out hs ht hst))
          rw [decide_eq_false hst] at hbe
          rw [← hf.out] at hbl
          have hkd := hid (fun n => hkr.out.drewN n)
          clear hst heq
          go_wp2_with fail
          go_quiet (fail)
          have hk2 := hid (hkd.out nq)
          have hc3 := ((Hx.out.kept hk2.out) i s hs)
          have hc4 := ((Hy.out.kept hk2.out) i t ht)
          obtain ⟨g', hg', hcell⟩ := hc3
          obtain ⟨g2', hg2', hcell2⟩ := hc4
          cases hg'; cases hg2'
          have hkd := hid (fun n => hk2.out.drewN n)
          generalize wr.drewN nq = W3 at *
          clear hs ht
          go_wp2_with fail
          go_quiet (fail)
          have hk3 := hid (hkd.out nq)
          generalize W3.drewN nq = W4 at *
          go_wp2
          go_ret
          exact ⟨rfl, K2.out.trans hk3.out⟩
      · have hf := hid (hpl.out.trans (lexP_end heq.out (by have := Hnx.out; omega) (by have := Hny.out; omega) (.inr (by have := Hny.out; omega))))
        have hlt := hid (show r = decide (nx < ny) by rw [hf.out]; congr 1; rw [Hnx.out, Hny.out])
        have Hkr := hid (K2.out.trans hkr.out)
        clear hf heq
        go_wp2
        go_ret
        exact ⟨by rw [hlt.out]; simp, Hkr.out⟩
    · have hf := hid (hpl.out.trans (lexP_end heq.out (by have := Hnx.out; omega) (by have := Hny.out; omega) (.inl (by have := Hnx.out; omega))))
      have hlt := hid (show r = decide (nx < ny) by rw [hf.out]; congr 1; rw [Hnx.out, Hny.out])
      have Hkr := hid (K2.out.trans hkr.out)
      clear hf heq
      go_wp2
      go_ret
      exact ⟨by rw [hlt.out]; simp, Hkr.out⟩

set_option maxRecDepth 100000 in
set_option maxHeartbeats 2000000 in
theorem samestr_any (av bv : Option Addr) (c d : Nat) (L : List (List UInt8)) (w : World) (h : TR w av L) (h2 : TR w bv L) (hn : L.length ≤ 1000000) :
    Calls Try.prog 29 #[.slice av L.length c, .slice bv L.length d] w fun e w' => e = .returned (.bool true) ∧ Kept [] w w' := by
  obtain ⟨n, hn'⟩ : ∃ n, n = L.length := ⟨_, rfl⟩
  have hget := hid (fun j (hj : j < n) => (⟨L[j]'(hn' ▸ hj), List.getElem?_eq_getElem _⟩ : ∃ x, L[j]? = some x))
  have Hx := hid h; have Hy := hid h2
  rw [← hn'] at hn ⊢
  clear hn' h h2
  go_enter Try.func29, Try.ntmps29
  go_wp2_with fail
  go_loopw [5] (fun v wr => ∃ i : Nat, i ≤ n ∧ v = .int .i64 i ∧ Hid (Kept [] w wr)) (fun v _ => n - (intOf v).toNat)
  case atStart => exact ⟨0, Nat.zero_le _, rfl, hid (Kept.refl _ _)⟩
  case round =>
    obtain ⟨i, hi, rfl, hkr⟩ := hrel
    by_cases h1 : i < n
    · obtain ⟨s, hs⟩ := hget.out i h1
      obtain ⟨g, rfl, hcell⟩ := (Hx.out.kept hkr.out) i s hs
      obtain ⟨g2, rfl, hcell2⟩ := (Hy.out.kept hkr.out) i s hs
      have hbe := S_beq s s
      rw [decide_eq_true rfl] at hbe
      clear hs
      have hkd := hid (fun n => hkr.out.drewN n)
      go_wp2_with fail
      go_quiet (fail)
      have hk2 := hid (hkd.out nq)
      generalize wr.drewN nq = W3 at *
      go_wp2_with fail
      exact ⟨⟨i + 1, by omega, by go_num, hk2⟩, by simp [intOf]; omega⟩
    · obtain rfl : i = n := by omega
      go_wp2
      go_ret
      exact ⟨rfl, hkr.out⟩
end Go.Proofs.Ytignphegdigalaa
