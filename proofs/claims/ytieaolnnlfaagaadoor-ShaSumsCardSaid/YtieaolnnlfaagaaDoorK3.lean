/- coldstoreref03: Less, Text. -/
import Derived.Test.YtieaolnnlfaagaaDoorK2
namespace Go.Proofs.YtieaolnnlfaagaaDoor
open Go.RowKit Go.Lib

theorem lessL_split : ∀ (a b : List UInt8) (i : Nat), (∀ j, j < i → a[j]? = b[j]?) → lessL a b = lessL (a.drop i) (b.drop i)
  | _, _, 0, _ => rfl
  | [], [], _ + 1, _ => by simp [lessL]
  | [], y :: b, i + 1, h => by have := h 0 (by omega); simp at this
  | x :: a, [], i + 1, h => by have := h 0 (by omega); simp at this
  | x :: a, y :: b, i + 1, h => by
    have h0 := h 0 (by omega)
    simp at h0
    subst h0
    rw [List.drop_succ_cons, List.drop_succ_cons, ← lessL_split a b i (fun j hj => by simpa using h (j + 1) (by omega))]
    have hx : ¬ x < x := by
      intro hh; exact absurd (UInt8.lt_iff_toNat_lt.1 hh) (by omega)
    show (if x < x then true else if x < x then false else lessL a b) = lessL a b
    simp [hx]
theorem lessL_at (a b : List UInt8) (i : Nat) (h : ∀ j, j < i → a[j]? = b[j]?) (x y : UInt8) (hx : a[i]? = some x) (hy : b[i]? = some y) (hne : x ≠ y) : lessL a b = decide (x.toNat < y.toNat) := by
  rw [lessL_split a b i h]
  have ha := (List.getElem?_eq_some_iff.1 hx)
  have hb := (List.getElem?_eq_some_iff.1 hy)
  obtain ⟨hal, hae⟩ := ha
  obtain ⟨hbl, hbe⟩ := hb
  rw [List.drop_eq_getElem_cons hal, List.drop_eq_getElem_cons hbl, hae, hbe]
  unfold lessL
  by_cases h1 : x.toNat < y.toNat
  · simp [UInt8.lt_iff_toNat_lt, h1]
  · have h2 : y.toNat < x.toNat := by
      have : x.toNat ≠ y.toNat := fun e => hne (UInt8.toNat_inj.1 e)
      omega
    simp [UInt8.lt_iff_toNat_lt, h1, h2]
theorem lessL_same (a : List UInt8) : lessL a a = false := by
  rw [lessL_split a a a.length (fun _ _ => rfl)]; simp [lessL]

set_option maxHeartbeats 1000000 in
theorem refless_any (x y : List UInt8) (hx : x.length = 32) (hy : y.length = 32) (w : World) :
    Calls Tryd.prog 10 #[.agg (x.map B).toArray, .agg (y.map B).toArray] w fun e w' => e = .returned (.bool (lessL x y)) ∧ Kept [] w w' := by
  obtain ⟨X, hX⟩ : ∃ X, X = (x.map B).toArray := ⟨_, rfl⟩
  obtain ⟨Y, hY⟩ : ∃ Y, Y = (y.map B).toArray := ⟨_, rfl⟩
  have HX := hid hX; have HY := hid hY
  have hXs : X.size = 32 := by rw [hX]; simp [hx]
  have hYs : Y.size = 32 := by rw [hY]; simp [hy]
  rw [← hX, ← hY]
  clear hX hY
  go_enter Tryd.func10, Tryd.ntmps10
  go_wp2_with fail
  have h0 : Hid (Kept [] w ((w.alloc (.cells X 24)).alloc (.cells Y 24)) ∧ (∀ j, ((w.alloc (.cells X 24)).alloc (.cells Y 24)).cell? ⟨w.heap.size, j, none⟩ = X[j]?) ∧ ∀ j, ((w.alloc (.cells X 24)).alloc (.cells Y 24)).cell? ⟨w.heap.size + 1, j, none⟩ = Y[j]?) :=
    hid ⟨((Kept.refl _ _).alloc _).alloc _, fun j => cell_of_row _ _ _ _ _ _ (heap_alloc_old (heap_alloc_at rfl)), fun j => cell_of_row _ _ _ _ _ _ (heap_alloc_at (by simp))⟩
  go_loopw [5] (fun j wr => ∃ i : Nat, i ≤ 32 ∧ j = .int .i64 i ∧ Hid (∀ j, j < i → x[j]? = y[j]?) ∧ Hid (Kept [] w wr ∧ (∀ j, wr.cell? ⟨w.heap.size, j, none⟩ = X[j]?) ∧ ∀ j, wr.cell? ⟨w.heap.size + 1, j, none⟩ = Y[j]?)) (fun j _ => 32 - (intOf j).toNat)
  case atStart => exact ⟨0, by omega, rfl, hid (fun j hj => absurd hj (by omega)), h0⟩
  case round =>
    clear h0
    obtain ⟨i, hi, rfl, heq, hr⟩ := hrel
    by_cases hlt : i < 32
    · obtain ⟨p, hp⟩ : ∃ p, x[i]? = some p := ⟨x[i]'(by omega), by simp⟩
      obtain ⟨q, hq⟩ : ∃ q, y[i]? = some q := ⟨y[i]'(by omega), by simp⟩
      have gx : wr.cell? ⟨w.heap.size, i, none⟩ = some (.int .u8 (p.toNat : Int)) := by rw [hr.out.2.1, HX.out]; simp [hp, B]
      have gy : wr.cell? ⟨w.heap.size + 1, i, none⟩ = some (.int .u8 (q.toNat : Int)) := by rw [hr.out.2.2, HY.out]; simp [hq, B]
      have i0' : (0 : Int) ≤ (i : Int) := by omega
      have i32 : (i : Int) < 32 := by omega
      have hrd := hid (show Kept [] w wr.drew ∧ (∀ j, wr.drew.cell? ⟨w.heap.size, j, none⟩ = X[j]?) ∧ ∀ j, wr.drew.cell? ⟨w.heap.size + 1, j, none⟩ = Y[j]? from ⟨hr.out.1.drew, hr.out.2⟩)
      have hkd := hid hr.out.1.drew.drew
      by_cases hpq : p = q
      · have heq' := hid (show ∀ j, j < i + 1 → x[j]? = y[j]? from fun j hj => by
          rcases Nat.lt_or_ge j i with h | h
          · exact heq.out j h
          · rw [show j = i by omega, hp, hq, hpq])
        subst hpq
        clear hp hq hr heq
        go_wp2_with fail
        go_region
        go_wp2_with fail
        exact ⟨⟨i + 1, by omega, by go_num, heq', hrd⟩, by simp [intOf]; omega⟩
      · have hl := hid (lessL_at x y i heq.out p q hp hq hpq)
        have hne : ((p.toNat : Int) == (q.toNat : Int)) = false := by
          have : p.toNat ≠ q.toNat := fun e => hpq (UInt8.toNat_inj.1 e)
          simpa using fun e => this (by omega)
        have hcmp := hid (show decide ((p.toNat : Int) < (q.toNat : Int)) = decide (p.toNat < q.toNat) by simp)
        clear hp hq hr heq hpq
        generalize p.toNat = pn at *
        generalize q.toNat = qn at *
        go_wp2_with fail
        go_region
        go_wp2_with fail
        go_region
        go_wp2
        go_ret
        refine ⟨?_, hkd.out⟩
        rw [hl.out]
        first | rfl | simp
    · obtain rfl : i = 32 := by omega
      have hs : x = y := List.ext_getElem? fun j => by
        rcases Nat.lt_or_ge j 32 with h | h
        · exact heq.out j h
        · rw [List.getElem?_eq_none (by omega), List.getElem?_eq_none (by omega)]
      have hl := hid (show lessL x y = false by rw [hs]; exact lessL_same y)
      have hk := hid hr.out.1
      clear hr hs
      go_wp2
      go_ret
      exact ⟨by rw [hl.out]; rfl, hk.out⟩
end Go.Proofs.YtieaolnnlfaagaaDoor
