/- Paths by their parts: the mathematics of the document's own answers. -/
import Derived.Test.YtignphegdigalaaPK
namespace Go.Proofs.Ytignphegdigalaa
open Go.RowKit

/-- A slice of texts. -/
def TR (W : World) (av : Option Addr) (L : List (List UInt8)) : Prop := ∀ (j : Nat) x, L[j]? = some x → ∃ g, av = some ⟨g, 0, none⟩ ∧ W.cell? ⟨g, j, none⟩ = some (.string (S x))
theorem TR.kept {w w' : World} {av : Option Addr} {L : List (List UInt8)} (h : TR w av L) (hk : Kept [] w w') : TR w' av L := fun j x hj => by
  obtain ⟨g, h1, h2⟩ := h j x hj
  exact ⟨g, h1, (hk.cell (p := ⟨g, j, none⟩) (World.block_lt_of_cell? w _ h2) (by simp)).trans h2⟩
theorem TR.take {w : World} {av : Option Addr} {L : List (List UInt8)} (h : TR w av L) (n : Nat) : TR w av (L.take n) := fun j x hj => by
  rw [List.getElem?_take] at hj
  split at hj
  · exact h j x hj
  · cases hj
theorem tr_of_own {w : World} {base : Nat} {v : Value} {L : List (List UInt8)} (h : w.ownsRow base 9 1 v L.length (tS L)) : ∃ av cv, v = .slice av L.length cv ∧ L.length ≤ cv ∧ cv ≤ maxLen ∧ TR w av L ∧ ∀ x, av = some x → base ≤ x.block := by
  rcases h.2 with ⟨h1, h2⟩ | ⟨gv, cap, cur, h1, hb, hh, h3, h4, _⟩
  · have : L = [] := List.eq_nil_of_length_eq_zero h2
    subst this
    exact ⟨none, 0, h1, by simp, by simp, fun i r hr => by simp at hr, fun x hx => by cases hx⟩
  · refine ⟨_, cap, h1, h3, h4, fun j x hj => ?_, fun x hx => by cases hx; exact hb⟩
    have h5 := h.cells (g := gv) (by rw [h1]; rfl) j (.string (S x)) (by simp [tS, hj])
    rw [show (⟨gv, 0, none⟩ : Addr).add j = ⟨gv, j, none⟩ by unfold Addr.add; split <;> simp_all] at h5
    exact ⟨gv, rfl, h5⟩

theorem parts_here (s b : List UInt8) (h : 47 ∉ s) : partsS (s ++ 47 :: b) = s :: partsS b := by rw [parts_app, parts_one s h]; rfl

/-- Less, by parts. -/
def lexP : List (List UInt8) → List (List UInt8) → Bool
  | _, [] => false
  | [], _ :: _ => true
  | s :: x, t :: y => if s = t then lexP x y else decide (s < t)
theorem lexP_cons (s t : List UInt8) (x y : List (List UInt8)) : lexP (s :: x) (t :: y) = if s = t then lexP x y else decide (s < t) := rfl
theorem lexP_head (c : UInt8) (s t : List UInt8) (x y : List (List UInt8)) : lexP ((c :: s) :: x) ((c :: t) :: y) = lexP (s :: x) (t :: y) := by
  rw [lexP_cons, lexP_cons]
  by_cases h : s = t
  · rw [if_pos h, if_pos (by rw [h])]
  · rw [if_neg h, if_neg (by simpa using h)]
    congr 1
    rw [List.cons_lt_cons_iff]
    simp [UInt8.lt_irrefl]
theorem pless_lex : ∀ (a b : List UInt8), pless a b = lexP (partsS a) (partsS b)
  | [], [] => by simp [pless, partsS, lexP]
  | [], y :: b => by
    rw [show pless [] (y :: b) = true from rfl, partsS_cons]
    by_cases hy : y = 47
    · rw [if_pos hy]
      rcases hp : partsS b with _ | ⟨q, qs⟩
      · exact absurd hp (partsS_ne b)
      · simp [partsS, lexP]
    · rw [if_neg hy]
      rcases hp : partsS b with _ | ⟨q, qs⟩
      · exact absurd hp (partsS_ne b)
      · simp [partsS, lexP]
  | x :: a, [] => by
    rw [show pless (x :: a) [] = false from rfl, partsS_cons]
    by_cases hx : x = 47
    · rw [if_pos hx]
      rcases hp : partsS a with _ | ⟨q, qs⟩
      · exact absurd hp (partsS_ne a)
      · simp [partsS, lexP]
    · rw [if_neg hx]
      rcases hp : partsS a with _ | ⟨q, qs⟩
      · exact absurd hp (partsS_ne a)
      · simp [partsS, lexP]
  | x :: a, y :: b => by
    have ih := pless_lex a b
    rw [pless_cons, partsS_cons, partsS_cons]
    rcases hp : partsS a with _ | ⟨p, ps⟩
    · exact absurd hp (partsS_ne a)
    rcases hq : partsS b with _ | ⟨q, qs⟩
    · exact absurd hq (partsS_ne b)
    rw [hp, hq] at ih
    by_cases hx : x = 47
    · by_cases hy : y = 47
      · rw [if_pos (hx.trans hy.symm), if_pos hx, if_pos hy, lexP_cons, if_pos rfl, ih]
      · have hxy : x ≠ y := fun e => hy (e ▸ hx)
        rw [if_neg hxy, if_pos hx, if_neg hy]
        simp only [lexP_cons]
        rw [if_neg (by simp)]
        have : rk x < rk y := by unfold rk; rw [if_pos hx, if_neg hy]; omega
        simp [this]
    · by_cases hy : y = 47
      · have hxy : x ≠ y := fun e => hx (e.trans hy)
        rw [if_neg hxy, if_neg hx, if_pos hy]
        simp only [lexP_cons]
        rw [if_neg (by simp)]
        have : ¬ rk x < rk y := by unfold rk; rw [if_neg hx, if_pos hy]; omega
        simp [this]
      · rw [if_neg hx, if_neg hy]
        simp only
        by_cases hxy : x = y
        · subst hxy; rw [if_pos rfl, lexP_head, ih]
        · rw [if_neg hxy, lexP_cons, if_neg (by simp [hxy])]
          have h1 : rk x = x.toNat := by unfold rk; rw [if_neg hx]
          have h2 : rk y = y.toNat := by unfold rk; rw [if_neg hy]
          rw [h1, h2]
          have h3 : (x :: p < y :: q) ↔ x < y := by rw [List.cons_lt_cons_iff]; simp [hxy]
          rw [Bool.eq_iff_iff, decide_eq_true_eq, decide_eq_true_eq, h3, UInt8.lt_iff_toNat_lt]
          omega
theorem lexP_drop : ∀ (x y : List (List UInt8)) (i : Nat), i ≤ x.length → i ≤ y.length → (∀ j, j < i → x[j]? = y[j]?) → lexP x y = lexP (x.drop i) (y.drop i)
  | _, _, 0, _, _, _ => by simp
  | [], _, i + 1, h, _, _ => by simp at h
  | _ :: _, [], i + 1, _, h, _ => by simp at h
  | s :: x, t :: y, i + 1, h1, h2, h => by
    have h0 := h 0 (by omega)
    simp only [List.getElem?_cons_zero, Option.some.injEq] at h0
    rw [lexP_cons, if_pos h0, lexP_drop x y i (by simpa using h1) (by simpa using h2) (fun j hj => by have := h (j + 1) (by omega); simpa using this)]
    rfl

theorem glue_snoc (K : List (List UInt8)) (s : List UInt8) (hK : K ≠ []) : glueS (K ++ [s]) = glueS K ++ 47 :: s := by rw [glue_app K [s] hK (by simp), glue_one]
theorem folS_okp {k : List (List UInt8)} {s : List UInt8} {k' : List (List UInt8)} (h : folS k s = some k') (hk : ∀ t ∈ k, okPart t = true) : ∀ t ∈ k', okPart t = true := by
  unfold folS at h
  split at h
  · simp at h; subst h; exact hk
  · split at h
    · split at h
      · simp at h
      · simp at h; subst h; exact fun t ht => hk t (List.dropLast_subset _ ht)
    · split at h
      · rename_i hp
        simp at h; subst h
        intro t ht
        rcases List.mem_append.1 ht with h1 | h1
        · exact hk t h1
        · simp at h1; subst h1; exact hp
      · simp at h
/-- What Clean hands back of the parts that are left. -/
theorem meant_of {a : List UInt8} {k : List (List UInt8)} (h : foldS [] (partsS a) = some k) (hk : ∀ t ∈ k, okPart t = true) : meantS a = if k = [] ∨ 120 < (glueS k).length then none else some (glueS k) := by
  have h1 : meantS a = if okPath (glueS k) = true then some (glueS k) else none := by unfold meantS; rw [h]
  rw [h1]
  by_cases he : k = []
  · rw [if_neg (by rw [he, glue_nil]; decide), if_pos (Or.inl he)]
  · rw [okPath_glue k he hk]
    by_cases hl : 120 < (glueS k).length
    · rw [if_pos (Or.inr hl), if_neg (by simp; omega)]
    · rw [if_pos (by simp; omega), if_neg (fun h => h.elim he hl)]
theorem meant_dead {a : List UInt8} (h : foldS [] (partsS a) = none) : meantS a = none := by unfold meantS; rw [h]
theorem fold_take {L : List (List UInt8)} {j : Nat} {s : List UInt8} {k : List (List UInt8)} (hs : L[j]? = some s) (h : foldS [] (L.take j) = some k) : foldS [] (L.take (j + 1)) = folS k s := by
  rw [List.take_add_one, hs]; exact foldS_snoc [] _ s k h
theorem fold_dead {L : List (List UInt8)} {j : Nat} {s : List UInt8} {k : List (List UInt8)} (hs : L[j]? = some s) (h : foldS [] (L.take j) = some k) (hd : folS k s = none) : foldS [] L = none := by
  rw [← List.take_append_drop (j + 1) L]
  exact foldS_dead _ _ _ (by rw [fold_take hs h, hd])
theorem partsS_longs : ∀ (a : List UInt8), ∀ x ∈ partsS a, x.length ≤ a.length := partsS_len
end Go.Proofs.Ytignphegdigalaa
