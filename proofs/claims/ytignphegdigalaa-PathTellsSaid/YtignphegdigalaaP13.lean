/- The order of paths, as mathematics. -/
import Derived.Test.YtignphegdigalaaP1
namespace Go.Proofs.Ytignphegdigalaa
open Go.RowKit

theorem rk_inj {a b : UInt8} (h : rk a = rk b) : a = b := by
  unfold rk at h
  have h1 := a.toNat_lt; have h2 := b.toNat_lt
  by_cases ha : a = 47 <;> by_cases hb : b = 47
  · rw [ha, hb]
  · rw [if_pos ha, if_neg hb] at h; omega
  · rw [if_neg ha, if_pos hb] at h; omega
  · rw [if_neg ha, if_neg hb] at h; exact UInt8.toNat_inj.1 (by omega)
theorem pless_cons (a b : UInt8) (x y : List UInt8) : pless (a :: x) (b :: y) = if a = b then pless x y else decide (rk a < rk b) := rfl
theorem pless_asymm : ∀ (a b : List UInt8), pless a b = true → pless b a = false
  | [], [], h => by simp [pless] at h
  | [], _ :: _, _ => rfl
  | _ :: _, [], h => by simp [pless] at h
  | a :: x, b :: y, h => by
    rw [pless_cons] at h ⊢
    by_cases e : a = b
    · rw [if_pos e] at h; rw [if_pos e.symm]; exact pless_asymm x y h
    · rw [if_neg e] at h; rw [if_neg (fun e' => e e'.symm)]
      simp only [decide_eq_true_eq] at h; simp only [decide_eq_false_iff_not]; omega
theorem pless_irrefl (a : List UInt8) : pless a a = false := by
  cases h : pless a a with
  | false => rfl
  | true => rw [pless_asymm a a h] at h; exact h.symm ▸ rfl
theorem pless_total : ∀ (a b : List UInt8), a ≠ b → (pless a b || pless b a) = true
  | [], [], h => absurd rfl h
  | [], _ :: _, _ => rfl
  | _ :: _, [], _ => rfl
  | a :: x, b :: y, h => by
    rw [pless_cons, pless_cons]
    by_cases e : a = b
    · rw [if_pos e, if_pos e.symm]; exact pless_total x y (fun e' => h (by rw [e, e']))
    · rw [if_neg e, if_neg (fun e' => e e'.symm)]
      have : rk a ≠ rk b := fun e' => e (rk_inj e')
      simp only [Bool.or_eq_true, decide_eq_true_eq]; omega
theorem pless_trans : ∀ (a b c : List UInt8), pless a b = true → pless b c = true → pless a c = true
  | [], [], c, h, _ => by simp [pless] at h
  | [], _ :: _, [], _, h => by simp [pless] at h
  | [], _ :: _, _ :: _, _, _ => rfl
  | _ :: _, [], c, h, _ => by simp [pless] at h
  | _ :: _, _ :: _, [], _, h => by simp [pless] at h
  | a :: x, b :: y, c :: z, h1, h2 => by
    rw [pless_cons] at h1 h2 ⊢
    by_cases e1 : a = b <;> by_cases e2 : b = c
    · rw [if_pos e1] at h1; rw [if_pos e2] at h2; rw [if_pos (e1.trans e2)]; exact pless_trans x y z h1 h2
    · rw [if_neg e2] at h2; subst e1; rw [if_neg e2]; exact h2
    · rw [if_neg e1] at h1; subst e2; rw [if_neg e1]; exact h1
    · rw [if_neg e1] at h1; rw [if_neg e2] at h2
      simp only [decide_eq_true_eq] at h1 h2
      have e3 : a ≠ c := fun e => by subst e; omega
      rw [if_neg e3]; simp only [decide_eq_true_eq]; omega
theorem pref_iff (p a : List UInt8) : pref p a = true ↔ ∃ r, a = p ++ r := by
  unfold pref
  rw [decide_eq_true_eq]
  constructor
  · intro h; exact ⟨a.drop p.length, by conv => lhs; rw [← List.take_append_drop p.length a, h]⟩
  · rintro ⟨r, rfl⟩; simp
theorem within_iff (p d : List UInt8) (hd : d ≠ []) : within p d = true ↔ ∃ r, p = d ++ 47 :: r := by
  unfold within
  have h1 : d.isEmpty = false := by simpa using hd
  rw [h1, Bool.false_or, Bool.and_eq_true, pref_iff, pref_iff]
  constructor
  · rintro ⟨⟨r, rfl⟩, s, h⟩; exact ⟨s, by simp at h; rw [h]⟩
  · rintro ⟨r, rfl⟩; exact ⟨⟨_, rfl⟩, r, by simp⟩
theorem pless_pref : ∀ (a : List UInt8) (x : UInt8) (r : List UInt8), pless a (a ++ x :: r) = true
  | [], _, _ => rfl
  | a :: s, x, r => by rw [List.cons_append, pless_cons, if_pos rfl]; exact pless_pref s x r
theorem pless_app : ∀ (a b c : List UInt8), pless (a ++ b) (a ++ c) = pless b c
  | [], _, _ => rfl
  | a :: s, b, c => by rw [List.cons_append, List.cons_append, pless_cons, if_pos rfl]; exact pless_app s b c
theorem pless_out : ∀ (a r c : List UInt8), (∀ s, c ≠ a ++ s) → pless a c = pless (a ++ r) c
  | [], _, c, h => absurd rfl (h c)
  | _ :: _, _, [], _ => rfl
  | a :: x, r, c :: z, h => by
    rw [List.cons_append, pless_cons, pless_cons]
    by_cases e : a = c
    · subst e
      rw [if_pos rfl, if_pos rfl]
      exact pless_out x r z (fun s e' => h s (by rw [List.cons_append, ← e']))
    · rw [if_neg e, if_neg e]
theorem pless_beside (a b c : List UInt8) (ha : a ≠ []) (hb : within b a = true) : (within c a || decide (c = a) || (pless a c == pless b c)) = true := by
  obtain ⟨r, rfl⟩ := (within_iff b a ha).1 hb
  by_cases hc : within c a = true
  · simp [hc]
  by_cases e : c = a
  · simp [e]
  have : pless a c = pless (a ++ 47 :: r) c := by
    by_cases h : ∃ s, c = a ++ s
    · obtain ⟨s, rfl⟩ := h
      cases s with
      | nil => simp at e
      | cons y s =>
        have hy : (47 : UInt8) ≠ y := fun e' => hc ((within_iff _ a ha).2 ⟨s, by rw [e']⟩)
        rw [pless_pref, pless_app, pless_cons, if_neg hy]
        symm
        rw [decide_eq_true_eq]
        unfold rk
        rw [if_pos rfl, if_neg (fun e' => hy e'.symm)]
        omega
    · exact pless_out a _ c (fun s e' => h ⟨s, e'⟩)
  rw [this]; simp
theorem pless_inside (a b : List UInt8) (ha : a ≠ []) (hb : within b a = true) : pless a b = true := by
  obtain ⟨r, rfl⟩ := (within_iff b a ha).1 hb
  exact pless_pref a 47 r
end Go.Proofs.Ytignphegdigalaa
