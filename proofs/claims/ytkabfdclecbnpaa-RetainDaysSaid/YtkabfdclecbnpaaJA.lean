import Derived.Test.YtkabfdclecbnpaaJ9

/- The order of snapshots, as mathematics. -/
namespace Go.Proofs.Ytkabfdclecbnpaa
open Go.RowKit Go.Lib

/-- Of two things one is less, or they are the same. -/
structure Cmp {α : Type} (f : α → α → Int) : Prop where
  neg : ∀ a b, f a b < 0 ↔ 0 < f b a
  zero : ∀ a b, f a b = 0 ↔ a = b
  trans : ∀ a b c, f a b < 0 → f b c < 0 → f a c < 0
def lexC {α β : Type} (f : α → α → Int) (g : β → β → Int) (x y : α × β) : Int := if f x.1 y.1 ≠ 0 then f x.1 y.1 else g x.2 y.2
theorem Cmp.lex {α β : Type} {f : α → α → Int} {g : β → β → Int} (hf : Cmp f) (hg : Cmp g) : Cmp (lexC f g) := by
  have hs : ∀ a b, f a b = 0 → f b a = 0 := fun a b h => (hf.zero b a).2 ((hf.zero a b).1 h).symm
  refine ⟨fun a b => ?_, fun a b => ?_, fun a b c => ?_⟩
  · unfold lexC
    by_cases h : f a.1 b.1 = 0
    · rw [if_neg (by simp [h]), if_neg (by simp [hs _ _ h])]; exact hg.neg _ _
    · rw [if_pos h, if_pos (fun e => h (hs _ _ e))]; exact hf.neg _ _
  · unfold lexC
    by_cases h : f a.1 b.1 = 0
    · rw [if_neg (by simp [h]), hg.zero]
      have h1 := (hf.zero _ _).1 h
      exact ⟨fun h2 => Prod.ext h1 h2, fun h2 => by rw [h2]⟩
    · rw [if_pos h]
      exact ⟨fun h2 => absurd h2 h, fun h2 => absurd ((hf.zero _ _).2 (by rw [h2])) h⟩
  · unfold lexC
    by_cases h : f a.1 b.1 = 0
    · have h1 := (hf.zero _ _).1 h
      rw [if_neg (by simp [h]), h1]
      by_cases k : f b.1 c.1 = 0
      · rw [if_neg (by simp [k]), if_neg (by simp [k])]; exact hg.trans _ _ _
      · rw [if_pos k, if_pos k]; exact fun _ h2 => h2
    · rw [if_pos h]
      by_cases k : f b.1 c.1 = 0
      · have h1 := (hf.zero _ _).1 k
        rw [if_neg (by simp [k]), ← h1, if_pos h]; exact fun h2 _ => h2
      · rw [if_pos k]
        intro h2 h3
        have h4 := hf.trans _ _ _ h2 h3
        rw [if_pos (by omega)]; exact h4
theorem cmpI_cmp : Cmp cmpI := by
  refine ⟨fun a b => ?_, fun a b => ?_, fun a b c => ?_⟩ <;> unfold cmpI <;> (repeat' split) <;> omega
theorem cmpS_cmp : Cmp cmpS := by
  have asy : ∀ a b : List UInt8, a < b → ¬ b < a := fun a b h h' => List.lt_irrefl a (List.lt_trans h h')
  refine ⟨fun a b => ?_, fun a b => ?_, fun a b c => ?_⟩
  · unfold cmpS
    by_cases h : a < b
    · rw [if_pos h, if_neg (asy a b h), if_pos h]; try decide
    · rw [if_neg h]
      by_cases k : b < a
      · rw [if_pos k, if_pos k]; try decide
      · rw [if_neg k, if_neg k, if_neg h]; try decide
  · unfold cmpS
    by_cases h : a < b
    · rw [if_pos h]; exact ⟨fun e => by simp at e, fun e => by subst e; exact absurd h (List.lt_irrefl a)⟩
    · rw [if_neg h]
      by_cases k : b < a
      · rw [if_pos k]; exact ⟨fun e => by simp at e, fun e => by subst e; exact absurd k h⟩
      · rw [if_neg k]; exact ⟨fun _ => List.le_antisymm (List.not_lt.1 k) (List.not_lt.1 h), fun _ => rfl⟩
  · intro h1 h2
    have e1 : a < b := by
      unfold cmpS at h1
      by_cases h : a < b
      · exact h
      · rw [if_neg h] at h1; split at h1 <;> omega
    have e2 : b < c := by
      unfold cmpS at h2
      by_cases h : b < c
      · exact h
      · rw [if_neg h] at h2; split at h2 <;> omega
    unfold cmpS
    rw [if_pos (List.lt_trans e1 e2)]; try decide
theorem bytes_cmpS : ∀ a b : List UInt8, Lib.compareBytes a b = cmpS a b
  | [], [] => by simp [Lib.compareBytes, cmpS]
  | [], _ :: _ => by simp [Lib.compareBytes, cmpS]
  | _ :: _, [] => by simp [Lib.compareBytes, cmpS]
  | x :: a, y :: b => by
    have ih := bytes_cmpS a b
    unfold Lib.compareBytes
    rw [ih]
    unfold cmpS
    simp only [List.cons_lt_cons_iff]
    by_cases h1 : x < y
    · simp [h1]
    · by_cases h2 : y < x
      · have h3 : x ≠ y := fun e => by subst e; exact h1 h2
        simp [h1, h2, h3, h3.symm]
      · have h3 : x = y := UInt8.le_antisymm (UInt8.not_lt.1 h2) (UInt8.not_lt.1 h1)
        subst h3
        simp [h1]

def Sp.key (s : Sp) : Int × List UInt8 × List UInt8 × List UInt8 × Int × Int := (s.time, s.host, s.tag, s.root, s.files, s.bytes)
theorem Sp.key_inj {a b : Sp} (h : a.key = b.key) : a = b := by
  cases a; cases b
  unfold Sp.key at h
  simp only [Prod.mk.injEq] at h
  obtain ⟨rfl, rfl, rfl, rfl, rfl, rfl⟩ := h
  rfl
def keyC := lexC cmpI (lexC cmpS (lexC cmpS (lexC cmpS (lexC cmpI cmpI))))
theorem keyC_cmp : Cmp keyC := cmpI_cmp.lex (cmpS_cmp.lex (cmpS_cmp.lex (cmpS_cmp.lex (cmpI_cmp.lex cmpI_cmp))))
theorem Sp.cmp_key (a b : Sp) : a.cmp b = keyC a.key b.key := by
  unfold Sp.cmp keyC lexC Sp.key
  rw [bytes_cmpS]
  unfold orL orL orL orL orL orL orL
  simp only []
  split <;> first | rfl | (split <;> first | rfl | (split <;> first | rfl | (split <;> first | rfl | (split <;> first | rfl | (split <;> simp_all)))))
theorem spC : Cmp Sp.cmp := by
  refine ⟨fun a b => ?_, fun a b => ?_, fun a b c => ?_⟩
  · rw [Sp.cmp_key, Sp.cmp_key]; exact keyC_cmp.neg _ _
  · rw [Sp.cmp_key, keyC_cmp.zero]; exact ⟨Sp.key_inj, fun h => by rw [h]⟩
  · rw [Sp.cmp_key, Sp.cmp_key, Sp.cmp_key]; exact keyC_cmp.trans _ _ _
end Go.Proofs.Ytkabfdclecbnpaa
