/- Parts, glued and apart: the mathematics of clean paths; Check of every text. -/
import Derived.Test.YtignphegdigalaaP15
namespace Go.Proofs.Ytignphegdigalaa
open Go.RowKit

theorem partsS_cons (x : UInt8) (a : List UInt8) : partsS (x :: a) = if x = 47 then [] :: partsS a else match partsS a with | p :: ps => (x :: p) :: ps | [] => [[x]] := rfl
theorem parts_app (b : List UInt8) : ∀ a : List UInt8, partsS (a ++ 47 :: b) = partsS a ++ partsS b
  | [] => by simp [partsS]
  | x :: a => by
    have ih := parts_app b a
    rw [List.cons_append, partsS_cons, partsS_cons x a]
    by_cases hx : x = 47
    · rw [if_pos hx, if_pos hx, ih]; rfl
    · rw [if_neg hx, if_neg hx, ih]
      rcases hp : partsS a with _ | ⟨q, qs⟩
      · exact absurd hp (partsS_ne a)
      · rfl
theorem parts_one : ∀ (s : List UInt8), 47 ∉ s → partsS s = [s]
  | [], _ => rfl
  | x :: s, h => by
    have h1 : x ≠ 47 := fun e => h (by simp [e])
    unfold partsS
    rw [if_neg h1, parts_one s (fun e => h (by simp [e]))]
theorem parts_cons (b : List UInt8) : partsS (47 :: b) = [] :: partsS b := by simp [partsS]
def tailP : List (List UInt8) → List UInt8
  | [] => []
  | s :: r => 47 :: (s ++ tailP r)
theorem tailP_eq : ∀ r : List (List UInt8), Lib.joinTail [47] r = tailP r
  | [] => rfl
  | s :: r => by
    have := tailP_eq r
    simp [Lib.joinTail, tailP] at this ⊢
    exact this
theorem glue_nil : glueS [] = [] := rfl
theorem glue_cons (s : List UInt8) (r : List (List UInt8)) : glueS (s :: r) = s ++ tailP r := by unfold glueS; rw [Lib.join_cons, tailP_eq]
theorem tailP_app : ∀ (a b : List (List UInt8)), tailP (a ++ b) = tailP a ++ tailP b
  | [], _ => rfl
  | s :: a, b => by simp [tailP, tailP_app a b]
theorem glue_app (K L : List (List UInt8)) (hK : K ≠ []) (hL : L ≠ []) : glueS (K ++ L) = glueS K ++ 47 :: glueS L := by
  rcases K with _ | ⟨s, r⟩
  · exact absurd rfl hK
  rcases L with _ | ⟨t, q⟩
  · exact absurd rfl hL
  rw [List.cons_append, glue_cons, glue_cons, glue_cons, tailP_app]
  simp [tailP]
theorem glue_one (s : List UInt8) : glueS [s] = s := by rw [glue_cons]; simp [tailP]
theorem parts_tail : ∀ (r : List (List UInt8)) (s : List UInt8), 47 ∉ s → (∀ t ∈ r, 47 ∉ t) → partsS (s ++ tailP r) = s :: r
  | [], s, h, _ => by rw [tailP, List.append_nil, parts_one s h]
  | t :: r, s, h, hr => by
    rw [tailP, parts_app, parts_one s h, parts_tail r t (hr t (by simp)) (fun u hu => hr u (by simp [hu]))]; rfl
theorem parts_glue (K : List (List UInt8)) (hK : K ≠ []) (h : ∀ t ∈ K, 47 ∉ t) : partsS (glueS K) = K := by
  rcases K with _ | ⟨s, r⟩
  · exact absurd rfl hK
  rw [glue_cons, parts_tail r s (h s (by simp)) (fun t ht => h t (by simp [ht]))]
theorem glue_parts : ∀ a : List UInt8, glueS (partsS a) = a
  | [] => by simp [partsS, glue_one]
  | x :: a => by
    have ih := glue_parts a
    unfold partsS
    rcases hp : partsS a with _ | ⟨q, qs⟩
    · exact absurd hp (partsS_ne a)
    · rw [hp, glue_cons] at ih
      by_cases hx : x = 47
      · rw [if_pos hx, glue_cons, tailP, hx, ← ih]; rfl
      · rw [if_neg hx]; simp only; rw [glue_cons, ← ih]; rfl
theorem parts_sep : ∀ (a : List UInt8), ∀ s ∈ partsS a, 47 ∉ s
  | [], s, h => by simp [partsS] at h; simp [h]
  | x :: a, s, h => by
    have ih := parts_sep a
    unfold partsS at h
    by_cases hx : x = 47
    · rw [if_pos hx] at h
      rcases List.mem_cons.1 h with rfl | h
      · simp
      · exact ih s h
    · rw [if_neg hx] at h
      rcases hp : partsS a with _ | ⟨q, qs⟩
      · exact absurd hp (partsS_ne a)
      · rw [hp] at h ih
        rcases List.mem_cons.1 h with rfl | h
        · have := ih q (by simp)
          simp [Ne.symm hx, this]
        · exact ih s (by simp [h])
theorem lastN_one : ∀ (s : List UInt8), 47 ∉ s → lastN s 47 = 0
  | [], _ => rfl
  | x :: s, h => by
    have h1 : x ≠ 47 := fun e => h (by simp [e])
    simp [lastN, lastN_one s (fun e => h (by simp [e])), h1]
theorem lastN_app (s : List UInt8) (h : 47 ∉ s) : ∀ a : List UInt8, lastN (a ++ 47 :: s) 47 = a.length + 1
  | [] => by simp [lastN, lastN_one s h]
  | x :: a => by simp [lastN, lastN_app s h a]
theorem parent_app (a s : List UInt8) (h : 47 ∉ s) : parentL (a ++ 47 :: s) = a := by unfold parentL; rw [lastN_app s h]; simp
theorem base_app (a s : List UInt8) (h : 47 ∉ s) : baseL (a ++ 47 :: s) = s := by
  unfold baseL; rw [lastN_app s h, show a ++ 47 :: s = (a ++ [47]) ++ s by simp, List.drop_left' (by simp)]
theorem parent_one (s : List UInt8) (h : 47 ∉ s) : parentL s = [] := by unfold parentL; rw [lastN_one s h]; rfl
theorem base_one (s : List UInt8) (h : 47 ∉ s) : baseL s = s := by unfold baseL; rw [lastN_one s h]; rfl
theorem parent_glue (K : List (List UInt8)) (s : List UInt8) (h : 47 ∉ s) : parentL (glueS (K ++ [s])) = glueS K ∧ baseL (glueS (K ++ [s])) = s := by
  by_cases hK : K = []
  · subst hK; rw [List.nil_append, glue_one, parent_one s h, base_one s h]; exact ⟨rfl, rfl⟩
  · rw [glue_app K [s] hK (by simp), glue_one, parent_app _ s h, base_app _ s h]; exact ⟨rfl, rfl⟩
theorem parent_parts (p : List UInt8) : parentL p = glueS (partsS p).dropLast ∧ baseL p = (partsS p).getLast (partsS_ne p) := by
  have h1 := List.dropLast_concat_getLast (partsS_ne p)
  have h2 := parent_glue (partsS p).dropLast ((partsS p).getLast (partsS_ne p)) (parts_sep p _ (List.getLast_mem _))
  rw [h1, glue_parts] at h2
  exact h2
theorem okByte_sep : okByte 47 = false := by decide
theorem okPart_sep {s : List UInt8} (h : okPart s = true) : 47 ∉ s := by
  intro hm
  unfold okPart at h
  rw [Bool.and_eq_true, List.all_eq_true] at h
  have := h.2 47 hm
  rw [okByte_sep] at this; cases this
theorem okPart_ne {s : List UInt8} (h : okPart s = true) : s ≠ [] ∧ s ≠ [46] ∧ s ≠ [46, 46] ∧ s.length ≤ 40 := by
  unfold okPart at h
  simp only [Bool.and_eq_true, decide_eq_true_eq] at h
  exact ⟨fun e => by rw [e] at h; simp at h, h.1.1.2, h.1.2, h.1.1.1.2⟩
theorem okPath_iff (a : List UInt8) : okPath a = true ↔ a.length ≤ 120 ∧ ∀ s ∈ partsS a, okPart s = true := by
  unfold okPath; rw [Bool.and_eq_true, decide_eq_true_eq, List.all_eq_true]
theorem okPath_glue (K : List (List UInt8)) (hK : K ≠ []) (h : ∀ s ∈ K, okPart s = true) : okPath (glueS K) = decide ((glueS K).length ≤ 120) := by
  unfold okPath
  rw [parts_glue K hK (fun t ht => okPart_sep (h t ht)), show K.all okPart = true from List.all_eq_true.2 h]; simp
theorem okPath_one {s : List UInt8} (h : okPart s = true) : okPath s = true := by
  rw [okPath_iff, parts_one s (okPart_sep h)]
  exact ⟨by have := (okPart_ne h).2.2.2; omega, by simpa using h⟩
theorem folS_add (k : List (List UInt8)) (s : List UInt8) (h : okPart s = true) : folS k s = some (k ++ [s]) := by
  obtain ⟨h1, h2, h3, _⟩ := okPart_ne h
  unfold folS; rw [if_neg (by simp [h1, h2]), if_neg h3, if_pos h]
theorem folS_up (k : List (List UInt8)) (hk : k ≠ []) : folS k [46, 46] = some k.dropLast := by
  unfold folS; simp [hk]
theorem folS_up0 : folS [] [46, 46] = none := by
  unfold folS; simp
theorem foldS_all : ∀ (K k : List (List UInt8)), (∀ s ∈ K, okPart s = true) → foldS k K = some (k ++ K)
  | [], k, _ => by simp [foldS]
  | s :: r, k, h => by
    simp only [foldS, folS_add k s (h s (by simp))]
    rw [foldS_all r (k ++ [s]) (fun t ht => h t (by simp [ht]))]; simp
theorem foldS_app (l : List (List UInt8)) : ∀ (k r k' : List (List UInt8)), foldS k r = some k' → foldS k (r ++ l) = foldS k' l
  | k, [], k', h => by simp [foldS] at h; subst h; rfl
  | k, s :: r, k', h => by
    simp only [foldS, List.cons_append] at h ⊢
    cases hf : folS k s with
    | none => rw [hf] at h; simp at h
    | some k1 => rw [hf] at h; simp only at h ⊢; exact foldS_app l k1 r k' h
theorem meant_ok {p : List UInt8} (h : okPath p = true) : meantS p = some p := by
  have h1 := (okPath_iff p).1 h
  unfold meantS
  rw [foldS_all _ [] h1.2, List.nil_append]
  simp only
  rw [glue_parts, if_pos h]
theorem meant_good {a c : List UInt8} (h : meantS a = some c) : okPath c = true := by
  unfold meantS at h
  cases hf : foldS [] (partsS a) with
  | none => rw [hf] at h; simp at h
  | some k =>
    rw [hf] at h; simp only at h
    by_cases ho : okPath (glueS k) = true
    · rw [if_pos ho] at h; simp at h; rw [← h]; exact ho
    · rw [if_neg ho] at h; simp at h
theorem join_glue (K : List (List UInt8)) (s : List UInt8) (h : ∀ t ∈ K, okPart t = true) : joinL (glueS K) s = glueS (K ++ [s]) := by
  unfold joinL
  rcases K with _ | ⟨t, r⟩
  · rw [glue_nil, if_pos rfl, List.nil_append, glue_one]
  · rw [if_neg (by rw [glue_cons]; have := (okPart_ne (h t (by simp))).1; simp [this]), glue_app _ _ (by simp) (by simp), glue_one]
theorem glue_ne (K : List (List UInt8)) (hK : K ≠ []) (h : ∀ t ∈ K, okPart t = true) : glueS K ≠ [] := by
  rcases K with _ | ⟨t, r⟩
  · exact absurd rfl hK
  · rw [glue_cons]; have := (okPart_ne (h t (by simp))).1; simp [this]
theorem okPath_ne {p : List UInt8} (h : okPath p = true) : p ≠ [] := by
  intro e; subst e; revert h; decide
def looseL : List (List UInt8) → List UInt8
  | [] => []
  | s :: r => 47 :: 46 :: 47 :: (s ++ 47 :: 120 :: 47 :: 46 :: 46 :: 47 :: looseL r)
theorem loose_snoc (s : List UInt8) : ∀ K : List (List UInt8), looseL (K ++ [s]) = looseL K ++ (([47, 46, 47] ++ s) ++ [47, 120, 47, 46, 46, 47])
  | [] => by simp [looseL]
  | t :: r => by simp [looseL, loose_snoc s r]
theorem loose_parts : ∀ K : List (List UInt8), (∀ t ∈ K, okPart t = true) → partsS (looseL K) = K.flatMap (fun s => [[], [46], s, [120], [46, 46]]) ++ [[]]
  | [], _ => rfl
  | s :: r, h => by
    rw [looseL, parts_cons, show (46 : UInt8) :: 47 :: (s ++ 47 :: 120 :: 47 :: 46 :: 46 :: 47 :: looseL r) = [46] ++ 47 :: (s ++ 47 :: ([120] ++ 47 :: ([46, 46] ++ 47 :: looseL r))) by simp, parts_app, parts_app, parts_app, parts_app,
      loose_parts r (fun t ht => h t (by simp [ht])), parts_one s (okPart_sep (h s (by simp)))]
    simp [partsS]
theorem loose_fold : ∀ (K k : List (List UInt8)), (∀ t ∈ K, okPart t = true) → foldS k (K.flatMap (fun s => [[], [46], s, [120], [46, 46]]) ++ [[]]) = some (k ++ K)
  | [], k, _ => by simp [foldS, folS]
  | s :: r, k, h => by
    have hs := h s (by simp)
    have hx : okPart [120] = true := by decide
    simp only [List.flatMap_cons, List.cons_append, List.nil_append, foldS]
    rw [show folS k [] = some k by simp [folS]]
    simp only
    rw [show folS k [46] = some k by simp [folS]]
    simp only
    rw [folS_add k s hs]
    simp only
    rw [folS_add _ _ hx]
    simp only
    rw [folS_up _ (by simp)]
    simp only
    rw [List.dropLast_concat, loose_fold r (k ++ [s]) (fun t ht => h t (by simp [ht]))]
    simp
theorem loose_meant {p : List UInt8} (h : okPath p = true) : meantS (looseL (partsS p)) = some p := by
  have h1 := (okPath_iff p).1 h
  unfold meantS
  rw [loose_parts _ h1.2, loose_fold _ [] h1.2, List.nil_append]
  simp only
  rw [glue_parts, if_pos h]
theorem loose_len : ∀ K : List (List UInt8), (∀ t ∈ K, t.length ≤ 40) → (looseL K).length ≤ 60 * K.length
  | [], _ => by simp [looseL]
  | s :: r, h => by
    have := loose_len r (fun t ht => h t (by simp [ht]))
    have := h s (by simp)
    simp [looseL]; omega
theorem join_parent {p : List UInt8} (h : okPath p = true) : joinL (parentL p) (baseL p) = p := by
  have h1 := (okPath_iff p).1 h
  rw [(parent_parts p).1, (parent_parts p).2, join_glue _ _ (fun t ht => h1.2 t ((List.dropLast_sublist _).subset ht)), List.dropLast_concat_getLast, glue_parts]
theorem meant_up {p : List UInt8} (h : okPath p = true) : meantS (p ++ 47 :: [46, 46]) = if parentL p = [] then none else some (parentL p) := by
  have h1 := (okPath_iff p).1 h
  have h2 : ∀ s ∈ (partsS p).dropLast, okPart s = true := fun s hs => h1.2 s ((List.dropLast_sublist _).subset hs)
  unfold meantS
  rw [parts_app, show partsS [46, 46] = [[46, 46]] by decide, foldS_app _ _ _ _ (foldS_all _ [] h1.2), List.nil_append]
  simp only [foldS]
  rw [folS_up _ (partsS_ne p)]
  simp only
  rw [← (parent_parts p).1]
  by_cases he : parentL p = []
  · rw [if_pos he, he, if_neg (by decide)]
  · have hd : (partsS p).dropLast ≠ [] := fun e => he (by rw [(parent_parts p).1, e]; rfl)
    have hlen : (parentL p).length ≤ 120 := by unfold parentL; rw [List.length_take]; omega
    rw [if_neg he, if_pos]
    rw [(parent_parts p).1, okPath_glue _ hd h2, ← (parent_parts p).1]
    simpa using hlen
theorem meant_there {p : List UInt8} (h : okPath p = true) : meantS (p ++ 47 :: [120, 47, 46, 46]) = some p := by
  have h1 := (okPath_iff p).1 h
  unfold meantS
  rw [parts_app, show partsS [120, 47, 46, 46] = [[120], [46, 46]] by decide, foldS_app _ _ _ _ (foldS_all _ [] h1.2), List.nil_append]
  simp only [foldS]
  rw [folS_add _ _ (by decide)]
  simp only
  rw [folS_up _ (by simp)]
  simp only
  rw [List.dropLast_concat, glue_parts, if_pos h]
theorem okPath_join {p a : List UInt8} (h : okPath p = true) (h' : okPath a = true) (hl : p.length + a.length + 1 ≤ 120) : joinL p a = p ++ 47 :: a ∧ okPath (joinL p a) = true := by
  have e : joinL p a = p ++ 47 :: a := by unfold joinL; rw [if_neg (okPath_ne h)]
  refine ⟨e, ?_⟩
  rw [e, okPath_iff, parts_app]
  refine ⟨by simp; omega, fun s hs => ?_⟩
  rcases List.mem_append.1 hs with hs | hs
  · exact ((okPath_iff p).1 h).2 s hs
  · exact ((okPath_iff a).1 h').2 s hs
theorem base_join {p a : List UInt8} : baseL (p ++ 47 :: a) = baseL a := by
  rw [(parent_parts _).2, (parent_parts a).2]
  simp only [parts_app]
  rw [List.getLast_append_of_ne_nil _ (partsS_ne a)]

theorem pathErr_def (a : List UInt8) : pathErr a = if okPath a = true then 0 else 38 := rfl
theorem clean_some {a c : List UInt8} (h : meantS a = some c) : cleanS a = c ∧ cleanErr a = 0 := by unfold cleanS cleanErr; rw [h]; exact ⟨rfl, rfl⟩
theorem clean_none {a : List UInt8} (h : meantS a = none) : cleanS a = [] ∧ cleanErr a = 38 := by unfold cleanS cleanErr; rw [h]; exact ⟨rfl, rfl⟩
theorem check_all (a : List UInt8) (n : Int) (h : pathErr a = n) (w : World) :
    Calls Try.prog 20 #[.string (S a)] w fun e w' => e = .returned (.int .i64 n) ∧ Kept [] w w' := by
  by_cases ha : a.length ≤ 1000000000
  · exact check_kept a ha n h w
  · have ss := S_size a
    have hn : n = 38 := by rw [← h]; exact pathErr_no (by unfold okPath; rw [decide_eq_false (by omega)]; simp)
    subst hn
    clear h
    have hl : 120 < a.length := by omega
    have bR := Boxed.new w 23 (.int .i64 38)
    have hc5 := bR.cell
    go_enter Try.func20, Try.ntmps20
    go_wp2
    refine bodyPost_ret (v := .int .i64 38) ?_ rfl ?_
    · simp [results, Try.f20, go_sem, hc5]
    · exact ⟨rfl, (Kept.refl [] w).alloc _⟩
end Go.Proofs.Ytignphegdigalaa
