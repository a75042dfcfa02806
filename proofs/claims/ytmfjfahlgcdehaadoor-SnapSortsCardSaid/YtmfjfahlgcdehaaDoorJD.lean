import Derived.Test.YtmfjfahlgcdehaaDoorJ3
import Derived.Test.YtmfjfahlgcdehaaDoorMS

/- Fields written and read, as mathematics. -/
namespace Go.Proofs.YtmfjfahlgcdehaaDoor
open Go.RowKit Go.Lib

theorem numB_cons (N k : Nat) : numB N (k + 1) = UInt8.ofNat N :: numB (N / 256) k := by
  unfold numB
  rw [List.range_succ_eq_map, List.map_cons, List.map_map]
  congr 1
  · simp
  · apply List.map_congr_left
    intro j _
    show UInt8.ofNat (N / 256 ^ (j + 1)) = UInt8.ofNat (N / 256 / 256 ^ j)
    rw [Nat.div_div_eq_div_mul, Nat.pow_succ, Nat.mul_comm]
theorem numOf_cons (b : UInt8) (l : List UInt8) : numOf (b :: l) = b.toNat + 256 * numOf l := by
  have h := numOf_snoc
  rfl
theorem numB_numOf : ∀ l : List UInt8, numB (numOf l) l.length = l
  | [] => rfl
  | b :: l => by
    have hb := b.toNat_lt
    rw [List.length_cons, numB_cons, numOf_cons]
    have e : (b.toNat + 256 * numOf l) / 256 = numOf l := by omega
    rw [e, numB_numOf l]
    congr 1
    apply UInt8.toNat_inj.1
    simp
    try omega

theorem rNum_put (N k : Nat) (r : List UInt8) (h : N < 256 ^ k) : rNum k (numB N k ++ r) = some (N, r) := by
  unfold rNum
  have hl := numB_len N k
  rw [if_pos (by simp [hl]), List.take_left' hl, List.drop_left' hl, numOf_numB, Nat.mod_eq_of_lt h]
theorem rNum_get {k : Nat} {xs r : List UInt8} {N : Nat} (h : rNum k xs = some (N, r)) : xs = numB N k ++ r ∧ N < 256 ^ k := by
  unfold rNum at h
  by_cases hl : k ≤ xs.length
  · rw [if_pos hl] at h
    simp only [Option.some.injEq, Prod.mk.injEq] at h
    obtain ⟨rfl, rfl⟩ := h
    have hk : (xs.take k).length = k := by simp; omega
    have e := numB_numOf (xs.take k)
    rw [hk] at e
    refine ⟨by rw [e, List.take_append_drop], ?_⟩
    have := numOf_lt (xs.take k)
    rwa [hk] at this
  · rw [if_neg hl] at h; cases h
theorem said_put (n : Nat) (r : List UInt8) (h : n < 4294967296) : said (numB n 4 ++ r) = n := by
  unfold said
  rw [List.take_left' (numB_len n 4), numOf_numB, Nat.mod_eq_of_lt (by simpa using h)]
theorem rTxt_put (most : Nat) (t r : List UInt8) (h : t.length ≤ most) (h2 : t.length < 4294967296) : rTxt most (numB t.length 4 ++ t ++ r) = some (t, r) := by
  unfold rTxt
  have hl := numB_len t.length 4
  rw [List.append_assoc, said_put _ _ h2, if_pos ⟨by simp [hl], h⟩, List.drop_left' hl, List.take_left' rfl]
  have e : (numB t.length 4 ++ (t ++ r)).drop (4 + t.length) = r := by
    rw [← List.append_assoc, List.drop_left' (by simp [hl])]
  rw [e]
theorem rTxt_get {most : Nat} {xs t r : List UInt8} (h : rTxt most xs = some (t, r)) : xs = numB t.length 4 ++ t ++ r ∧ t.length ≤ most := by
  unfold rTxt at h
  by_cases hl : 4 + said xs ≤ xs.length ∧ said xs ≤ most
  · rw [if_pos hl] at h
    simp only [Option.some.injEq, Prod.mk.injEq] at h
    obtain ⟨rfl, rfl⟩ := h
    have hk : (xs.take 4).length = 4 := by simp; omega
    have e := numB_numOf (xs.take 4)
    rw [hk] at e
    have hlt : ((xs.drop 4).take (said xs)).length = said xs := by simp; omega
    rw [hlt]
    refine ⟨?_, hl.2⟩
    have e2 : numB (said xs) 4 = xs.take 4 := e
    rw [e2]
    conv => lhs; rw [← List.take_append_drop 4 xs, ← List.take_append_drop (said xs) (xs.drop 4), List.drop_drop]
    rw [List.append_assoc]
  · rw [if_neg hl] at h; cases h
theorem rRaw_put (k : Nat) (t r : List UInt8) (h : t.length = k) : rRaw k (t ++ r) = some (t, r) := by
  unfold rRaw
  rw [if_pos (by simp; omega), List.take_left' h, List.drop_left' h]
theorem rRaw_get {k : Nat} {xs t r : List UInt8} (h : rRaw k xs = some (t, r)) : xs = t ++ r ∧ t.length = k := by
  unfold rRaw at h
  by_cases hl : k ≤ xs.length
  · rw [if_pos hl] at h
    simp only [Option.some.injEq, Prod.mk.injEq] at h
    obtain ⟨rfl, rfl⟩ := h
    exact ⟨by rw [List.take_append_drop], by simp; omega⟩
  · rw [if_neg hl] at h; cases h

/-- What is unsealed was sealed. -/
theorem sealed_unsealed {k : UInt8} {bs : List UInt8} (h : unsealErr k bs = 0) : bs = sealed k (unsealed k bs) := by
  unfold unsealed
  rw [if_pos h]
  unfold unsealErr at h
  by_cases h1 : bs.length < 5
  · rw [if_pos h1] at h; cases h
  rw [if_neg h1] at h
  by_cases h2 : numOf (bs.drop (bs.length - 4)) ≠ (Crc.sum (bs.take (bs.length - 4))).toNat
  · rw [if_pos h2] at h; cases h
  rw [if_neg h2] at h
  by_cases h3 : bs.head? ≠ some k
  · rw [if_pos h3] at h; cases h
  have h2 : numOf (bs.drop (bs.length - 4)) = (Crc.sum (bs.take (bs.length - 4))).toNat := by simpa using h2
  have h3 : bs.head? = some k := by simpa using h3
  have hd : k :: (bs.take (bs.length - 4)).drop 1 = bs.take (bs.length - 4) := by
    cases bs with
    | nil => simp at h3
    | cons b r =>
      simp at h3; subst h3
      have e : (b :: r).length - 4 = (r.length - 4) + 1 := by simp at h1 ⊢; omega
      rw [e, List.take_succ_cons]; rfl
  have hk : (bs.drop (bs.length - 4)).length = 4 := by simp; omega
  have e := numB_numOf (bs.drop (bs.length - 4))
  rw [hk, h2] at e
  show bs = withSum (k :: (bs.take (bs.length - 4)).drop 1)
  rw [hd]
  unfold withSum
  rw [e, List.take_append_drop]
end Go.Proofs.YtmfjfahlgcdehaaDoor
