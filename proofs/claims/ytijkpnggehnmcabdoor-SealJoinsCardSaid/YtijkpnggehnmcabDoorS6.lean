/- Chains as lists: what is whole of them. -/
import Derived.Test.YtijkpnggehnmcabDoorS5
namespace Go.Proofs.YtijkpnggehnmcabDoor
open Go.RowKit Go.Lib

/-- The row that stands whole ahead, if one does. -/
def row1 (xs : List UInt8) : Option (List UInt8) :=
  if 8 + said xs ≤ xs.length ∧ numOf ((xs.drop (4 + said xs)).take 4) = (Crc.sum (xs.take (4 + said xs))).toNat then some ((xs.drop 4).take (said xs)) else none

/-- Of bytes the rows that are whole, and the rest. -/
inductive Unch : List UInt8 → List (List UInt8) → List UInt8 → Prop
  | stop (xs) : row1 xs = none → Unch xs [] xs
  | more (xs r rows rest) : row1 xs = some r → Unch (xs.drop (8 + said xs)) rows rest → Unch xs (r :: rows) rest

theorem Unch.det {xs : List UInt8} {r1 r2 : List (List UInt8)} {e1 e2 : List UInt8} (h1 : Unch xs r1 e1) (h2 : Unch xs r2 e2) : r1 = r2 ∧ e1 = e2 := by
  induction h1 generalizing r2 with
  | stop xs h =>
    cases h2 with
    | stop _ _ => exact ⟨rfl, rfl⟩
    | more _ r rows _ h' _ => rw [h] at h'; cases h'
  | more xs r rows rest h _ ih =>
    cases h2 with
    | stop _ h' => rw [h] at h'; cases h'
    | more _ r' rows' _ h' h2' =>
      rw [h] at h'
      cases h'
      obtain ⟨h3, h4⟩ := ih h2'
      exact ⟨by rw [h3], h4⟩

theorem said_front' (bs r : List UInt8) (hl : bs.length < 4294967296) : said (numB bs.length 4 ++ bs ++ r) = bs.length := by
  unfold said
  rw [List.append_assoc, List.take_append_of_le_length (by rw [numB_len]; omega), List.take_of_length_le (by rw [numB_len]; omega), numOf_numB]
  exact Nat.mod_eq_of_lt (by omega)

theorem row1_link (r tl : List UInt8) (hl : r.length < 4294967296) : row1 (linkB r ++ tl) = some r ∧ (linkB r ++ tl).drop (8 + said (linkB r ++ tl)) = tl ∧ said (linkB r ++ tl) = r.length := by
  have hs : said (linkB r ++ tl) = r.length := by
    unfold linkB withSum
    rw [List.append_assoc]
    exact said_front' r _ hl
  have hlen : (linkB r ++ tl).length = 8 + r.length + tl.length := by rw [List.length_append, linkB_len]; omega
  have e1 : (linkB r ++ tl).take (4 + r.length) = numB r.length 4 ++ r := by
    unfold linkB withSum
    rw [List.append_assoc]
    exact List.take_left' (by simp [numB_len])
  have e2 : (linkB r ++ tl).drop (4 + r.length) = numB (Crc.sum (numB r.length 4 ++ r)).toNat 4 ++ tl := by
    unfold linkB withSum
    rw [List.append_assoc]
    exact List.drop_left' (by simp [numB_len])
  have e3 : ((linkB r ++ tl).drop 4).take r.length = r := by
    unfold linkB withSum
    rw [List.append_assoc, List.append_assoc, List.drop_left' (numB_len _ _)]
    exact List.take_left' rfl
  refine ⟨?_, ?_, hs⟩
  · unfold row1
    rw [hs, hlen, e1, e2, List.take_left' (numB_len _ _), numOf_numB, if_pos ⟨by omega, Nat.mod_eq_of_lt (Crc.sum (numB r.length 4 ++ r)).isLt⟩, e3]
  · rw [hs]
    exact List.drop_left' (by rw [linkB_len]; omega)

/-- Chained rows are had, ahead of whatever stands behind them. -/
theorem unch_chain (rows : List (List UInt8)) (tl : List UInt8) (r2 : List (List UInt8)) (e : List UInt8) (hl : ∀ r ∈ rows, r.length < 4294967296) (h : Unch tl r2 e) : Unch (chainB rows ++ tl) (rows ++ r2) e := by
  induction rows with
  | nil => simpa [chainB] using h
  | cons r rows ih =>
    have e0 : chainB (r :: rows) ++ tl = linkB r ++ (chainB rows ++ tl) := by simp [chainB]
    rw [e0]
    obtain ⟨h1, h2, _⟩ := row1_link r (chainB rows ++ tl) (hl r (by simp))
    refine Unch.more _ r (rows ++ r2) e h1 ?_
    rw [h2]
    exact ih (fun r hr => hl r (by simp [hr]))
theorem row1_short (xs : List UInt8) (h : xs.length < 8) : row1 xs = none := by
  unfold row1
  rw [if_neg (fun hh => by omega)]
end Go.Proofs.YtijkpnggehnmcabDoor
