/- A chain with a bit turned, as lists. -/
import Derived.Test.YtijkpnggehnmcabDoorSP
namespace Go.Proofs.YtijkpnggehnmcabDoor
open Go.RowKit Go.Lib

theorem row1_some {xs r : List UInt8} (h : row1 xs = some r) : 8 + said xs ≤ xs.length := by
  rcases Nat.lt_or_ge xs.length (8 + said xs) with hl | hl
  · rw [row1_err xs (by omega)] at h; simp at h
  · exact hl

theorem Unch.total : ∀ (k : Nat) (xs : List UInt8), xs.length ≤ k → ∃ rows rest, Unch xs rows rest := by
  intro k
  induction k with
  | zero => intro xs h; exact ⟨[], xs, Unch.stop xs (row1_short xs (by omega))⟩
  | succ k ih =>
    intro xs h
    cases hr : row1 xs with
    | none => exact ⟨[], xs, Unch.stop xs hr⟩
    | some r =>
      have h8 := row1_some hr
      obtain ⟨rows, rest, hu⟩ := ih (xs.drop (8 + said xs)) (by simp; omega)
      exact ⟨r :: rows, rest, Unch.more xs r rows rest hr hu⟩

theorem flip_mid (l m t : List UInt8) (p : Nat) (h1 : 8 * l.length ≤ p) (h2 : p < 8 * (l.length + m.length)) : Crc.flip (l ++ m ++ t) p = l ++ Crc.flip m (p - 8 * l.length) ++ t := by
  unfold Crc.flip
  have e1 : (p - 8 * l.length) % 8 = p % 8 := by omega
  have e2 : (p - 8 * l.length) / 8 = p / 8 - l.length := by omega
  rw [e1, e2]
  apply List.ext_getElem?
  intro i
  rw [List.getElem?_modify]
  rcases Nat.lt_or_ge i l.length with hi | hi
  · rw [List.append_assoc, List.append_assoc, List.getElem?_append_left hi, List.getElem?_append_left hi]
    have : ¬ p / 8 = i := by omega
    simp [this]
  · rw [List.append_assoc, List.append_assoc, List.getElem?_append_right hi, List.getElem?_append_right hi]
    rcases Nat.lt_or_ge (i - l.length) m.length with hj | hj
    · rw [List.getElem?_append_left hj, List.getElem?_append_left (by simpa using hj), List.getElem?_modify]
      by_cases hp : p / 8 = i
      · subst hp; simp
      · have : ¬ p / 8 - l.length = i - l.length := by omega
        simp [hp, this]
    · rw [List.getElem?_append_right hj, List.getElem?_append_right (by simpa using hj)]
      have : ¬ p / 8 = i := by omega
      simp [this]

theorem linkB_good (r : List UInt8) : Crc.feed (BitVec.allOnes 32) (linkB r) = Crc.R := by
  unfold linkB withSum
  rw [numB_le (Crc.sum (numB r.length 4 ++ r)).toNat]
  exact (Crc.feed_sum _ _ (Crc.sum (numB r.length 4 ++ r)).isLt).2 rfl

/-- A row of which a bit behind its length is turned is not whole. -/
theorem row1_turned (r tl : List UInt8) (p : Nat) (hr : r.length < 4294967296) (h1 : 32 ≤ p) (h2 : p < 8 * (linkB r).length) : row1 (Crc.flip (linkB r) p ++ tl) = none := by
  have hl := linkB_len r
  have hfl : (Crc.flip (linkB r) p).length = r.length + 8 := by rw [Crc.flip_len, hl]
  have h4 : (Crc.flip (linkB r) p ++ tl).take 4 = (linkB r ++ tl).take 4 := by
    rw [List.take_append_of_le_length (by omega), List.take_append_of_le_length (by omega)]
    apply List.ext_getElem?
    intro i
    rw [List.getElem?_take, List.getElem?_take]
    by_cases hi : i < 4
    · rw [if_pos hi, if_pos hi]
      unfold Crc.flip
      rw [List.getElem?_modify]
      have : ¬ p / 8 = i := by omega
      simp [this]
    · rw [if_neg hi, if_neg hi]
  have hs : said (Crc.flip (linkB r) p ++ tl) = r.length := by
    have h3 := (row1_link r tl hr).2.2
    unfold said at h3 ⊢
    rw [h4]; exact h3
  have hbad := flip_bad (linkB r) p h2 (linkB_good r)
  unfold row1
  rw [hs]
  refine if_neg (fun hh => hbad ((sum_iff (Crc.flip (linkB r) p) (by omega)).1 ?_))
  have e : (Crc.flip (linkB r) p).length - 4 = 4 + r.length := by omega
  rw [e]
  have hd : ((Crc.flip (linkB r) p ++ tl).drop (4 + r.length)).take 4 = (Crc.flip (linkB r) p).drop (4 + r.length) := by
    rw [List.drop_append_of_le_length (by omega)]
    exact List.take_left' (by simp; omega)
  have ht : (Crc.flip (linkB r) p ++ tl).take (4 + r.length) = (Crc.flip (linkB r) p).take (4 + r.length) := List.take_append_of_le_length (by omega)
  rw [hd, ht] at hh
  exact hh.2

/-- A chain of which a bit is turned in row n: its rows ahead are had; behind its length, no more. -/
theorem unch_turned (rows : List (List UInt8)) (p n : Nat) (hl : ∀ r ∈ rows, r.length < 4294967296) (r : List UInt8) (hn : rows[n]? = some r) (h1 : 8 * (chainB (rows.take n)).length ≤ p) (h2 : p < 8 * ((chainB (rows.take n)).length + 8 + r.length)) :
    (∃ rows2 rest, Unch (Crc.flip (chainB rows) p) (rows.take n ++ rows2) rest) ∧
    (8 * ((chainB (rows.take n)).length + 4) ≤ p → ∃ rest, Unch (Crc.flip (chainB rows) p) (rows.take n) rest ∧ rest.length = (chainB rows).length - (chainB (rows.take n)).length) := by
  have hlt : n < rows.length := by
    rcases Nat.lt_or_ge n rows.length with h | h
    · exact h
    · rw [List.getElem?_eq_none h] at hn; simp at hn
  have hrn : rows[n] = r := by rw [List.getElem?_eq_getElem hlt] at hn; simpa using hn
  have e0 : chainB rows = chainB (rows.take n) ++ linkB r ++ chainB (rows.drop (n + 1)) := by
    conv => lhs; rw [← List.take_append_drop n rows]
    rw [chainB_append, List.append_assoc]
    congr 1
    unfold chainB
    rw [List.drop_eq_getElem_cons hlt, List.flatMap_cons, hrn]
  have hll := linkB_len r
  have hf : Crc.flip (chainB rows) p = chainB (rows.take n) ++ (Crc.flip (linkB r) (p - 8 * (chainB (rows.take n)).length) ++ chainB (rows.drop (n + 1))) := by
    rw [e0, flip_mid _ _ _ p h1 (by rw [hll]; omega), List.append_assoc]
  have hlt' : ∀ r ∈ rows.take n, r.length < 4294967296 := fun r hr => hl r (List.mem_of_mem_take hr)
  refine ⟨?_, fun h4 => ?_⟩
  · obtain ⟨rows2, rest, hu⟩ := Unch.total _ (Crc.flip (linkB r) (p - 8 * (chainB (rows.take n)).length) ++ chainB (rows.drop (n + 1))) (Nat.le_refl _)
    exact ⟨rows2, rest, by rw [hf]; exact unch_chain _ _ _ _ hlt' hu⟩
  · have hstop := row1_turned r (chainB (rows.drop (n + 1))) (p - 8 * (chainB (rows.take n)).length) (hl r (hrn ▸ List.getElem_mem hlt)) (by omega) (by rw [hll]; omega)
    refine ⟨Crc.flip (linkB r) (p - 8 * (chainB (rows.take n)).length) ++ chainB (rows.drop (n + 1)), ?_, ?_⟩
    · rw [hf]
      have := unch_chain (rows.take n) _ [] _ hlt' (Unch.stop _ hstop)
      rwa [List.append_nil] at this
    · rw [e0]
      simp only [List.length_append, Crc.flip_len]
      omega
end Go.Proofs.YtijkpnggehnmcabDoor
