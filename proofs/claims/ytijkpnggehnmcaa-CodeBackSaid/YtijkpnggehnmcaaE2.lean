/- What a written field reads as, whole or cut: lists only. For CodeBack. -/
import Derived.Test.YtijkpnggehnmcaaE1
import Derived.Test.YtijkpnggehnmcaaD1
namespace Go.Proofs.Ytijkpnggehnmcaa
open Go.RowKit Go.Lib

theorem said_front (bs r : List UInt8) (hl : bs.length ≤ 60) : said (numB bs.length 4 ++ bs ++ r) = bs.length := by
  unfold said
  rw [List.append_assoc, List.take_append_of_le_length (by rw [numB_len]; omega), List.take_of_length_le (by rw [numB_len]; omega), numOf_numB]
  exact Nat.mod_eq_of_lt (by omega)

theorem field_whole (bs r : List UInt8) (hl : bs.length ≤ 60) : fieldErr (numB bs.length 4 ++ bs ++ r) 60 = 0 ∧ 4 + said (numB bs.length 4 ++ bs ++ r) = 4 + bs.length ∧
    ((numB bs.length 4 ++ bs ++ r).drop 4).take (said (numB bs.length 4 ++ bs ++ r)) = bs ∧ (numB bs.length 4 ++ bs ++ r).drop (4 + bs.length) = r := by
  have hs := said_front bs r hl
  have hlen : (numB bs.length 4 ++ bs ++ r).length = 4 + bs.length + r.length := by simp [numB_len]; omega
  refine ⟨?_, by rw [hs], ?_, ?_⟩
  · unfold fieldErr
    rw [hs, hlen, if_neg (by omega), if_neg (by omega), if_neg (by omega)]
  · rw [hs, List.append_assoc, List.drop_left' (numB_len _ _)]
    exact List.take_left' rfl
  · exact List.drop_left' (by simp [numB_len])

theorem field_cut (bs : List UInt8) (hl : bs.length ≤ 60) (m : Nat) (hm : m < 4 + bs.length) : fieldErr ((numB bs.length 4 ++ bs).take m) 60 = 20 := by
  have hlen : ((numB bs.length 4 ++ bs).take m).length = m := by simp [numB_len]; omega
  unfold fieldErr
  rw [hlen]
  by_cases h4 : m < 4
  · rw [if_pos h4]
  · have hs : said ((numB bs.length 4 ++ bs).take m) = bs.length := by
      unfold said
      rw [List.take_take, Nat.min_eq_left (by omega), List.take_append_of_le_length (by rw [numB_len]; omega), List.take_of_length_le (by rw [numB_len]; omega), numOf_numB]
      exact Nat.mod_eq_of_lt (by omega)
    rw [hs, if_neg h4, if_neg (by omega), if_pos hm]

/-- Of m bytes of fields that were written, and a tail: the first field is there whole, or it is cut. -/
theorem take_out (o tl : List UInt8) (m : Nat) : (o ++ tl).take m = if o.length ≤ m then o ++ tl.take (m - o.length) else o.take m := by
  rw [List.take_append]
  split
  · rename_i h
    rw [List.take_of_length_le h]
  · rename_i h
    rw [show m - o.length = 0 by omega]
    simp

theorem outs_drop (ops : List OpR) (i : Nat) (h : i < ops.length) : outs (ops.drop i) = ops[i].out ++ outs (ops.drop (i + 1)) := by
  unfold outs
  rw [List.drop_eq_getElem_cons h, List.flatMap_cons]
theorem outs_split (ops : List OpR) (i : Nat) : (outs ops).length = (outs (ops.take i)).length + (outs (ops.drop i)).length := by
  conv => lhs; rw [← List.take_append_drop i ops]
  unfold outs
  rw [List.flatMap_append, List.length_append]
end Go.Proofs.Ytijkpnggehnmcaa
