/- What is sealed, unsealed: lists only; fresh rows. -/
import Derived.Test.YtijkpnggehnmcabDoorS9
namespace Go.Proofs.YtijkpnggehnmcabDoor
open Go.RowKit Go.Lib

theorem sealed_len (k : UInt8) (ys : List UInt8) : (sealed k ys).length = ys.length + 5 := by simp [sealed, withSum_len]
theorem sealed_cut (k : UInt8) (ys : List UInt8) : (sealed k ys).take ((sealed k ys).length - 4) = k :: ys ∧ (sealed k ys).drop ((sealed k ys).length - 4) = numB (Crc.sum (k :: ys)).toNat 4 := by
  have e : (sealed k ys).length - 4 = (k :: ys).length := by rw [sealed_len]; simp
  rw [e]
  exact ⟨List.take_left' rfl, List.drop_left' rfl⟩
theorem sealed_num (k : UInt8) (ys : List UInt8) : numOf (numB (Crc.sum (k :: ys)).toNat 4) = (Crc.sum (k :: ys)).toNat := by
  rw [numOf_numB]
  exact Nat.mod_eq_of_lt (Crc.sum (k :: ys)).isLt
theorem sealed_head (k : UInt8) (ys : List UInt8) : (sealed k ys).head? = some k := rfl

theorem unseal_own (k : UInt8) (ys : List UInt8) : unsealErr k (sealed k ys) = 0 ∧ unsealed k (sealed k ys) = ys := by
  have h := sealed_cut k ys
  have he : unsealErr k (sealed k ys) = 0 := by
    unfold unsealErr
    rw [h.1, h.2, sealed_num, sealed_head, if_neg (by rw [sealed_len]; omega), if_neg (by simp), if_neg (by simp)]
  refine ⟨he, ?_⟩
  unfold unsealed
  rw [if_pos he, h.1]
  rfl
theorem unseal_other (k o : UInt8) (ys : List UInt8) (hko : k ≠ o) : unsealErr o (sealed k ys) = 21 ∧ unsealed o (sealed k ys) = [] := by
  have h := sealed_cut k ys
  have he : unsealErr o (sealed k ys) = 21 := by
    unfold unsealErr
    rw [h.1, h.2, sealed_num, sealed_head, if_neg (by rw [sealed_len]; omega), if_neg (by simp), if_pos (by simpa using hko)]
  refine ⟨he, ?_⟩
  unfold unsealed
  rw [if_neg (by rw [he]; decide)]
theorem unseal_short (k : UInt8) (xs : List UInt8) (h : xs.length < 5) : unsealErr k xs = 20 ∧ unsealed k xs = [] := by
  have he : unsealErr k xs = 20 := by unfold unsealErr; rw [if_pos h]
  exact ⟨he, by unfold unsealed; rw [if_neg (by rw [he]; decide)]⟩

/-- Bytes in a block that was just made. -/
theorem src_alloc (w : World) (bs : List UInt8) (c : Nat) (f : Nat × Nat) : SrcB (w.alloc (.cells (bs.map B).toArray 5 f)) (.slice (some ⟨w.heap.size, 0, none⟩) bs.length c) bs := by
  refine Or.inr ⟨_, c, rfl, fun j u hj => ?_⟩
  have h := heap_alloc_new' w (.cells (bs.map B).toArray 5 f)
  have e : (⟨w.heap.size, 0, none⟩ : Addr).add j = ⟨w.heap.size, j, none⟩ := by unfold Addr.add; split <;> simp_all
  rw [e]
  unfold World.cell?
  rw [h]
  simpa using hj
theorem bys_alloc (w : World) (bs : List UInt8) (c : Nat) (f : Nat × Nat) : Bys (w.alloc (.cells (bs.map B).toArray 5 f)) (some ⟨w.heap.size, 0, none⟩) c bs := ⟨src_alloc w bs c f, fun x hx => by simp at hx; subst hx; rfl⟩

theorem bsl_of_row {W : World} {base : Nat} {a : Option Addr} {c : Nat} {xs : List UInt8} (ho : W.ownsRow base 5 1 (.slice a xs.length c) xs.length (xs.map B)) : BSl W a c xs := by
  have hs := (bys_of_row ho).1
  rcases ho.2 with ⟨h1, h2⟩ | ⟨g, cap, cur, hv, hg, hh, hc, hm, hcs, ht⟩
  · simp at h1
    obtain ⟨rfl, h1, rfl⟩ := h1
    exact ⟨hs, by omega, by unfold maxLen; omega, fun _ => rfl⟩
  · simp at hv
    obtain ⟨rfl, rfl⟩ := hv
    exact ⟨hs, hc, hm, fun h => by simp at h⟩
end Go.Proofs.YtijkpnggehnmcabDoor
