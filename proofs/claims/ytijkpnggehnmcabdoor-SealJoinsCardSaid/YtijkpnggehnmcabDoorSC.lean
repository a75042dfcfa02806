/- Turned bits, and what unsealing tells of them: lists only; a cell of a row that is set. -/
import Derived.Test.YtijkpnggehnmcabDoorSB
import Derived.Laws.OwnMore
import Derived.Lib.SmallJoins
namespace Go.Proofs.YtijkpnggehnmcabDoor
open Go.RowKit Go.Lib

theorem le_numOf (l : List UInt8) (h : l.length = 4) : Crc.le (numOf l) = l := by
  match l, h with
  | [a, b, c, d], _ =>
    have ha := a.toNat_lt; have hb := b.toNat_lt; have hc := c.toNat_lt; have hd := d.toNat_lt
    have e : numOf [a, b, c, d] = a.toNat + 256 * (b.toNat + 256 * (c.toNat + 256 * d.toNat)) := by simp [numOf]
    unfold Crc.le
    rw [e]
    congr 1
    · apply UInt8.toNat_inj.1; simp
    congr 1
    · apply UInt8.toNat_inj.1; simp; omega
    congr 1
    · apply UInt8.toNat_inj.1; simp; omega
    congr 1
    · apply UInt8.toNat_inj.1; simp; omega

/-- Whether bytes have their sum behind them, by all of them at once. -/
theorem sum_iff (xs : List UInt8) (h : 4 ≤ xs.length) : numOf (xs.drop (xs.length - 4)) = (Crc.sum (xs.take (xs.length - 4))).toNat ↔ Crc.feed (BitVec.allOnes 32) xs = Crc.R := by
  have hl : (xs.drop (xs.length - 4)).length = 4 := by simp; omega
  have hlt : numOf (xs.drop (xs.length - 4)) < 2 ^ 32 := by
    have := numOf_lt (xs.drop (xs.length - 4)); rw [hl] at this; omega
  have e : xs.take (xs.length - 4) ++ Crc.le (numOf (xs.drop (xs.length - 4))) = xs := by rw [le_numOf _ hl, List.take_append_drop]
  rw [← Crc.feed_sum _ _ hlt, e]

theorem sealed_good (k : UInt8) (ys : List UInt8) : Crc.feed (BitVec.allOnes 32) (sealed k ys) = Crc.R := by
  refine (sum_iff _ (by rw [sealed_len]; omega)).1 ?_
  rw [(sealed_cut k ys).1, (sealed_cut k ys).2, sealed_num]

theorem unseal_bad (k : UInt8) (xs : List UInt8) (h5 : 5 ≤ xs.length) (h : Crc.feed (BitVec.allOnes 32) xs ≠ Crc.R) : unsealErr k xs = 36 ∧ unsealed k xs = [] := by
  have he : unsealErr k xs = 36 := by
    unfold unsealErr
    rw [if_neg (by omega), if_pos (fun hh => h ((sum_iff xs (by omega)).1 hh))]
  exact ⟨he, by unfold unsealed; rw [if_neg (by rw [he]; decide)]⟩

theorem flip_bad (l : List UInt8) (p : Nat) (hp : p < 8 * l.length) (hl : Crc.feed (BitVec.allOnes 32) l = Crc.R) : Crc.feed (BitVec.allOnes 32) (Crc.flip l p) ≠ Crc.R := by
  rw [Crc.feed_flip l p _ hp, hl]
  intro h
  have h2 : Crc.Tn (8 * l.length - p) 1#32 = 0#32 := by
    have : Crc.R ^^^ (Crc.R ^^^ Crc.Tn (8 * l.length - p) 1#32) = Crc.R ^^^ Crc.R := by rw [h]
    rw [← BitVec.xor_assoc] at this
    simpa using this
  exact absurd (Crc.Tn_inj0 _ _ h2) (by decide)

/-- A cell of a row of bytes is set. -/
theorem own_set {w : World} {base g n c : Nat} {xs : List UInt8} (h : w.ownsRow base 5 1 (.slice (some ⟨g, 0, none⟩) n c) n (xs.map B)) (i : Nat) (b : UInt8) :
    (w.setCell ⟨g, i, none⟩ (B b)).ownsRow base 5 1 (.slice (some ⟨g, 0, none⟩) n c) n ((xs.set i b).map B) := by
  have := (h.stored i (B b)).1
  rwa [← List.map_set] at this

theorem xor_u8 (a b : UInt8) : bits .xor .u8 (a.toNat : Int) (b.toNat : Int) = (((a ^^^ b).toNat : Nat) : Int) := by
  have ha := a.toNat_lt
  have hb := b.toNat_lt
  have key : (BitVec.ofInt 8 (a.toNat : Int) ^^^ BitVec.ofInt 8 (b.toNat : Int)).toNat = a.toNat ^^^ b.toNat := by
    rw [BitVec.toNat_xor, BitVec.toNat_ofInt, BitVec.toNat_ofInt]
    have h1 : ((a.toNat : Int) % ((2 ^ 8 : Nat) : Int)).toNat = a.toNat := by omega
    have h2 : ((b.toNat : Int) % ((2 ^ 8 : Nat) : Int)).toNat = b.toNat := by omega
    rw [h1, h2]
  have hx : a.toNat ^^^ b.toNat < 2 ^ 8 := Nat.xor_lt_two_pow (by omega) (by omega)
  show IntKind.u8.wrap ((BitVec.ofInt 8 (a.toNat : Int) ^^^ BitVec.ofInt 8 (b.toNat : Int)).toNat : Nat) = _
  rw [key, UInt8.toNat_xor, IntKind.wrap_u8]
  omega

theorem flip_set (l : List UInt8) (p : Nat) (b : UInt8) (h : l[p / 8]? = some b) : l.set (p / 8) (b ^^^ UInt8.ofNat (2 ^ (p % 8))) = Crc.flip l p := by
  unfold Crc.flip
  apply List.ext_getElem?
  intro i
  rw [List.getElem?_set, List.getElem?_modify]
  have hlt : p / 8 < l.length := by
    rcases Nat.lt_or_ge (p / 8) l.length with h' | h'
    · exact h'
    · rw [List.getElem?_eq_none h'] at h; simp at h
  by_cases hi : p / 8 = i
  · subst hi
    rw [List.getElem?_eq_getElem hlt] at h
    simp at h
    simp [hlt, h]
  · simp [hi]
end Go.Proofs.YtijkpnggehnmcabDoor
