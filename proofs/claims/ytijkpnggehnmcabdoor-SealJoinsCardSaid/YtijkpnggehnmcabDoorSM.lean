/- coldstoreref04.Sum, Seal, Unseal: the document's answers. -/
import Derived.Test.YtijkpnggehnmcabDoorSK
namespace Go.Proofs.YtijkpnggehnmcabDoor
open Go.RowKit Go.Lib

/-- Bit i of bytes, the lowest of each first. -/
def bitOf (ys : List UInt8) (i : Nat) : Bool := (ys.getD (i / 8) 0).toNat.testBit (i % 8)
def b1 (b : Bool) : Crc.W32 := if b then 1#32 else 0#32
/-- The document's state behind i bits. -/
def bst (ys : List UInt8) : Nat → Crc.W32
  | 0 => BitVec.allOnes 32
  | i + 1 => Crc.T (bst ys i ^^^ b1 (bitOf ys i))

/-- Eight bits, one by one. -/
def eight (s : Crc.W32) (c : UInt8) : Crc.W32 :=
  Crc.T (Crc.T (Crc.T (Crc.T (Crc.T (Crc.T (Crc.T (Crc.T (s ^^^ b1 (c.toNat.testBit 0)) ^^^ b1 (c.toNat.testBit 1)) ^^^ b1 (c.toNat.testBit 2)) ^^^ b1 (c.toNat.testBit 3)) ^^^ b1 (c.toNat.testBit 4)) ^^^ b1 (c.toNat.testBit 5)) ^^^ b1 (c.toNat.testBit 6)) ^^^ b1 (c.toNat.testBit 7))
theorem eight_zero (c : UInt8) : eight 0#32 c = Crc.Tn 8 (BitVec.ofNat 32 c.toNat) := by
  have : ∀ k : Fin 256, eight 0#32 (UInt8.ofNat k.val) = Crc.Tn 8 (BitVec.ofNat 32 (UInt8.ofNat k.val).toNat) := by decide +kernel
  have h := this ⟨c.toNat, c.toNat_lt⟩
  simpa using h
theorem eight_put (s : Crc.W32) (c : UInt8) : eight s c = Crc.put s c := by
  have h1 : eight s c = Crc.Tn 8 s ^^^ eight 0#32 c := by
    unfold eight
    simp only [Crc.T_xor, Crc.Tn, BitVec.xor_assoc, Crc.T_zero, BitVec.zero_xor]
  rw [h1, eight_zero]
  unfold Crc.put
  rw [Crc.Tn_xor]
theorem bst_feed (ys : List UInt8) (k : Nat) (h : k ≤ ys.length) : bst ys (8 * k) = Crc.feed (BitVec.allOnes 32) (ys.take k) := by
  induction k with
  | zero => rfl
  | succ k ih =>
    have hb : ∀ j, j < 8 → bitOf ys (8 * k + j) = (ys[k]'(by omega)).toNat.testBit j := by
      intro j hj
      unfold bitOf
      rw [show (8 * k + j) / 8 = k by omega, show (8 * k + j) % 8 = j by omega]
      simp [List.getD, show k < ys.length by omega]
    rw [List.take_succ_eq_append_getElem (by omega), Crc.feed_append, Crc.feed_cons, Crc.feed_nil, ← ih (by omega), ← eight_put]
    show bst ys (8 * k + 8) = _
    unfold eight
    simp only [bst]
    have h0 := hb 0 (by omega)
    rw [Nat.add_zero] at h0
    rw [h0, hb 1 (by omega), hb 2 (by omega), hb 3 (by omega), hb 4 (by omega), hb 5 (by omega), hb 6 (by omega), hb 7 (by omega)]

theorem bst_all (ys : List UInt8) : ~~~ bst ys (8 * ys.length) = Crc.sum ys := by
  rw [bst_feed ys ys.length (Nat.le_refl _), List.take_length]
  rfl

theorem bst_step (s : Crc.W32) (b : Bool) (cb : Nat) (hb : b = decide (cb % 2 = 1)) :
    ((s.toNat + cb) % 2 = 1 → bits .xor .u32 ((s.toNat : Int) / 2) 2197175160 = (((Crc.T (s ^^^ b1 b)).toNat : Nat) : Int)) ∧ ((s.toNat + cb) % 2 = 0 → (s.toNat : Int) / 2 = (((Crc.T (s ^^^ b1 b)).toNat : Nat) : Int)) := by
  have hs := s.isLt
  have hl : s.getLsbD 0 = decide (s.toNat % 2 = 1) := by
    rw [BitVec.getLsbD, Nat.testBit_zero]
  have hT : Crc.T (s ^^^ b1 b) = (s >>> 1) ^^^ (if (s.getLsbD 0 ^^ b) then Crc.P else 0#32) := Crc.T_bit s b
  have hP : Crc.P.toNat = 2197175160 := by decide
  have hsh : (s >>> 1).toNat = s.toNat / 2 := by rw [BitVec.toNat_ushiftRight, Nat.shiftRight_eq_div_pow]
  refine ⟨fun h => ?_, fun h => ?_⟩
  · have hx : (s.getLsbD 0 ^^ b) = true := by
      rw [hl, hb]
      by_cases h1 : s.toNat % 2 = 1 <;> by_cases h2 : cb % 2 = 1 <;> simp [h1, h2] <;> omega
    rw [hT, hx, if_pos rfl, BitVec.toNat_xor, hsh, hP, show ((s.toNat : Int) / 2) = ((s.toNat / 2 : Nat) : Int) by omega]
    exact xor_u32 (s.toNat / 2) 2197175160 (by omega) (by omega)
  · have hx : (s.getLsbD 0 ^^ b) = false := by
      rw [hl, hb]
      by_cases h1 : s.toNat % 2 = 1 <;> by_cases h2 : cb % 2 = 1 <;> simp [h1, h2] <;> omega
    rw [hT, hx, BitVec.toNat_xor, hsh]
    simp

set_option maxHeartbeats 2000000 in
theorem refsum_any (sv : Value) (ys : List UInt8) (w : World) (h : SrcB w sv ys) (hlen : ys.length ≤ 1000) :
    Calls Tryd.prog 14 #[sv] w fun e w' => e = .returned (.int .u32 (((Crc.sum ys).toNat : Nat) : Int)) ∧ w = w' := by
  obtain ⟨a, c, rfl⟩ := h.size
  have Hs := hid h
  clear h
  go_enter Tryd.func14, Tryd.ntmps14
  go_wp2_with fail
  go_loop [3, 4] (fun n s => ∃ i : Nat, i ≤ 8 * ys.length ∧ s = .int .i64 i ∧ n = .int .u32 (((bst ys i).toNat : Nat) : Int)) (fun _ s => 8 * ys.length - (intOf s).toNat)
  case atStart => exact ⟨0, Nat.zero_le _, rfl, rfl⟩
  case round =>
    obtain ⟨i, hi, rfl, rfl⟩ := hrel
    by_cases hlt : i < 8 * ys.length
    · rcases Hs.out with ⟨h1, _⟩ | ⟨ad, c', h1, hc⟩
      · simp at h1; omega
      · simp at h1
        obtain ⟨rfl, rfl⟩ := h1
        have hk : i / 8 < ys.length := by omega
        have gx : w.cell? (ad.add (i / 8)) = some (.int .u8 (ys[i / 8].toNat : Int)) := hc (i / 8) (B ys[i / 8]) (by simp [hk])
        have hcl := ys[i / 8].toNat_lt
        have hsl := (bst ys i).isLt
        have hbit : bitOf ys i = decide (ys[i / 8].toNat / 2 ^ (i % 8) % 2 = 1) := by
          unfold bitOf
          rw [show ys.getD (i / 8) 0 = ys[i / 8] by simp [List.getD, hk], Nat.testBit_eq_decide_div_mod_eq]
        have hstep := bst_step (bst ys i) (bitOf ys i) (ys[i / 8].toNat / 2 ^ (i % 8)) hbit
        have hst1 := hid (show bst ys (i + 1) = Crc.T (bst ys i ^^^ b1 (bitOf ys i)) from rfl)
        clear hc hbit
        generalize ys[i / 8].toNat = cc at *
        rw [← hst1.out] at hstep
        generalize (bst ys i).toNat = st at *
        have hcast : ((cc : Int) / 2 ^ (i % 8)) = ((cc / 2 ^ (i % 8) : Nat) : Int) := by push_cast; rfl
        have hkI : (i : Int) / 8 < (ys.length : Int) := by omega
        by_cases hodd : (st + cc / 2 ^ (i % 8)) % 2 = 1
        · have ht1 : (((st : Int) + (cc : Int) / 2 ^ (i % 8)) % 2 == 1) = true := by
            rw [hcast]; simp only [beq_iff_eq]; omega
          have hfin := hid (hstep.1 hodd)
          clear hstep hodd hcast
          go_wp2
          go_round
          case rel => exact ⟨i + 1, by omega, by go_num, by rw [hfin.out]⟩
          case measure => simp [intOf]; omega
        · have ht1 : (((st : Int) + (cc : Int) / 2 ^ (i % 8)) % 2 == 1) = false := by
            rw [hcast]; simp only [beq_eq_false_iff_ne]; omega
          have hfin := hid (hstep.2 (by omega))
          clear hstep hodd hcast
          go_wp2
          go_round
          case rel => exact ⟨i + 1, by omega, by go_num, by rw [hfin.out]⟩
          case measure => simp [intOf]; omega
    · have hin : i = 8 * ys.length := by omega
      subst hin
      have hn := bst_all ys
      have hsl := (bst ys (8 * ys.length)).isLt
      have hfin := hid (show (4294967295 : Int) - ((bst ys (8 * ys.length)).toNat : Int) = (((Crc.sum ys).toNat : Nat) : Int) by
        rw [← hn, BitVec.toNat_not]
        omega)
      clear hn
      generalize (bst ys (8 * ys.length)).toNat = st at *
      go_wp2
      go_ret
      exact ⟨by rw [hfin.out]; rfl, rfl⟩
end Go.Proofs.YtijkpnggehnmcabDoor
