/- code.Reader at any bytes: Num, Text, Raw. For CodeBack and CodeReads. -/
import Derived.Test.YtignphegdigalaaC8
import Derived.Test.YtignphegdigalaaC4
namespace Go.Proofs.Ytignphegdigalaa
open Go.RowKit Go.Lib

theorem rnum_any (r : Nat) (a : Option Addr) (c : Nat) (xs : List UInt8) (size : Int) (w : World) (h : Rd w r a c xs) :
    Calls Try.prog 35 #[.pointer (some ⟨r, 0, none⟩), .int .i64 size] w fun e w' =>
      (sz size ≤ xs.length ∧ e = .returned (.int .u64 ((numOf (xs.take (sz size)) : Nat) : Int)) ∧ nextW w r a c xs (sz size) = w') ∨ (xs.length < sz size ∧ Thrown 29 (.int .i64 20) e ∧ w = w') := by
  rcases Nat.lt_or_ge xs.length (sz size) with hlt | hle
  · exact (rnum_short r a c xs size hlt w h).mono fun e w' hx => Or.inr ⟨hlt, hx.1, hx.2⟩
  · exact (rnum_ok r a c xs size hle w h).mono fun e w' hx => Or.inl ⟨hle, hx.1, hx.2⟩

theorem raw_any (r : Nat) (a : Option Addr) (c : Nat) (xs : List UInt8) (n : Int) (w : World) (h : Rd w r a c xs) :
    Calls Try.prog 39 #[.pointer (some ⟨r, 0, none⟩), .int .i64 n] w fun e w' =>
      (n.toNat ≤ xs.length ∧ e = .returned (.slice a n.toNat n.toNat) ∧ nextW w r a c xs n.toNat = w') ∨ (xs.length < n.toNat ∧ Thrown 29 (.int .i64 20) e ∧ w = w') := by
  rcases Nat.lt_or_ge xs.length n.toNat with hlt | hle
  · exact (raw_short r a c xs n (by omega) w h).mono fun e w' hx => Or.inr ⟨hlt, hx.1, hx.2⟩
  · exact (raw_ok r a c xs n n.toNat (by omega) hle w h).mono fun e w' hx => Or.inl ⟨hle, hx.1, hx.2⟩

theorem rtext_any (r : Nat) (a : Option Addr) (c : Nat) (xs : List UInt8) (most : Int) (w : World) (h : Rd w r a c xs) :
    Calls Try.prog 36 #[.pointer (some ⟨r, 0, none⟩), .int .i64 most] w fun e w' =>
      (fieldErr xs most = 0 ∧ 4 + said xs ≤ xs.length ∧ e = .returned (.string ⟨((xs.drop 4).take (said xs)).toArray⟩) ∧ nextW w r a c xs (4 + said xs) = w') ∨
      (fieldErr xs most ≠ 0 ∧ Thrown 29 (.int .i64 (fieldErr xs most)) e ∧ w = w') := by
  by_cases h1 : xs.length < 4
  · have e0 : fieldErr xs most = 20 := by unfold fieldErr; rw [if_pos h1]
    rw [e0]
    exact (rtext_err 20 r most w (counted_short r a c xs most h1 w h)).mono fun e w' hx => Or.inr ⟨by decide, hx⟩
  by_cases h2 : max most 0 < (said xs : Int)
  · have e0 : fieldErr xs most = 2 := by unfold fieldErr; rw [if_neg h1, if_pos h2]
    rw [e0]
    exact (rtext_err 2 r most w (counted_long r a c xs most (by omega) h2 w h)).mono fun e w' hx => Or.inr ⟨by decide, hx⟩
  by_cases h3 : xs.length < 4 + said xs
  · have e0 : fieldErr xs most = 20 := by unfold fieldErr; rw [if_neg h1, if_neg h2, if_pos h3]
    rw [e0]
    exact (rtext_err 20 r most w (counted_few r a c xs most (by omega) (by omega) h3 w h)).mono fun e w' hx => Or.inr ⟨by decide, hx⟩
  have e0 : fieldErr xs most = 0 := by unfold fieldErr; rw [if_neg h1, if_neg h2, if_neg h3]
  rw [e0]
  exact (rtext_ok r a c xs most (by omega) (by omega) w h).mono fun e w' hx => Or.inl ⟨rfl, by omega, hx.1, hx.2⟩

/-- The lowest bytes of a number, read again: what is left of it below 256 to so many. -/
theorem numOf_low (N k : Nat) (rest : List UInt8) : numOf ((numB N k ++ rest).take k) = N % 256 ^ k := by
  rw [List.take_append_of_le_length (by rw [numB_len]; omega), List.take_of_length_le (by rw [numB_len]; omega), numOf_numB]

/-- A call that returns, as one step of a drawn region, behind a guard that is held. -/
theorem step_call_wanted {P : Program} {ops : Array Oper} {o : Oper} {a : Act} {w : World} {K : Act → World → Prop} {Q : Exit → Act → World → Prop} {E : Prop} (hw : Region.wanted o (yielded ops a.tmps) = true) (f : FuncId) (args : Array Value)
    (hrun : (execOp a.eval o).run P w = .ok (.enter f args) w) (R : Value → World → Prop) (h : Calls P f args w fun e w' => ∃ v, e = .returned v ∧ R v w')
    (hK : ∀ v w', R v w' → K (a.put o.dst v) w') : if Region.wanted o (yielded ops a.tmps) = true then Oper.wp P o a w K Q else E := by
  rw [if_pos hw]
  unfold Oper.wp
  rw [hrun]
  exact h.mono fun e w' ⟨v, he, hr⟩ => by subst he; exact hK v w' hr

theorem and_low (N k : Nat) (hk : k ≤ 8) (hN : N < 18446744073709551616) : bits .and .u64 (N : Int) ((256 ^ k - 1 : Nat) : Int) = ((N % 256 ^ k : Nat) : Int) := by
  have e0 : (256 : Nat) ^ k = 2 ^ (8 * k) := by rw [show (256 : Nat) = 2 ^ 8 from rfl, ← Nat.pow_mul]
  have h8 : 256 ^ k ≤ 18446744073709551616 := by
    have h2 : 256 ^ k ≤ 256 ^ 8 := Nat.pow_le_pow_right (by omega) hk
    exact h2
  have hp : 0 < 256 ^ k := Nat.pow_pos (by omega)
  have key : (BitVec.ofInt 64 (N : Int) &&& BitVec.ofInt 64 ((256 ^ k - 1 : Nat) : Int)).toNat = N % 256 ^ k := by
    rw [BitVec.toNat_and, BitVec.toNat_ofInt, BitVec.toNat_ofInt]
    have h1 : ((N : Int) % ((2 ^ 64 : Nat) : Int)).toNat = N := by omega
    have h2 : (((256 ^ k - 1 : Nat) : Int) % ((2 ^ 64 : Nat) : Int)).toNat = 256 ^ k - 1 := by omega
    rw [h1, h2, e0, Nat.and_two_pow_sub_one_eq_mod]
  show IntKind.u64.wrap ((BitVec.ofInt 64 (N : Int) &&& BitVec.ofInt 64 ((256 ^ k - 1 : Nat) : Int)).toNat : Nat) = _
  rw [key, IntKind.wrap_u64]
  have := Nat.mod_le N (256 ^ k)
  omega
end Go.Proofs.Ytignphegdigalaa
