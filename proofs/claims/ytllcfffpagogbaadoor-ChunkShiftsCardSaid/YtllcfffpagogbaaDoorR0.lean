/- The rolling sum as mathematics: words of 32 bits that are turned round. No program is named here. -/
import Derived.WalkKit
namespace Go.Proofs.YtllcfffpagogbaaDoor
namespace Roll

abbrev W := BitVec 32
def rol (x : W) (n : Nat) : W := x <<< n ||| x >>> (32 - n)
def turn (x : W) (n : Nat) : W := rol x (n % 32)

theorem ext_w {x y : W} (h : ∀ i, i < 32 → x.getLsbD i = y.getLsbD i) : x = y := BitVec.eq_of_getLsbD_eq fun i hi => h i hi
theorem rol_bit (x : W) (n i : Nat) (hn : n < 32) (hi : i < 32) : (rol x n).getLsbD i = x.getLsbD ((i + 32 - n) % 32) := by
  unfold rol
  simp only [BitVec.getLsbD_or, BitVec.getLsbD_shiftLeft, BitVec.getLsbD_ushiftRight, hi, decide_true, Bool.true_and]
  by_cases h : i < n
  · rw [show (i + 32 - n) % 32 = 32 - n + i by omega]
    simp [h]
  · have e : x.getLsbD (32 - n + i) = false := BitVec.getLsbD_of_ge _ _ (by omega)
    rw [show (i + 32 - n) % 32 = i - n by omega, e]
    simp [h]
theorem turn_bit (x : W) (n i : Nat) (hi : i < 32) : (turn x n).getLsbD i = x.getLsbD ((i + 32 - n % 32) % 32) := rol_bit x _ i (by omega) hi
theorem turn_turn (x : W) (a b : Nat) : turn (turn x a) b = turn x (a + b) := ext_w fun i hi => by
  rw [turn_bit _ _ _ hi, turn_bit _ _ _ (by omega), turn_bit _ _ _ hi]
  congr 1; omega
theorem turn_xor (x y : W) (n : Nat) : turn (x ^^^ y) n = turn x n ^^^ turn y n := ext_w fun i hi => by
  rw [turn_bit _ _ _ hi, BitVec.getLsbD_xor, BitVec.getLsbD_xor, turn_bit _ _ _ hi, turn_bit _ _ _ hi]
theorem turn_zero (x : W) : turn x 0 = x := ext_w fun i hi => by
  rw [turn_bit _ _ _ hi]; congr 1; omega
theorem zero_turn (n : Nat) : turn 0 n = 0 := ext_w fun i hi => by
  rw [turn_bit _ _ _ hi]; simp
theorem turn_mod (x : W) (n : Nat) : turn x (n % 32) = turn x n := by unfold turn; rw [Nat.mod_mod]
theorem turn_one (x : W) (n : Nat) : turn (turn x n) 1 = turn x (n + 1) := turn_turn x n 1

theorem zero_xor' (x : W) : (0 : W) ^^^ x = x := BitVec.zero_xor

/-- The sum of bytes behind one byte more. -/
def step (T : UInt8 → W) (s : W) (c : UInt8) : W := turn s 1 ^^^ T c
def sum (T : UInt8 → W) (b : List UInt8) : W := b.foldl (step T) 0
def last (n : Nat) (b : List UInt8) : List UInt8 := b.drop (b.length - n)

theorem sum_nil (T : UInt8 → W) : sum T [] = 0 := rfl
theorem sum_one (T : UInt8 → W) (c : UInt8) : sum T [c] = T c := by
  show turn 0 1 ^^^ T c = T c
  rw [zero_turn, zero_xor']
theorem sum_snoc (T : UInt8 → W) (b : List UInt8) (c : UInt8) : sum T (b ++ [c]) = step T (sum T b) c := by simp [sum]
theorem fold_eq (T : UInt8 → W) : ∀ (b : List UInt8) (s : W), b.foldl (step T) s = turn s b.length ^^^ sum T b
  | [], s => by simp [sum, turn_zero]
  | c :: b, s => by
    show b.foldl (step T) (step T s c) = _
    unfold sum
    rw [fold_eq T b, List.foldl_cons, fold_eq T b (step T 0 c)]
    unfold step
    rw [turn_xor, turn_xor, turn_turn, zero_turn, zero_turn, zero_xor', List.length_cons, Nat.add_comm 1, BitVec.xor_assoc]
theorem sum_append (T : UInt8 → W) (a b : List UInt8) : sum T (a ++ b) = turn (sum T a) b.length ^^^ sum T b := by
  unfold sum
  rw [List.foldl_append, fold_eq]; rfl
theorem sum_cons (T : UInt8 → W) (c : UInt8) (b : List UInt8) : sum T (c :: b) = turn (T c) b.length ^^^ sum T b := by
  rw [show c :: b = [c] ++ b from rfl, sum_append, sum_one]

theorem last_short {n : Nat} {b : List UInt8} (h : b.length ≤ n) : last n b = b := by unfold last; rw [Nat.sub_eq_zero_of_le h]; rfl
theorem last_snoc_short {n : Nat} {b : List UInt8} (c : UInt8) (h : b.length < n) : last n (b ++ [c]) = last n b ++ [c] := by
  rw [last_short (by simp; omega), last_short (by omega)]
theorem last_full {n : Nat} {b : List UInt8} (h1 : 1 ≤ n) (h : n ≤ b.length) : last n b = b.getD (b.length - n) 0 :: b.drop (b.length - n + 1) := by
  unfold last
  rw [List.drop_eq_getElem_cons (by omega)]
  simp [List.getD, show b.length - n < b.length by omega]
theorem last_snoc_full {n : Nat} {b : List UInt8} (c : UInt8) (h1 : 1 ≤ n) (h : n ≤ b.length) : last n (b ++ [c]) = b.drop (b.length - n + 1) ++ [c] := by
  unfold last
  rw [List.length_append, List.length_singleton, show b.length + 1 - n = b.length - n + 1 by omega, List.drop_append_of_le_length (by omega)]
theorem push_short (T : UInt8 → W) {n : Nat} {b : List UInt8} (c : UInt8) (h : b.length < n) : step T (sum T (last n b)) c = sum T (last n (b ++ [c])) := by
  rw [last_snoc_short c h, sum_snoc]
theorem push_full (T : UInt8 → W) {n : Nat} {b : List UInt8} (c : UInt8) (h1 : 1 ≤ n) (h : n ≤ b.length) :
    step T (sum T (last n b)) c ^^^ turn (T (b.getD (b.length - n) 0)) n = sum T (last n (b ++ [c])) := by
  rw [last_snoc_full c h1 h, last_full h1 h, sum_snoc, sum_cons]
  have e : (b.drop (b.length - n + 1)).length = n - 1 := by simp; omega
  unfold step
  rw [turn_xor, turn_one, e, show n - 1 + 1 = n by omega]
  generalize turn (T (b.getD (b.length - n) 0)) n = p
  generalize turn (sum T (b.drop (b.length - n + 1))) 1 = q
  generalize T c = r
  rw [BitVec.xor_assoc, BitVec.xor_assoc, BitVec.xor_comm p, BitVec.xor_assoc, BitVec.xor_assoc, BitVec.xor_self, BitVec.xor_zero]
theorem last_last (n : Nat) (a b : List UInt8) (h : n ≤ b.length) : last n (a ++ b) = last n b := by
  unfold last
  rw [List.length_append, List.drop_append, List.drop_eq_nil_of_le (by omega), List.nil_append]
  congr 1; omega
end Roll
end Go.Proofs.YtllcfffpagogbaaDoor
