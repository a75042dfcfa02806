/- coldstoreref03: right, letter, digit; the document's rounds in the words of H0. -/
import Derived.Test.YtieaolnnlfaagaaDoorH5
namespace Go.Proofs.YtieaolnnlfaagaaDoor
open Go.RowKit

theorem Reads.get {w : World} {a : Option Addr} {ys : List UInt8} (h : Reads w a ys) (i : Nat) (hi : i < ys.length) : ∃ ad, a = some ad ∧ w.cell? (ad.add i) = some (B ys[i]) := by
  cases a with
  | none => rw [h.1 rfl] at hi; simp at hi
  | some ad => exact ⟨ad, rfl, h.2 ad rfl i _ (by simp [hi])⟩
theorem choice_or (e f g : Sha.W) : (e &&& f) ||| (~~~ e &&& g) = Sha.choice e f g := by
  unfold Sha.choice
  apply BitVec.eq_of_getLsbD_eq
  intro i hi
  simp only [BitVec.getLsbD_or, BitVec.getLsbD_and, BitVec.getLsbD_xor, BitVec.getLsbD_not, hi, decide_true, Bool.true_and]
  cases e.getLsbD i <;> cases f.getLsbD i <;> cases g.getLsbD i <;> rfl
theorem major_or (a b c : Sha.W) : (a &&& b) ||| (a &&& c) ||| (b &&& c) = Sha.major a b c := by
  unfold Sha.major
  apply BitVec.eq_of_getLsbD_eq
  intro i hi
  simp only [BitVec.getLsbD_or, BitVec.getLsbD_and, BitVec.getLsbD_xor]
  cases a.getLsbD i <;> cases b.getLsbD i <;> cases c.getLsbD i <;> rfl
theorem word_sum (b : List UInt8) (i : Nat) : (Sha.word b i).toNat = 16777216 * (b.getD (4 * i) 0).toNat + 65536 * (b.getD (4 * i + 1) 0).toNat + 256 * (b.getD (4 * i + 2) 0).toNat + (b.getD (4 * i + 3) 0).toNat := by
  unfold Sha.word
  have h0 := (b.getD (4 * i) 0).toNat_lt
  have h1 := (b.getD (4 * i + 1) 0).toNat_lt
  have h2 := (b.getD (4 * i + 2) 0).toNat_lt
  have h3 := (b.getD (4 * i + 3) 0).toNat_lt
  generalize (b.getD (4 * i) 0).toNat = x at *
  generalize (b.getD (4 * i + 1) 0).toNat = y at *
  generalize (b.getD (4 * i + 2) 0).toNat = z at *
  generalize (b.getD (4 * i + 3) 0).toNat = u at *
  simp only [BitVec.toNat_or, BitVec.toNat_shiftLeft, BitVec.toNat_ofNat]
  rw [Nat.mod_eq_of_lt (show x < 2 ^ 32 by omega), Nat.mod_eq_of_lt (show y < 2 ^ 32 by omega), Nat.mod_eq_of_lt (show z < 2 ^ 32 by omega), Nat.mod_eq_of_lt (show u < 2 ^ 32 by omega)]
  rw [Nat.mod_eq_of_lt (show x <<< 24 < 2 ^ 32 by rw [Nat.shiftLeft_eq]; omega), Nat.mod_eq_of_lt (show y <<< 16 < 2 ^ 32 by rw [Nat.shiftLeft_eq]; omega), Nat.mod_eq_of_lt (show z <<< 8 < 2 ^ 32 by rw [Nat.shiftLeft_eq]; omega)]
  rw [← Nat.shiftLeft_add_eq_or_of_lt (show y <<< 16 < 2 ^ 24 by rw [Nat.shiftLeft_eq]; omega)]
  rw [show x <<< 24 + y <<< 16 = (x * 256 + y) <<< 16 by simp only [Nat.shiftLeft_eq]; omega]
  rw [← Nat.shiftLeft_add_eq_or_of_lt (show z <<< 8 < 2 ^ 16 by rw [Nat.shiftLeft_eq]; omega)]
  rw [show (x * 256 + y) <<< 16 + z <<< 8 = (x * 65536 + y * 256 + z) <<< 8 by simp only [Nat.shiftLeft_eq]; omega]
  rw [← Nat.shiftLeft_add_eq_or_of_lt (show u < 2 ^ 8 by omega)]
  simp only [Nat.shiftLeft_eq]; omega

theorem rotr_lit (x : Sha.W) (n : Nat) (a b : Int) (ha : a = ((2 ^ (32 - n) : Nat) : Int)) (hb : b = ((2 ^ n : Nat) : Int)) :
    bits .or .u32 ((x.toNat : Int) / b) ((x.toNat : Int) * a % 4294967296) = ((Sha.rotr x n).toNat : Int) := by
  rw [ha, hb, shl_bv, shr_bv, or_bv]
  rw [BitVec.or_comm]; rfl

theorem right_any (x : Sha.W) (n : Nat) (h1 : 1 ≤ n) (hn : n ≤ 31) (w : World) :
    Calls Tryd.prog 25 #[U x, .int .i64 (n : Int)] w fun e w' => e = .returned (U (Sha.rotr x n)) ∧ w.drew = w' := by
  have hx := x.isLt
  obtain ⟨s, hs⟩ : ∃ s : Int, s = (n : Int) := ⟨_, rfl⟩
  obtain ⟨a, ha⟩ : ∃ a : Int, a = ((2 ^ (32 - n) : Nat) : Int) := ⟨_, rfl⟩
  obtain ⟨b, hb⟩ : ∃ b : Int, b = ((2 ^ n : Nat) : Int) := ⟨_, rfl⟩
  have hr := rotr_lit x n a b ha hb
  have e1 : (2 : Int) ^ s.toNat = b := by rw [hb, hs]; simp
  have e2 : (2 : Int) ^ (32 - s).toNat = a := by rw [ha, show (32 - s).toNat = 32 - n by omega]; simp
  have b1 : 0 ≤ s := by omega
  have b2 : s ≤ 32 := by omega
  have b3 : 0 ≤ 32 - s := by omega
  have b4 : 32 - s ≤ 32 := by omega
  have Hr := hid hr
  rw [← hs]
  clear hr hs ha hb h1 hn
  go_enter Tryd.func25, Tryd.ntmps25
  go_wp2_with fail
  go_region
  go_wp2
  go_ret
  exact ⟨by rw [Hr.out]; rfl, rfl⟩
theorem right_quiet (x : Sha.W) (n : Nat) (h1 : 1 ≤ n) (hn : n ≤ 31) (w : World) :
    Calls Tryd.prog 25 #[U x, .int .i64 (n : Int)] w fun e w' => e = .returned (U (Sha.rotr x n)) ∧ w' = w.drew := (right_any x n h1 hn w).mono fun _ _ h => ⟨h.1, h.2.symm⟩
theorem right_k (x : Sha.W) (k : Int) (hk : 1 ≤ k ∧ k ≤ 31) (w : World) :
    Calls Tryd.prog 25 #[U x, .int .i64 k] w fun e w' => e = .returned (U (Sha.rotr x k.toNat)) ∧ ∃ m, w' = w.drewN m := by
  obtain ⟨n, rfl⟩ : ∃ n : Nat, k = (n : Int) := ⟨k.toNat, by omega⟩
  exact (right_any x n (by omega) (by omega) w).mono fun _ _ h => ⟨h.1, 1, h.2.symm⟩
end Go.Proofs.YtieaolnnlfaagaaDoor
