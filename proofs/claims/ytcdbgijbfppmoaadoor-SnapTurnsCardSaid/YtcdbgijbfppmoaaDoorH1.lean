import Derived.Test.YtcdbgijbfppmoaaDoorRows
import Derived.Test.YtcdbgijbfppmoaaDoorC0
import Derived.Test.YtcdbgijbfppmoaaDoorH0
import Derived.WalkSpells

/- 32 bits as the walk spells them; bits.RotateLeft32, sha.turned. -/
namespace Go.Proofs.YtcdbgijbfppmoaaDoor
open Go.RowKit

/-- A word's value. -/
abbrev U (x : Sha.W) : Value := .int .u32 (x.toNat : Int)

theorem xor_bv (a b : Sha.W) : bits .xor .u32 (a.toNat : Int) (b.toNat : Int) = ((a ^^^ b).toNat : Int) := by
  show IntKind.u32.wrap ((BitVec.ofInt 32 (a.toNat : Int) ^^^ BitVec.ofInt 32 (b.toNat : Int)).toNat : Nat) = _
  rw [BitVec.ofInt_natCast, BitVec.ofInt_natCast, BitVec.ofNat_toNat, BitVec.ofNat_toNat, IntKind.wrap_u32]
  have := (a ^^^ b).isLt
  simp only [BitVec.setWidth_eq]; omega
theorem and_bv (a b : Sha.W) : bits .and .u32 (a.toNat : Int) (b.toNat : Int) = ((a &&& b).toNat : Int) := by
  show IntKind.u32.wrap ((BitVec.ofInt 32 (a.toNat : Int) &&& BitVec.ofInt 32 (b.toNat : Int)).toNat : Nat) = _
  rw [BitVec.ofInt_natCast, BitVec.ofInt_natCast, BitVec.ofNat_toNat, BitVec.ofNat_toNat, IntKind.wrap_u32]
  have := (a &&& b).isLt
  simp only [BitVec.setWidth_eq]; omega
theorem or_bv (a b : Sha.W) : bits .or .u32 (a.toNat : Int) (b.toNat : Int) = ((a ||| b).toNat : Int) := by
  show IntKind.u32.wrap ((BitVec.ofInt 32 (a.toNat : Int) ||| BitVec.ofInt 32 (b.toNat : Int)).toNat : Nat) = _
  rw [BitVec.ofInt_natCast, BitVec.ofInt_natCast, BitVec.ofNat_toNat, BitVec.ofNat_toNat, IntKind.wrap_u32]
  have := (a ||| b).isLt
  simp only [BitVec.setWidth_eq]; omega
theorem not_bv (a : Sha.W) : bits .xor .u32 IntKind.u32.max (a.toNat : Int) = ((~~~ a).toNat : Int) := by
  rw [show IntKind.u32.max = (((BitVec.allOnes 32).toNat : Nat) : Int) from rfl, xor_bv, BitVec.allOnes_xor]
theorem add_bv (a b : Sha.W) : ((a.toNat : Int) + (b.toNat : Int)) % 4294967296 = ((a + b).toNat : Int) := by
  rw [BitVec.toNat_add]; omega
theorem shl_bv (a : Sha.W) (n : Nat) : ((a.toNat : Int) * ((2 ^ n : Nat) : Int)) % 4294967296 = ((a <<< n).toNat : Int) := by
  rw [BitVec.toNat_shiftLeft, Nat.shiftLeft_eq, ← Int.natCast_mul]
  generalize a.toNat * 2 ^ n = m
  omega
theorem shr_bv (a : Sha.W) (n : Nat) : (a.toNat : Int) / ((2 ^ n : Nat) : Int) = ((a >>> n).toNat : Int) := by
  rw [BitVec.toNat_ushiftRight, Nat.shiftRight_eq_div_pow]
  exact (Int.natCast_ediv _ _).symm

theorem rot_lit (x : Sha.W) (n : Nat) (a b : Int) (ha : a = ((2 ^ (32 - n) : Nat) : Int)) (hb : b = ((2 ^ n : Nat) : Int)) :
    bits .or .u32 ((x.toNat : Int) * a % 4294967296) ((x.toNat : Int) / b) = ((Sha.rotr x n).toNat : Int) := by
  rw [ha, hb, shl_bv, shr_bv, or_bv]; rfl

theorem rot_at (x : Sha.W) (m s : Int) (n : Nat) (hn : n ≤ 31) (h1 : 1 ≤ n) (hm : bits .and .u64 (IntKind.u64.wrap m) 31 = s) (hs : s = 32 - (n : Int)) (w : World) :
    Calls Tryd.prog 109 #[U x, .int .i64 m] w fun e w' => e = .returned (U (Sha.rotr x n)) ∧ w = w' := by
  have hx := x.isLt
  obtain ⟨a, ha⟩ : ∃ a : Int, a = ((2 ^ (32 - n) : Nat) : Int) := ⟨_, rfl⟩
  obtain ⟨b, hb⟩ : ∃ b : Int, b = ((2 ^ n : Nat) : Int) := ⟨_, rfl⟩
  have h1 := rot_lit x n a b ha hb
  have e1 : (2 : Int) ^ s.toNat = a := by
    rw [ha, show s.toNat = 32 - n by omega]; simp
  have e2 : (2 : Int) ^ (32 - s).toNat = b := by
    rw [hb, show (32 - s).toNat = n by omega]; simp
  have b1 : 0 ≤ s := by omega
  have b2 : s ≤ 32 := by omega
  have b3 : 0 ≤ 32 - s := by omega
  have b4 : 32 - s ≤ 32 := by omega
  clear ha hb hs hn
  have H := hid h1
  clear h1
  go_enter Tryd.func109, Tryd.ntmps109
  go_wp2
  go_ret
  exact ⟨by rw [H.out]; rfl, rfl⟩

theorem rot_still (x : Sha.W) (m s : Int) (n : Nat) (hn : n ≤ 31) (h1 : 1 ≤ n) (hm : bits .and .u64 (IntKind.u64.wrap m) 31 = s) (hs : s = 32 - (n : Int)) (w : World) :
    Calls Tryd.prog 109 #[U x, .int .i64 m] w fun e w' => e = .returned (U (Sha.rotr x n)) ∧ w' = w :=
  (rot_at x m s n hn h1 hm hs w).mono fun _ _ h => ⟨h.1, h.2.symm⟩

theorem turned_e (x : Sha.W) (w : World) :
    Calls Tryd.prog 104 #[U x, .int .i64 6, .int .i64 11, .int .i64 25] w fun e w' => e = .returned (U (Sha.sig x 6 11 25)) ∧ w = w' := by
  have r1 := fun w => rot_at x (-6) 26 6 (by omega) (by omega) (by decide) (by decide) w
  have r2 := fun w => rot_at x (-11) 21 11 (by omega) (by omega) (by decide) (by decide) w
  have r3 := fun w => rot_at x (-25) 7 25 (by omega) (by omega) (by decide) (by decide) w
  have h := hid (show bits .xor .u32 (bits .xor .u32 ((Sha.rotr x 6).toNat : Int) ((Sha.rotr x 11).toNat : Int)) ((Sha.rotr x 25).toNat : Int) = ((Sha.sig x 6 11 25).toNat : Int) by rw [xor_bv, xor_bv]; rfl)
  have R1 := hid r1; have R2 := hid r2; have R3 := hid r3
  clear r1 r2 r3
  go_enter Tryd.func104, Tryd.ntmps104
  go_wp2_with fail
  refine (R1.out _).mono ?_
  rintro e w' ⟨rfl, rfl⟩
  go_wp2_with fail
  refine (R2.out _).mono ?_
  rintro e w' ⟨rfl, rfl⟩
  go_wp2_with fail
  refine (R3.out _).mono ?_
  rintro e w' ⟨rfl, rfl⟩
  go_wp2_with fail
  go_ret
  exact ⟨by rw [h.out]; rfl, rfl⟩

theorem turned_a (x : Sha.W) (w : World) :
    Calls Tryd.prog 104 #[U x, .int .i64 2, .int .i64 13, .int .i64 22] w fun e w' => e = .returned (U (Sha.sig x 2 13 22)) ∧ w = w' := by
  have r1 := fun w => rot_at x (-2) 30 2 (by omega) (by omega) (by decide) (by decide) w
  have r2 := fun w => rot_at x (-13) 19 13 (by omega) (by omega) (by decide) (by decide) w
  have r3 := fun w => rot_at x (-22) 10 22 (by omega) (by omega) (by decide) (by decide) w
  have h := hid (show bits .xor .u32 (bits .xor .u32 ((Sha.rotr x 2).toNat : Int) ((Sha.rotr x 13).toNat : Int)) ((Sha.rotr x 22).toNat : Int) = ((Sha.sig x 2 13 22).toNat : Int) by rw [xor_bv, xor_bv]; rfl)
  have R1 := hid r1; have R2 := hid r2; have R3 := hid r3
  clear r1 r2 r3
  go_enter Tryd.func104, Tryd.ntmps104
  go_wp2_with fail
  refine (R1.out _).mono ?_
  rintro e w' ⟨rfl, rfl⟩
  go_wp2_with fail
  refine (R2.out _).mono ?_
  rintro e w' ⟨rfl, rfl⟩
  go_wp2_with fail
  refine (R3.out _).mono ?_
  rintro e w' ⟨rfl, rfl⟩
  go_wp2_with fail
  go_ret
  exact ⟨by rw [h.out]; rfl, rfl⟩
theorem turned_e_still (x : Sha.W) (w : World) :
    Calls Tryd.prog 104 #[U x, .int .i64 6, .int .i64 11, .int .i64 25] w fun e w' => e = .returned (U (Sha.sig x 6 11 25)) ∧ w' = w :=
  (turned_e x w).mono fun _ _ h => ⟨h.1, h.2.symm⟩
end Go.Proofs.YtcdbgijbfppmoaaDoor
