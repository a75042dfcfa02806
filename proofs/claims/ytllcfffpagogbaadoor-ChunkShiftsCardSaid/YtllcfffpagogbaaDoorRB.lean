/- 32 bits as the walk spells them; bits.RotateLeft32. -/
import Derived.Test.YtllcfffpagogbaaDoorRows
import Derived.Test.YtllcfffpagogbaaDoorC0
import Derived.Test.YtllcfffpagogbaaDoorR0
import Derived.WalkSpells
namespace Go.Proofs.YtllcfffpagogbaaDoor
open Go.RowKit

/-- A word's value. -/
abbrev U (x : Roll.W) : Value := .int .u32 (x.toNat : Int)

theorem xor_bv (a b : Roll.W) : bits .xor .u32 (a.toNat : Int) (b.toNat : Int) = ((a ^^^ b).toNat : Int) := by
  show IntKind.u32.wrap ((BitVec.ofInt 32 (a.toNat : Int) ^^^ BitVec.ofInt 32 (b.toNat : Int)).toNat : Nat) = _
  rw [BitVec.ofInt_natCast, BitVec.ofInt_natCast, BitVec.ofNat_toNat, BitVec.ofNat_toNat, IntKind.wrap_u32]
  have := (a ^^^ b).isLt
  simp only [BitVec.setWidth_eq]; omega
theorem and_bv (a b : Roll.W) : bits .and .u32 (a.toNat : Int) (b.toNat : Int) = ((a &&& b).toNat : Int) := by
  show IntKind.u32.wrap ((BitVec.ofInt 32 (a.toNat : Int) &&& BitVec.ofInt 32 (b.toNat : Int)).toNat : Nat) = _
  rw [BitVec.ofInt_natCast, BitVec.ofInt_natCast, BitVec.ofNat_toNat, BitVec.ofNat_toNat, IntKind.wrap_u32]
  have := (a &&& b).isLt
  simp only [BitVec.setWidth_eq]; omega
theorem or_bv (a b : Roll.W) : bits .or .u32 (a.toNat : Int) (b.toNat : Int) = ((a ||| b).toNat : Int) := by
  show IntKind.u32.wrap ((BitVec.ofInt 32 (a.toNat : Int) ||| BitVec.ofInt 32 (b.toNat : Int)).toNat : Nat) = _
  rw [BitVec.ofInt_natCast, BitVec.ofInt_natCast, BitVec.ofNat_toNat, BitVec.ofNat_toNat, IntKind.wrap_u32]
  have := (a ||| b).isLt
  simp only [BitVec.setWidth_eq]; omega
theorem not_bv (a : Roll.W) : bits .xor .u32 IntKind.u32.max (a.toNat : Int) = ((~~~ a).toNat : Int) := by
  rw [show IntKind.u32.max = (((BitVec.allOnes 32).toNat : Nat) : Int) from rfl, xor_bv, BitVec.allOnes_xor]
theorem add_bv (a b : Roll.W) : ((a.toNat : Int) + (b.toNat : Int)) % 4294967296 = ((a + b).toNat : Int) := by
  rw [BitVec.toNat_add]; omega
theorem shl_bv (a : Roll.W) (n : Nat) : ((a.toNat : Int) * ((2 ^ n : Nat) : Int)) % 4294967296 = ((a <<< n).toNat : Int) := by
  rw [BitVec.toNat_shiftLeft, Nat.shiftLeft_eq, ← Int.natCast_mul]
  generalize a.toNat * 2 ^ n = m
  omega
theorem shr_bv (a : Roll.W) (n : Nat) : (a.toNat : Int) / ((2 ^ n : Nat) : Int) = ((a >>> n).toNat : Int) := by
  rw [BitVec.toNat_ushiftRight, Nat.shiftRight_eq_div_pow]
  exact (Int.natCast_ediv _ _).symm


/-- The shift's count as the walk spells it. -/
theorem and31 (k : Nat) (hk : k ≤ 64) : bits .and .u64 (IntKind.u64.wrap (k : Int)) 31 = ((k % 32 : Nat) : Int) := by
  have key : (BitVec.ofInt 64 (IntKind.u64.wrap (k : Int)) &&& BitVec.ofInt 64 31).toNat = k % 32 := by
    rw [BitVec.toNat_and, BitVec.toNat_ofInt, show (BitVec.ofInt 64 31).toNat = 2 ^ 5 - 1 by decide, Nat.and_two_pow_sub_one_eq_mod, IntKind.wrap_u64]
    omega
  show IntKind.u64.wrap ((BitVec.ofInt 64 (IntKind.u64.wrap (k : Int)) &&& BitVec.ofInt 64 31).toNat : Nat) = _
  rw [key, IntKind.wrap_u64]
  omega
theorem rol_lit (x : Roll.W) (n : Nat) (a b : Int) (ha : a = ((2 ^ n : Nat) : Int)) (hb : b = ((2 ^ (32 - n) : Nat) : Int)) :
    bits .or .u32 ((x.toNat : Int) * a % 4294967296) ((x.toNat : Int) / b) = ((Roll.rol x n).toNat : Int) := by
  rw [ha, hb, shl_bv, shr_bv, or_bv]; rfl
theorem rotl_any (x : Roll.W) (k : Nat) (hk : k ≤ 64) (w : World) :
    Calls Tryd.prog 81 #[U x, .int .i64 (k : Int)] w fun e w' => e = .returned (U (Roll.turn x k)) ∧ w = w' := by
  have hx := x.isLt
  have hm := and31 k hk
  rw [show IntKind.u64.wrap (k : Int) = (k : Int) by rw [IntKind.wrap_u64]; omega] at hm
  obtain ⟨n, hn⟩ : ∃ n, n = k % 32 := ⟨_, rfl⟩
  have hn32 : n < 32 := by omega
  rw [← hn] at hm
  obtain ⟨a, ha⟩ : ∃ a : Int, a = ((2 ^ n : Nat) : Int) := ⟨_, rfl⟩
  obtain ⟨b, hb⟩ : ∃ b : Int, b = ((2 ^ (32 - n) : Nat) : Int) := ⟨_, rfl⟩
  have h1 := rol_lit x n a b ha hb
  obtain ⟨s, hs⟩ : ∃ s : Int, s = (n : Int) := ⟨_, rfl⟩
  rw [← hs] at hm
  have e1 : (2 : Int) ^ s.toNat = a := by rw [ha, hs]; simp
  have e2 : (2 : Int) ^ (32 - s).toNat = b := by
    rw [hb, show (32 - s).toNat = 32 - n by omega]; simp
  have b1 : 0 ≤ s := by omega
  have b2 : s ≤ 32 := by omega
  have b3 : 0 ≤ 32 - s := by omega
  have b4 : 32 - s ≤ 32 := by omega
  have e : Roll.rol x n = Roll.turn x k := by unfold Roll.turn; rw [hn]
  rw [e] at h1
  clear ha hb hn hn32 hs e
  have H := hid h1
  clear h1
  go_enter Tryd.func81, Tryd.ntmps81
  go_wp2
  go_ret
  exact ⟨by rw [H.out]; rfl, rfl⟩
end Go.Proofs.YtllcfffpagogbaaDoor
