/- Small laws of chunks: a rest of bytes, a number below 2^16. -/
import Derived.Test.YtllcfffpagogbaaDoorQA
namespace Go.Proofs.YtllcfffpagogbaaDoor
open Go.RowKit Go.Lib

theorem i64_and64k (n : Int) : bits .and .i64 n 65535 = n % 65536 := by
  have h7 : (BitVec.ofInt 64 65535).toNat = 2 ^ 16 - 1 := by decide
  have key : (BitVec.ofInt 64 n &&& BitVec.ofInt 64 65535).toNat = (n % ((2 ^ 64 : Nat) : Int)).toNat % 2 ^ 16 := by
    rw [BitVec.toNat_and, BitVec.toNat_ofInt, h7, Nat.and_two_pow_sub_one_eq_mod]
  show IntKind.i64.wrap ((BitVec.ofInt 64 n &&& BitVec.ofInt 64 65535).toNat : Nat) = n % 65536
  rw [key, IntKind.wrap_i64]
  omega
theorem Sl.drop {w : World} {x : Addr} {c : Nat} {ys : List UInt8} (h : Sl w (some x) c ys) (q : Nat) (hq : q ≤ ys.length) : Sl w (some (x.add q)) (c - q) (ys.drop q) :=
  ⟨⟨fun e => (by cases e), fun ad ha j u hj => by
    cases ha
    rw [add_add]
    refine h.reads.2 x rfl (q + j) u ?_
    rw [List.getElem?_map, List.getElem?_drop] at hj
    rw [List.getElem?_map]; exact hj⟩, by have := h.le; rw [List.length_drop]; omega, by have := h.max; omega, fun e => (by cases e)⟩
end Go.Proofs.YtllcfffpagogbaaDoor
