/- coldstorelaw05.parts: for every number of parts. -/
import Derived.Test.YtignphegdigalaaT4
namespace Go.Proofs.Ytignphegdigalaa
open Go.RowKit

theorem i64_and7 (n : Int) : bits .and .i64 n 7 = n % 8 := by
  have h7 : (BitVec.ofInt 64 7).toNat = 2 ^ 3 - 1 := by decide
  have key : (BitVec.ofInt 64 n &&& BitVec.ofInt 64 7).toNat = (n % ((2 ^ 64 : Nat) : Int)).toNat % 2 ^ 3 := by
    rw [BitVec.toNat_and, BitVec.toNat_ofInt, h7, Nat.and_two_pow_sub_one_eq_mod]
  show IntKind.i64.wrap ((BitVec.ofInt 64 n &&& BitVec.ofInt 64 7).toNat : Nat) = n % 8
  rw [key, IntKind.wrap_i64]
  omega
theorem lparts_tr (a : List UInt8) (ha : a.length ≤ 100000) (M : Nat) (hM : M ≤ 1000) (n : Nat) (hn : n = ((partsS a).take M).length) (w v : World) (k : Kept [] w v) :
    Calls Try.prog 30 #[.string (S a), .int .i64 (M : Int)] v fun e w' => ∃ av c, e = .returned (.slice av n c) ∧ Kept [] w w' ∧ TR w' av ((partsS a).take M) := by
  by_cases h0 : M = 0
  · subst h0
    have hn0 : n = 0 := by rw [hn]; simp
    subst hn0
    clear hn
    go_enter Try.func30, Try.ntmps30
    have bR := ((Boxed.new (v.alloc (.cells #[.int .i64 0] 3)) 49 (.slice (some ⟨v.heap.size + 1 + 1, 0, none⟩) 0 0)).alloc (.cells #[] 9)).alloc (.cells #[.slice (some ⟨v.heap.size + 1 + 1, 0, none⟩) 0 0] 49)
    simp only [World.size_alloc] at bR
    have hc5 := bR.cell
    go_wp2
    refine bodyPost_ret (v := .slice (some ⟨v.heap.size + 1 + 1, 0, none⟩) 0 0) ?_ rfl ?_
    · simp [results, Try.f30, go_sem, hc5]
    · exact ⟨_, _, rfl, (((k.alloc _).alloc _).alloc _).alloc _, fun j x hj => by simp at hj⟩
  · refine (lparts_any a M (by omega) (by omega) (by omega) v).mono ?_
    rintro e w' ⟨u, rfl, ho, hb⟩
    rw [show ((partsS a).take M).length = n from hn.symm] at ho
    obtain ⟨av, cv, rfl, h1, h2, h3, -⟩ := tr_of_own (L := (partsS a).take M) (by rw [← hn]; exact ho)
    rw [← hn]
    exact ⟨av, cv, rfl, k.trans (Kept.of_below hb), h3⟩
end Go.Proofs.Ytignphegdigalaa
