/- What ChunkSplits leans on: coldstorelaw09.all for every number; cells written over. -/
import Derived.Lib.SliceRun
import Derived.Deep.MidRow
import Derived.Deep.Upon
import Derived.Test.YtllcfffpagogbaaDoorU2
namespace Go.Proofs.YtllcfffpagogbaaDoor
open Go.RowKit Go.Lib

theorem i64_and7 (n : Int) : bits .and .i64 n 7 = n % 8 := by
  have h7 : (BitVec.ofInt 64 7).toNat = 2 ^ 3 - 1 := by decide
  have key : (BitVec.ofInt 64 n &&& BitVec.ofInt 64 7).toNat = (n % ((2 ^ 64 : Nat) : Int)).toNat % 2 ^ 3 := by
    rw [BitVec.toNat_and, BitVec.toNat_ofInt, h7, Nat.and_two_pow_sub_one_eq_mod]
  show IntKind.i64.wrap ((BitVec.ofInt 64 n &&& BitVec.ofInt 64 7).toNat : Nat) = n % 8
  rw [key, IntKind.wrap_i64]
  omega
theorem kept_setCells (b : Nat) : ∀ (vs : List Value) (o : Nat) (w : World), Kept [b] w (w.setCells b o vs)
  | [], _, w => Kept.refl _ w
  | v :: r, o, w => ((Kept.refl [b] w).setCell (p := ⟨b, o, none⟩) (fun _ => by simp) v).trans (kept_setCells b r (o + 1) _)
theorem zero_u8 (w : World) : (zeroValue 5).run Tryd.prog w = .ok (.int .u8 0) w := by kernel_rfl

theorem all09m (c : Nat) (P : Chunk.Par) (seed : Int) (g : Nat) (T : UInt8 → Roll.W) (a : Option Addr) (cap : Nat) (ys : List UInt8) (M n : Nat) (hn : n = ((spl P T ys).take M).length) (w : World) (h : Ch w c P seed g T) (hs : Sl w a cap ys) (hl : ys.length ≤ 100000000) (hm2 : M ≤ 1000000) :
    Calls Tryd.prog 15 #[.pointer (some ⟨c, 0, none⟩), .slice a ys.length cap, .int .i64 (M : Int)] w fun e w' => ∃ av cv, e = .returned (.tuple #[.slice av n cv, .bool true]) ∧ Kept [] w w' ∧ RV w' av ((spl P T ys).take M) ∧ n ≤ cv ∧ cv ≤ 9223372036854775807 := by
  by_cases h0 : M = 0
  · subst h0
    have hn0 : n = 0 := by rw [hn]; simp
    subst hn0
    clear hn h hs
    generalize ys.length = q at *
    go_enter Tryd.func15, Tryd.ntmps15
    have bR := (((Boxed.new (w.alloc (.cells #[.int .i64 0] 3)) 33 (.slice (some ⟨w.heap.size + 1 + 1 + 1, 0, none⟩) 0 0)).alloc (.cells #[.bool true] 4)).alloc (.cells #[] 25)).alloc (.cells #[.slice (some ⟨w.heap.size + 1 + 1 + 1, 0, none⟩) 0 0] 33)
    have bO := ((Boxed.new ((w.alloc (.cells #[.int .i64 0] 3)).alloc (.cells #[.slice (some ⟨w.heap.size + 1 + 1 + 1, 0, none⟩) 0 0] 33)) 4 (.bool true)).alloc (.cells #[] 25)).alloc (.cells #[.slice (some ⟨w.heap.size + 1 + 1 + 1, 0, none⟩) 0 0] 33)
    simp only [World.size_alloc] at bR bO
    have hc5 := bR.cell
    have hc6 := bO.cell
    go_wp2
    refine bodyPost_ret (v := .tuple #[.slice (some ⟨w.heap.size + 1 + 1 + 1, 0, none⟩) 0 0, .bool true]) ?_ rfl ?_
    · simp [results, Tryd.f15, go_sem, hc5, hc6]
    · exact ⟨_, _, rfl, (((((Kept.refl [] w).alloc _).alloc _).alloc _).alloc _).alloc _, fun j x hj => by simp at hj, Nat.le_refl _, by omega⟩
  · refine (all09 c P seed g T a cap ys M w h hs hl (by omega) hm2).mono ?_
    rintro e w' ⟨v, xs, rfl, hk, hx, hrow, hps⟩
    obtain ⟨av, cv, rfl, h1, h2, h3, -⟩ := rv_of hrow hps
    have hxl : xs.length = n := by rw [hn, ← hx]; simp
    rw [hx] at h3
    rw [hxl] at h1 ⊢
    exact ⟨av, cv, rfl, hk, h3, h1, h2⟩
end Go.Proofs.YtllcfffpagogbaaDoor
