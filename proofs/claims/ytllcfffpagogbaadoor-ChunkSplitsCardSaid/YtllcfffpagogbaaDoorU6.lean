/- ChunkSplits: the walk. -/
import Derived.Test.YtllcfffpagogbaaDoorU5
namespace Go.Proofs.YtllcfffpagogbaaDoor
open Go.RowKit Go.Lib

set_option maxRecDepth 100000 in
set_option maxHeartbeats 2000000 in
theorem chunk_splits (a b d e s : Int) (hs0 : 0 ≤ s) (hs1 : s < 18446744073709551616) (ba : Option Addr) (cap : Nat) (ys : List UInt8) (most : Int) (w : World) (hdb : DB w) (hb : Sl w ba cap ys) :
    Calls Tryd.prog 3 #[parV a b d e s, .slice ba ys.length cap, .int .i64 most] w fun e w' => e = .returned (.bool true) ∧ Kept [] w w' := by
  by_cases hl : 300 < ys.length
  · obtain ⟨w0, hw0⟩ : ∃ w0, w0 = w.alloc (.cells #[.int .i64 a, .int .i64 b, .int .i64 d, .int .i64 e, .int .u64 s] 24) := ⟨_, rfl⟩
    have k0 : Kept [] w w0 := hw0 ▸ (Kept.refl _ _).alloc _
    have hal := hid (alive09 w0 (hdb.kept k0 (by simp)))
    go_enter Tryd.func3, Tryd.ntmps3
    go_wp2_with fail
    rw [← hw0]
    refine hal.out.mono ?_
    rintro r w1 ⟨rfl, k1⟩
    go_wp2
    go_ret
    exact ⟨rfl, k0.trans k1⟩
  by_cases h : a < 1 ∨ b < a ∨ 65536 < b ∨ d < 0 ∨ 20 < d ∨ e < 1 ∨ 64 < e
  · refine chunk_splits_bad a b d e s ba cap ys most w hdb hl h fun W => ?_
    by_cases h5 : a < 1 ∨ b < a ∨ 65536 < b ∨ d < 0 ∨ 20 < d
    · exact new_bad a b d e s h5 W
    · exact new_width a b d e s (by omega) (by omega) (by omega) (by omega) (by omega) (by omega) hs0 hs1 W
  · obtain ⟨P, hok, rfl, rfl, rfl, rfl⟩ : ∃ P : Chunk.Par, ParOk P ∧ a = P.min ∧ b = P.max ∧ d = P.bits ∧ e = P.width :=
      ⟨⟨a.toNat, b.toNat, d.toNat, e.toNat⟩, ⟨by show 1 ≤ a.toNat; omega, by show a.toNat ≤ b.toNat; omega, by show b.toNat ≤ 65536; omega, by show d.toNat ≤ 20; omega, by show 1 ≤ e.toNat; omega, by show e.toNat ≤ 64; omega⟩, by show a = (a.toNat : Int); omega, by show b = (b.toNat : Int); omega, by show d = (d.toNat : Int); omega, by show e = (e.toNat : Int); omega⟩
    exact chunk_splits_ok P s hok hs0 hs1 ba cap ys most w hdb hb hl
end Go.Proofs.YtllcfffpagogbaaDoor
