/- ChunkShifts: the walk. -/
import Derived.Test.YtllcfffpagogbaaDoorV1
namespace Go.Proofs.YtllcfffpagogbaaDoor
open Go.RowKit Go.Lib

set_option maxRecDepth 100000 in
set_option maxHeartbeats 2000000 in
theorem chunk_shifts (a b d e s : Int) (hs0 : 0 ≤ s) (hs1 : s < 18446744073709551616) (aa : Option Addr) (acap : Nat) (xa : List UInt8) (ba : Option Addr) (cap : Nat) (ys : List UInt8) (w : World) (hdb : DB w) (ha : Sl w aa acap xa) (hb : Sl w ba cap ys) :
    Calls Tryd.prog 4 #[parV a b d e s, .slice aa xa.length acap, .slice ba ys.length cap] w fun e w' => e = .returned (.bool true) ∧ Kept [] w w' := by
  obtain ⟨w0, hw0⟩ : ∃ w0, w0 = w.alloc (.cells #[.int .i64 a, .int .i64 b, .int .i64 d, .int .i64 e, .int .u64 s] 24) := ⟨_, rfl⟩
  have k0 : Kept [] w w0 := hw0 ▸ (Kept.refl _ _).alloc _
  have hp0 : ParAt w0 w.heap.size a b d e s := by rw [hw0]; exact heap_alloc_at rfl
  have hal := hid (alive09 w0 (hdb.kept k0 (by simp)))
  by_cases hla : 300 < xa.length
  · go_enter Tryd.func4, Tryd.ntmps4
    go_wp2_with fail
    rw [← hw0]
    refine hal.out.mono ?_
    rintro r w1 ⟨rfl, k1⟩
    go_wp2
    go_ret
    exact ⟨rfl, k0.trans k1⟩
  by_cases hl : 300 < ys.length
  · go_enter Tryd.func4, Tryd.ntmps4
    go_wp2_with fail
    rw [← hw0]
    refine hal.out.mono ?_
    rintro r w1 ⟨rfl, k1⟩
    go_wp2
    go_ret
    exact ⟨rfl, k0.trans k1⟩
  rcases new_any a b d e s hs0 hs1 with ⟨P, hok, rfl, rfl, rfl, rfl⟩ | hbad
  · exact chunk_shifts_ok P s hok hs0 hs1 aa acap xa ba cap ys w hdb ha hb hla hl
  · have Hbad := hid hbad
    clear hbad
    go_enter Tryd.func4, Tryd.ntmps4
    go_wp2_with fail
    rw [← hw0]
    refine hal.out.mono ?_
    rintro r w1 ⟨rfl, k1⟩
    have hp1 : ParAt w1 w.heap.size a b d e s := k1.at hp0 (by simp)
    obtain ⟨c0, c1, c2, c3, c4, -, -, -⟩ := hp1.cells
    have K1 := hid (k0.trans k1)
    clear k1 hw0 hp0 k0 hal
    go_wp2_with fail
    refine (Hbad.out w1).mono ?_
    rintro r w2 ⟨rfl, k2⟩
    have K2 := hid (K1.out.trans k2)
    clear k2
    go_wp2
    go_ret
    exact ⟨rfl, K2.out⟩
end Go.Proofs.YtllcfffpagogbaaDoor
