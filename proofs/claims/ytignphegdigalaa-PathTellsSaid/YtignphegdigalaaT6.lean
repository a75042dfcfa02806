/- PathTells: the walk. -/
import Derived.Test.YtignphegdigalaaT5A
import Derived.Test.YtignphegdigalaaT5B
import Derived.Test.YtignphegdigalaaT5C
import Derived.Test.YtignphegdigalaaT5D
namespace Go.Proofs.Ytignphegdigalaa
open Go.RowKit

set_option maxRecDepth 100000 in
set_option maxHeartbeats 2000000 in
theorem path_tells (p q : List UInt8) (most : Int) (w : World) :
    Calls Try.prog 4 #[.string (S p), .string (S q), .int .i64 most] w fun e w' => e = .returned (.bool true) ∧ Kept [] w w' := by
  have hal := hid (alive5 w)
  have K := hid (pathK w)
  have sp := S_size p; have sq := S_size q
  by_cases hl : 300 < p.length
  · go_enter Try.func4, Try.ntmps4
    go_wp2_with fail
    refine hal.out.mono ?_
    rintro e w1 ⟨rfl, k1⟩
    go_wp2
    go_ret
    exact ⟨rfl, k1⟩
  by_cases hl2 : 300 < q.length
  · go_enter Try.func4, Try.ntmps4
    go_wp2_with fail
    refine hal.out.mono ?_
    rintro e w1 ⟨rfl, k1⟩
    go_wp2
    go_ret
    exact ⟨rfl, k1⟩
  by_cases hp0 : p = []
  · exact path_tells_A p q most w hl hl2 hp0 (by rw [hp0]; decide) (by rw [hp0]; decide)
  · cases hm : meantS p with
    | none => exact path_tells_B p q most w hl hl2 hp0 hm (by cases h : okPath p with | false => rfl | true => rw [meant_ok h] at hm; cases hm)
    | some c =>
      cases hok : okPath p with
      | true => exact path_tells_C p q most w hl hl2 hp0 c hm hok
      | false => exact path_tells_D p q most w hl hl2 hp0 c hm hok
end Go.Proofs.Ytignphegdigalaa
