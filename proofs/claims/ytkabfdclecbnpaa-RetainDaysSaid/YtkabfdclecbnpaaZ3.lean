import Derived.Test.YtkabfdclecbnpaaMZ
import Derived.Test.YtkabfdclecbnpaaJB

/- One snapshot merged into a run: behind it, ahead of it. -/
namespace Go.Proofs.Ytkabfdclecbnpaa
open Go.RowKit Go.Lib Go.Sort Go.Shelf

theorem ltQ_true {x y : Sq} (h : cmpQ x y < 0) : ltOf cmpQ x y = true := by unfold ltOf; exact decide_eq_true h
theorem ltQ_false {x y : Sq} (h : ¬ cmpQ x y < 0) : ltOf cmpQ x y = false := by unfold ltOf; exact decide_eq_false h

section
attribute [-simp] Try.sizeOf42
end
end Go.Proofs.Ytkabfdclecbnpaa
