import Derived.Test.YtkabfdclecbnpaaZ3

/- Two runs of snapshots merged in place. -/
namespace Go.Proofs.Ytkabfdclecbnpaa
open Go.RowKit Go.Lib Go.Sort Go.Shelf

section
attribute [-simp] Try.sizeOf42
end
end Go.Proofs.Ytkabfdclecbnpaa
