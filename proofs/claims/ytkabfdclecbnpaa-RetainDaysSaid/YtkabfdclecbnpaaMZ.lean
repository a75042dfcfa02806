import Derived.Test.YtkabfdclecbnpaaZ0
import Derived.Test.YtkabfdclecbnpaaJ9
import Derived.Shelf.SlSortCmp.KitK

/- Two parts of a row of snapshots changed for each other. -/
namespace Go.Proofs.Ytkabfdclecbnpaa
open Go.RowKit Go.Lib Go.Sort Go.Shelf

theorem permIn_step (d dk : Array Sq) (a b i j : Nat) (h : PermIn a b d dk) (hi : a ≤ i) (hib : i < b) (hj : a ≤ j) (hjb : j < b) (hb : b ≤ dk.size) : PermIn a b d (swp dk i j) :=
  permIn_trans _ _ _ _ _ h (swp_permIn dk a b i j hi hib hj hjb hb)

section
attribute [-simp] Try.sizeOf42
end
end Go.Proofs.Ytkabfdclecbnpaa


/- A part of a row of snapshots turned about a place. -/
namespace Go.Proofs.Ytkabfdclecbnpaa
open Go.RowKit Go.Lib Go.Sort Go.Shelf

end Go.Proofs.Ytkabfdclecbnpaa
