/-
  No cell of these rows narrows 'for every input' (looked for: loops, veiled, ifaces, maps, wideKeys, modest, calm, conditions, laid).
  DERIVED. THE GIVEN ROWS OF THIS SEAT. 5 by the template 'for every input the law returns true; each argument reads behind the call as it read before'; 0 by the template 'total and deterministic' (their statements: YtnegpggikllopaaTotals.lean).
  GIVEN WITH THE SEED: the statements are not yours to turn. If you find one false, say at which input.
  Laid BY PROGRAM, IN A SANDBOX (cutbox-rows.mjs): the forced cells as the released guide's own fill.sh prints them over the translation 391488f2cac303be… (all of the seat's roots in one cut). By AI agents, Wed Nov 11 2026. No macro, syntax, notation, axiom, sorry.
-/
import Derived.Test.YtnegpggikllopaaChecked
import GoSem.Claim
import GoSem.ClaimJoined
import GoSem.ClaimMapViews
import Derived.JoinedTies
import Derived.KernelRfl
namespace Go.Proofs.Ytnegpggikllopaa
/- THE CELL 'sum', in the pinned program and in every row, IS THE sha256 OF THE DUMP (.gsa) THAT YtnegpggikllopaaProg.lean LOADS. Nothing in Lean hashes anything: it is a label: what it is worth is what the hold of that sum in a sandbox is worth. -/
noncomputable def Try.pinned : Pinned := { name := "ytnegpggikllopaa", sum := "391488f2cac303be83c3dee1e266a8f23ab27fd00b1b23bee8f02ad75734ee98", checked := Try.checked }
namespace Rows
def none {H : Type} : Left H := { results := [], args := [] }

/-- 'coldstorelaw06.ObjectPlays': WHATEVER THE INPUT: true; the input reads as it did. -/
def objectPlaysSpec : ChangeSpec := { name := "objectPlays", fn := fun _ => fun
  | [d1, d2, d3, d4, d5] => { results := [.lit (.bool true)], args := [d1, d2, d3, d4, d5] }
  | _ => none }
def objectPlaysRow : OpenClaim := { program := "ytnegpggikllopaa", sum := "391488f2cac303be83c3dee1e266a8f23ab27fd00b1b23bee8f02ad75734ee98", func := "coldstore/coldstorelaw06.ObjectPlays", spec := "objectPlays", unfollowed := true, recurses := true, apart := false }
def ObjectPlaysSaid : Prop := objectPlaysRow.holds Try.pinned (OpenSpec.ofChange objectPlaysSpec)

/-- ITS FALSE NEIGHBOUR: 'it returns false'. Refute it at one input. -/
def objectPlaysWrong : ChangeSpec := { name := "objectPlays", fn := fun _ => fun
  | [d1, d2, d3, d4, d5] => { results := [.lit (.bool false)], args := [d1, d2, d3, d4, d5] }
  | _ => none }
def ObjectPlaysWrongFalsely : Prop := objectPlaysRow.holds Try.pinned (OpenSpec.ofChange objectPlaysWrong)

/-- 'coldstorelaw06.ObjectRooms': WHATEVER THE INPUT: true; the input reads as it did. -/
def objectRoomsSpec : ChangeSpec := { name := "objectRooms", fn := fun _ => fun
  | [d1, d2, d3, d4] => { results := [.lit (.bool true)], args := [d1, d2, d3, d4] }
  | _ => none }
def objectRoomsRow : OpenClaim := { program := "ytnegpggikllopaa", sum := "391488f2cac303be83c3dee1e266a8f23ab27fd00b1b23bee8f02ad75734ee98", func := "coldstore/coldstorelaw06.ObjectRooms", spec := "objectRooms", unfollowed := true, recurses := true, apart := false }
def ObjectRoomsSaid : Prop := objectRoomsRow.holds Try.pinned (OpenSpec.ofChange objectRoomsSpec)

/-- ITS FALSE NEIGHBOUR: 'it returns false'. Refute it at one input. -/
def objectRoomsWrong : ChangeSpec := { name := "objectRooms", fn := fun _ => fun
  | [d1, d2, d3, d4] => { results := [.lit (.bool false)], args := [d1, d2, d3, d4] }
  | _ => none }
def ObjectRoomsWrongFalsely : Prop := objectRoomsRow.holds Try.pinned (OpenSpec.ofChange objectRoomsWrong)

/-- 'coldstorelaw06.ObjectLists': WHATEVER THE INPUT: true; the input reads as it did. -/
def objectListsSpec : ChangeSpec := { name := "objectLists", fn := fun _ => fun
  | [d1, d2] => { results := [.lit (.bool true)], args := [d1, d2] }
  | _ => none }
def objectListsRow : OpenClaim := { program := "ytnegpggikllopaa", sum := "391488f2cac303be83c3dee1e266a8f23ab27fd00b1b23bee8f02ad75734ee98", func := "coldstore/coldstorelaw06.ObjectLists", spec := "objectLists", unfollowed := true, recurses := true, apart := false }
def ObjectListsSaid : Prop := objectListsRow.holds Try.pinned (OpenSpec.ofChange objectListsSpec)

/-- ITS FALSE NEIGHBOUR: 'it returns false'. Refute it at one input. -/
def objectListsWrong : ChangeSpec := { name := "objectLists", fn := fun _ => fun
  | [d1, d2] => { results := [.lit (.bool false)], args := [d1, d2] }
  | _ => none }
def ObjectListsWrongFalsely : Prop := objectListsRow.holds Try.pinned (OpenSpec.ofChange objectListsWrong)

/-- 'coldstorelaw06.ObjectFuses': WHATEVER THE INPUT: true; the input reads as it did. -/
def objectFusesSpec : ChangeSpec := { name := "objectFuses", fn := fun _ => fun
  | [d1, d2] => { results := [.lit (.bool true)], args := [d1, d2] }
  | _ => none }
def objectFusesRow : OpenClaim := { program := "ytnegpggikllopaa", sum := "391488f2cac303be83c3dee1e266a8f23ab27fd00b1b23bee8f02ad75734ee98", func := "coldstore/coldstorelaw06.ObjectFuses", spec := "objectFuses", unfollowed := true, recurses := true, apart := false }
def ObjectFusesSaid : Prop := objectFusesRow.holds Try.pinned (OpenSpec.ofChange objectFusesSpec)

/-- ITS FALSE NEIGHBOUR: 'it returns false'. Refute it at one input. -/
def objectFusesWrong : ChangeSpec := { name := "objectFuses", fn := fun _ => fun
  | [d1, d2] => { results := [.lit (.bool false)], args := [d1, d2] }
  | _ => none }
def ObjectFusesWrongFalsely : Prop := objectFusesRow.holds Try.pinned (OpenSpec.ofChange objectFusesWrong)

/-- 'coldstorelaw06.ObjectCopies': WHATEVER THE INPUT: true; the input reads as it did. -/
def objectCopiesSpec : ChangeSpec := { name := "objectCopies", fn := fun _ => fun
  | [d1, d2] => { results := [.lit (.bool true)], args := [d1, d2] }
  | _ => none }
def objectCopiesRow : OpenClaim := { program := "ytnegpggikllopaa", sum := "391488f2cac303be83c3dee1e266a8f23ab27fd00b1b23bee8f02ad75734ee98", func := "coldstore/coldstorelaw06.ObjectCopies", spec := "objectCopies", unfollowed := true, recurses := true, apart := false }
def ObjectCopiesSaid : Prop := objectCopiesRow.holds Try.pinned (OpenSpec.ofChange objectCopiesSpec)

/-- ITS FALSE NEIGHBOUR: 'it returns false'. Refute it at one input. -/
def objectCopiesWrong : ChangeSpec := { name := "objectCopies", fn := fun _ => fun
  | [d1, d2] => { results := [.lit (.bool false)], args := [d1, d2] }
  | _ => none }
def ObjectCopiesWrongFalsely : Prop := objectCopiesRow.holds Try.pinned (OpenSpec.ofChange objectCopiesWrong)

/- THE SECOND FORM. 'bulk': how many values and letters a reading holds, each counted each time it is reached (what is shared counts as often as it is met; a slice's spare places count too). A statement '..UptoSaid' is the law's where the arguments, and the package variables that the reading takes, are together of bulk at most 1048576: NARROWER than '..Said'. Prove '..Said' where nothing that the law and all that it calls make is longer than what came in: it says more and counts as full. Else prove '..UptoSaid'. A law counts once. -/
mutual
def uptoBulk {H : Type} : DataW H → Nat
  | .lit (.string bytes) => bytes.length + 1
  | .lit _ => 1
  | .nil => 1
  | .ptr d => uptoBulk d + 1
  | .slice elems spare => uptoBulkAll elems + uptoBulkAll spare + 1
  | .agg parts => uptoBulkAll parts + 1
  | .iface _ d => uptoBulk d + 1
  | .map entries => uptoBulkEntries entries + 1
  | .held _ => 1
def uptoBulkAll {H : Type} : List (DataW H) → Nat
  | [] => 0
  | d :: r => uptoBulk d + uptoBulkAll r
def uptoBulkEntries {H : Type} : List (Lit × DataW H) → Nat
  | [] => 0
  | x :: r => uptoBulkEntry x + uptoBulkEntries r
def uptoBulkEntry {H : Type} : Lit × DataW H → Nat
  | (.string bytes, d) => bytes.length + uptoBulk d + 1
  | (_, d) => uptoBulk d + 1
 end
def uptoSmall : (H : Type) → List (DataW H) → Bool := fun _ ds => decide (uptoBulkAll ds ≤ 1048576)
def OpenSpec.upto (s : _root_.Go.ChangeSpec) : _root_.Go.OpenSpec := { _root_.Go.OpenSpec.ofChange s with cond := some uptoSmall }

/-- 'coldstorelaw06.ObjectPlays', WHERE WHAT IT READS IS OF BULK AT MOST 1048576: true; the input reads as it did. -/
def objectPlaysUptoRow : OpenClaim := { program := "ytnegpggikllopaa", sum := "391488f2cac303be83c3dee1e266a8f23ab27fd00b1b23bee8f02ad75734ee98", func := "coldstore/coldstorelaw06.ObjectPlays", spec := "objectPlays", unfollowed := true, recurses := true, apart := false, narrowed := true }
def ObjectPlaysUptoSaid : Prop := objectPlaysUptoRow.holds Try.pinned (OpenSpec.upto objectPlaysSpec)

/-- 'coldstorelaw06.ObjectRooms', WHERE WHAT IT READS IS OF BULK AT MOST 1048576: true; the input reads as it did. -/
def objectRoomsUptoRow : OpenClaim := { program := "ytnegpggikllopaa", sum := "391488f2cac303be83c3dee1e266a8f23ab27fd00b1b23bee8f02ad75734ee98", func := "coldstore/coldstorelaw06.ObjectRooms", spec := "objectRooms", unfollowed := true, recurses := true, apart := false, narrowed := true }
def ObjectRoomsUptoSaid : Prop := objectRoomsUptoRow.holds Try.pinned (OpenSpec.upto objectRoomsSpec)

/-- 'coldstorelaw06.ObjectLists', WHERE WHAT IT READS IS OF BULK AT MOST 1048576: true; the input reads as it did. -/
def objectListsUptoRow : OpenClaim := { program := "ytnegpggikllopaa", sum := "391488f2cac303be83c3dee1e266a8f23ab27fd00b1b23bee8f02ad75734ee98", func := "coldstore/coldstorelaw06.ObjectLists", spec := "objectLists", unfollowed := true, recurses := true, apart := false, narrowed := true }
def ObjectListsUptoSaid : Prop := objectListsUptoRow.holds Try.pinned (OpenSpec.upto objectListsSpec)

/-- 'coldstorelaw06.ObjectFuses', WHERE WHAT IT READS IS OF BULK AT MOST 1048576: true; the input reads as it did. -/
def objectFusesUptoRow : OpenClaim := { program := "ytnegpggikllopaa", sum := "391488f2cac303be83c3dee1e266a8f23ab27fd00b1b23bee8f02ad75734ee98", func := "coldstore/coldstorelaw06.ObjectFuses", spec := "objectFuses", unfollowed := true, recurses := true, apart := false, narrowed := true }
def ObjectFusesUptoSaid : Prop := objectFusesUptoRow.holds Try.pinned (OpenSpec.upto objectFusesSpec)

/-- 'coldstorelaw06.ObjectCopies', WHERE WHAT IT READS IS OF BULK AT MOST 1048576: true; the input reads as it did. -/
def objectCopiesUptoRow : OpenClaim := { program := "ytnegpggikllopaa", sum := "391488f2cac303be83c3dee1e266a8f23ab27fd00b1b23bee8f02ad75734ee98", func := "coldstore/coldstorelaw06.ObjectCopies", spec := "objectCopies", unfollowed := true, recurses := true, apart := false, narrowed := true }
def ObjectCopiesUptoSaid : Prop := objectCopiesUptoRow.holds Try.pinned (OpenSpec.upto objectCopiesSpec)

end Rows
end Go.Proofs.Ytnegpggikllopaa
