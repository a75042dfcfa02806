/-
  No cell of these rows narrows 'for every input' (looked for: loops, veiled, ifaces, maps, wideKeys, modest, calm, conditions, laid).
  DERIVED. THE GIVEN ROWS OF THIS SEAT. 4 by the template 'for every input the law returns true; each argument reads behind the call as it read before'; 0 by the template 'total and deterministic' (their statements: YtnkolgamnakegaaTotals.lean).
  GIVEN WITH THE SEED: the statements are not yours to turn. If you find one false, say at which input.
  Laid BY PROGRAM, IN A SANDBOX (cutbox-rows.mjs): the forced cells as the released guide's own fill.sh prints them over the translation e523541310e31b7c… (all of the seat's roots in one cut). By AI agents, Wed Nov 11 2026. No macro, syntax, notation, axiom, sorry.
-/
import Derived.Test.YtnkolgamnakegaaChecked
import GoSem.Claim
import GoSem.ClaimJoined
import GoSem.ClaimMapViews
import Derived.JoinedTies
import Derived.KernelRfl
namespace Go.Proofs.Ytnkolgamnakegaa
/- THE CELL 'sum', in the pinned program and in every row, IS THE sha256 OF THE DUMP (.gsa) THAT YtnkolgamnakegaaProg.lean LOADS. Nothing in Lean hashes anything: it is a label: what it is worth is what the hold of that sum in a sandbox is worth. -/
noncomputable def Try.pinned : Pinned := { name := "ytnkolgamnakegaa", sum := "e523541310e31b7cb84b3565b601293948396cbdf52b1ecf9fea8336f85575e7", checked := Try.checked }
namespace Rows
def none {H : Type} : Left H := { results := [], args := [] }

/-- 'coldstorelaw06.ObjectPlays': WHATEVER THE INPUT: true; the input reads as it did. -/
def objectPlaysSpec : ChangeSpec := { name := "objectPlays", fn := fun _ => fun
  | [d1, d2, d3, d4, d5] => { results := [.lit (.bool true)], args := [d1, d2, d3, d4, d5] }
  | _ => none }
def objectPlaysRow : OpenClaim := { program := "ytnkolgamnakegaa", sum := "e523541310e31b7cb84b3565b601293948396cbdf52b1ecf9fea8336f85575e7", func := "coldstore/coldstorelaw06.ObjectPlays", spec := "objectPlays", unfollowed := true, recurses := true, apart := false }
def ObjectPlaysSaid : Prop := objectPlaysRow.holds Try.pinned (OpenSpec.ofChange objectPlaysSpec)

/-- ITS FALSE NEIGHBOUR: 'it returns false'. Refute it at one input. -/
def objectPlaysWrong : ChangeSpec := { name := "objectPlays", fn := fun _ => fun
  | [d1, d2, d3, d4, d5] => { results := [.lit (.bool false)], args := [d1, d2, d3, d4, d5] }
  | _ => none }
def ObjectPlaysWrongFalsely : Prop := objectPlaysRow.holds Try.pinned (OpenSpec.ofChange objectPlaysWrong)

/-- 'coldstorelaw07.ColdJobs': WHATEVER THE INPUT: true; the input reads as it did. -/
def coldJobsSpec : ChangeSpec := { name := "coldJobs", fn := fun _ => fun
  | [d1, d2] => { results := [.lit (.bool true)], args := [d1, d2] }
  | _ => none }
def coldJobsRow : OpenClaim := { program := "ytnkolgamnakegaa", sum := "e523541310e31b7cb84b3565b601293948396cbdf52b1ecf9fea8336f85575e7", func := "coldstore/coldstorelaw07.ColdJobs", spec := "coldJobs", unfollowed := true, recurses := true, apart := false }
def ColdJobsSaid : Prop := coldJobsRow.holds Try.pinned (OpenSpec.ofChange coldJobsSpec)

/-- ITS FALSE NEIGHBOUR: 'it returns false'. Refute it at one input. -/
def coldJobsWrong : ChangeSpec := { name := "coldJobs", fn := fun _ => fun
  | [d1, d2] => { results := [.lit (.bool false)], args := [d1, d2] }
  | _ => none }
def ColdJobsWrongFalsely : Prop := coldJobsRow.holds Try.pinned (OpenSpec.ofChange coldJobsWrong)

/-- 'coldstorelaw07.ColdYoungs': WHATEVER THE INPUT: true; the input reads as it did. -/
def coldYoungsSpec : ChangeSpec := { name := "coldYoungs", fn := fun _ => fun
  | [d1, d2, d3] => { results := [.lit (.bool true)], args := [d1, d2, d3] }
  | _ => none }
def coldYoungsRow : OpenClaim := { program := "ytnkolgamnakegaa", sum := "e523541310e31b7cb84b3565b601293948396cbdf52b1ecf9fea8336f85575e7", func := "coldstore/coldstorelaw07.ColdYoungs", spec := "coldYoungs", unfollowed := true, recurses := true, apart := false }
def ColdYoungsSaid : Prop := coldYoungsRow.holds Try.pinned (OpenSpec.ofChange coldYoungsSpec)

/-- ITS FALSE NEIGHBOUR: 'it returns false'. Refute it at one input. -/
def coldYoungsWrong : ChangeSpec := { name := "coldYoungs", fn := fun _ => fun
  | [d1, d2, d3] => { results := [.lit (.bool false)], args := [d1, d2, d3] }
  | _ => none }
def ColdYoungsWrongFalsely : Prop := coldYoungsRow.holds Try.pinned (OpenSpec.ofChange coldYoungsWrong)

/-- 'coldstorelaw07.ColdAgain': WHATEVER THE INPUT: true; the input reads as it did. -/
def coldAgainSpec : ChangeSpec := { name := "coldAgain", fn := fun _ => fun
  | [d1, d2, d3, d4] => { results := [.lit (.bool true)], args := [d1, d2, d3, d4] }
  | _ => none }
def coldAgainRow : OpenClaim := { program := "ytnkolgamnakegaa", sum := "e523541310e31b7cb84b3565b601293948396cbdf52b1ecf9fea8336f85575e7", func := "coldstore/coldstorelaw07.ColdAgain", spec := "coldAgain", unfollowed := true, recurses := true, apart := false }
def ColdAgainSaid : Prop := coldAgainRow.holds Try.pinned (OpenSpec.ofChange coldAgainSpec)

/-- ITS FALSE NEIGHBOUR: 'it returns false'. Refute it at one input. -/
def coldAgainWrong : ChangeSpec := { name := "coldAgain", fn := fun _ => fun
  | [d1, d2, d3, d4] => { results := [.lit (.bool false)], args := [d1, d2, d3, d4] }
  | _ => none }
def ColdAgainWrongFalsely : Prop := coldAgainRow.holds Try.pinned (OpenSpec.ofChange coldAgainWrong)

/- THE SECOND FORM. 'bulk': how many values and letters a reading holds, each counted each time it is reached (what is shared counts as often as it is met; a slice's spare places count too). A statement '..UptoSaid' is the law's where the arguments, and the package variables that the reading takes, are together of bulk at most 1048576: NARROWER than '..Said'. Prove '..Said' where nothing that the law and all that it calls make is longer than what came in: it says more and counts as full. Else prove '..UptoSaid'. A law counts once. -/
mutual
def uptoBulk {H : Type} : DataW H → Nat
  | .lit (.string bytes) => bytes.length + 1
  | .lit _ => 1
  | .nil => 1
  | .ptr d => uptoBulk d + 1
  | .slice elems spare => uptoBulkAll elems + uptoBulkAll spare + 1
  | .agg parts => uptoBulkAll parts + 1
  | .iface _ d => uptoBulk d + 1
  | .map entries => uptoBulkEntries entries + 1
  | .held _ => 1
def uptoBulkAll {H : Type} : List (DataW H) → Nat
  | [] => 0
  | d :: r => uptoBulk d + uptoBulkAll r
def uptoBulkEntries {H : Type} : List (Lit × DataW H) → Nat
  | [] => 0
  | x :: r => uptoBulkEntry x + uptoBulkEntries r
def uptoBulkEntry {H : Type} : Lit × DataW H → Nat
  | (.string bytes, d) => bytes.length + uptoBulk d + 1
  | (_, d) => uptoBulk d + 1
 end
def uptoSmall : (H : Type) → List (DataW H) → Bool := fun _ ds => decide (uptoBulkAll ds ≤ 1048576)
def OpenSpec.upto (s : _root_.Go.ChangeSpec) : _root_.Go.OpenSpec := { _root_.Go.OpenSpec.ofChange s with cond := some uptoSmall }

/-- 'coldstorelaw06.ObjectPlays', WHERE WHAT IT READS IS OF BULK AT MOST 1048576: true; the input reads as it did. -/
def objectPlaysUptoRow : OpenClaim := { program := "ytnkolgamnakegaa", sum := "e523541310e31b7cb84b3565b601293948396cbdf52b1ecf9fea8336f85575e7", func := "coldstore/coldstorelaw06.ObjectPlays", spec := "objectPlays", unfollowed := true, recurses := true, apart := false, narrowed := true }
def ObjectPlaysUptoSaid : Prop := objectPlaysUptoRow.holds Try.pinned (OpenSpec.upto objectPlaysSpec)

/-- 'coldstorelaw07.ColdJobs', WHERE WHAT IT READS IS OF BULK AT MOST 1048576: true; the input reads as it did. -/
def coldJobsUptoRow : OpenClaim := { program := "ytnkolgamnakegaa", sum := "e523541310e31b7cb84b3565b601293948396cbdf52b1ecf9fea8336f85575e7", func := "coldstore/coldstorelaw07.ColdJobs", spec := "coldJobs", unfollowed := true, recurses := true, apart := false, narrowed := true }
def ColdJobsUptoSaid : Prop := coldJobsUptoRow.holds Try.pinned (OpenSpec.upto coldJobsSpec)

/-- 'coldstorelaw07.ColdYoungs', WHERE WHAT IT READS IS OF BULK AT MOST 1048576: true; the input reads as it did. -/
def coldYoungsUptoRow : OpenClaim := { program := "ytnkolgamnakegaa", sum := "e523541310e31b7cb84b3565b601293948396cbdf52b1ecf9fea8336f85575e7", func := "coldstore/coldstorelaw07.ColdYoungs", spec := "coldYoungs", unfollowed := true, recurses := true, apart := false, narrowed := true }
def ColdYoungsUptoSaid : Prop := coldYoungsUptoRow.holds Try.pinned (OpenSpec.upto coldYoungsSpec)

/-- 'coldstorelaw07.ColdAgain', WHERE WHAT IT READS IS OF BULK AT MOST 1048576: true; the input reads as it did. -/
def coldAgainUptoRow : OpenClaim := { program := "ytnkolgamnakegaa", sum := "e523541310e31b7cb84b3565b601293948396cbdf52b1ecf9fea8336f85575e7", func := "coldstore/coldstorelaw07.ColdAgain", spec := "coldAgain", unfollowed := true, recurses := true, apart := false, narrowed := true }
def ColdAgainUptoSaid : Prop := coldAgainUptoRow.holds Try.pinned (OpenSpec.upto coldAgainSpec)

end Rows
end Go.Proofs.Ytnkolgamnakegaa
