/-
  NARROWER THAN 'FOR EVERY INPUT', by the rows' own cells (each row's printed sentence says how): SealBytes: laid · SealBursts: laid · SealCuts: laid · SealKinds: laid · SealJoins: laid · SealSums: laid.
  DERIVED. THE GIVEN ROWS OF THIS SEAT. 6 by the template 'for every input the law returns true; each argument reads behind the call as it read before'; 0 by the template 'total and deterministic' (their statements: YtijkpnggehnmcabDoorTotals.lean).
  GIVEN WITH THE SEED: the statements are not yours to turn. If you find one false, say at which input.
  Laid BY PROGRAM, IN A SANDBOX (cutbox-rows.mjs): the forced cells as the released guide's own fill.sh prints them over the translation db6c4603b2cbf45e… (all of the seat's roots in one cut). By AI agents, Wed Nov 11 2026. No macro, syntax, notation, axiom, sorry.
-/
import Derived.Test.YtijkpnggehnmcabDoorChecked
import GoSem.Claim
import GoSem.ClaimJoined
import GoSem.ClaimMapViews
import Derived.JoinedTies
import Derived.KernelRfl
namespace Go.Proofs.YtijkpnggehnmcabDoor
/- THE CELL 'sum', in the pinned program and in every row, IS THE sha256 OF THE DUMP (.gsa) THAT YtijkpnggehnmcabDoorProg.lean LOADS. Nothing in Lean hashes anything: it is a label: what it is worth is what the hold of that sum in a sandbox is worth. -/
noncomputable def Tryd.pinned : Pinned := { name := "ytijkpnggehnmcabdoor", sum := "db6c4603b2cbf45e51f21272640afadb6e2ac692b92bbaa97acfe728fe796198", checked := Tryd.checked }
namespace Rows
def none {H : Type} : Left H := { results := [], args := [] }

/- WHAT THE LISTED PACKAGE-LEVEL VARIABLES READ AS WHEN THE CALL BEGINS. Each datum BY PROGRAM (the guide's laid-datum.mjs) off the statement by which the dump's own 'gosem.cut.vars' lays the variable. In a bare row this is a premise. The card (YtijkpnggehnmcabDoorCards.lean) ties it to the program's text. -/
def laid_coldstore_seal_nibbles {H : Type} : DataW H := .agg [.lit (.int .u32 0), .lit (.int .u32 274646895), .lit (.int .u32 549293790), .lit (.int .u32 820201905), .lit (.int .u32 1098587580), .lit (.int .u32 1361435347), .lit (.int .u32 1640403810), .lit (.int .u32 1905808397), .lit (.int .u32 2197175160), .lit (.int .u32 2460548119), .lit (.int .u32 2722870694), .lit (.int .u32 2987750089), .lit (.int .u32 3280807620), .lit (.int .u32 3553878443), .lit (.int .u32 3811616794), .lit (.int .u32 4084100981)]

/-- 'coldstorelaw04.SealBytes': WHATEVER THE INPUT: true; the input reads as it did. -/
def sealBytesSpec : ChangeSpec := { name := "sealBytes", fn := fun _ => fun
  | [d1, d2, d3] => { results := [.lit (.bool true)], args := [d1, d2, d3] }
  | _ => none }
def sealBytesRow : OpenClaim := { program := "ytijkpnggehnmcabdoor", sum := "db6c4603b2cbf45e51f21272640afadb6e2ac692b92bbaa97acfe728fe796198", func := "coldstore/coldstorelaw04.SealBytes", spec := "sealBytes", unfollowed := true, recurses := true, named := ["coldstore/seal.nibbles"], apart := false, laid := [("coldstore/seal.nibbles", laid_coldstore_seal_nibbles)] }
def SealBytesSaid : Prop := sealBytesRow.holds Tryd.pinned (OpenSpec.ofChange sealBytesSpec)

/-- ITS FALSE NEIGHBOUR: 'it returns false'. Refute it at one input. -/
def sealBytesWrong : ChangeSpec := { name := "sealBytes", fn := fun _ => fun
  | [d1, d2, d3] => { results := [.lit (.bool false)], args := [d1, d2, d3] }
  | _ => none }
def SealBytesWrongFalsely : Prop := sealBytesRow.holds Tryd.pinned (OpenSpec.ofChange sealBytesWrong)

/-- 'coldstorelaw04.SealBursts': WHATEVER THE INPUT: true; the input reads as it did. -/
def sealBurstsSpec : ChangeSpec := { name := "sealBursts", fn := fun _ => fun
  | [d1, d2, d3, d4] => { results := [.lit (.bool true)], args := [d1, d2, d3, d4] }
  | _ => none }
def sealBurstsRow : OpenClaim := { program := "ytijkpnggehnmcabdoor", sum := "db6c4603b2cbf45e51f21272640afadb6e2ac692b92bbaa97acfe728fe796198", func := "coldstore/coldstorelaw04.SealBursts", spec := "sealBursts", unfollowed := true, recurses := true, named := ["coldstore/seal.nibbles"], apart := false, laid := [("coldstore/seal.nibbles", laid_coldstore_seal_nibbles)] }
def SealBurstsSaid : Prop := sealBurstsRow.holds Tryd.pinned (OpenSpec.ofChange sealBurstsSpec)

/-- ITS FALSE NEIGHBOUR: 'it returns false'. Refute it at one input. -/
def sealBurstsWrong : ChangeSpec := { name := "sealBursts", fn := fun _ => fun
  | [d1, d2, d3, d4] => { results := [.lit (.bool false)], args := [d1, d2, d3, d4] }
  | _ => none }
def SealBurstsWrongFalsely : Prop := sealBurstsRow.holds Tryd.pinned (OpenSpec.ofChange sealBurstsWrong)

/-- 'coldstorelaw04.SealCuts': WHATEVER THE INPUT: true; the input reads as it did. -/
def sealCutsSpec : ChangeSpec := { name := "sealCuts", fn := fun _ => fun
  | [d1, d2] => { results := [.lit (.bool true)], args := [d1, d2] }
  | _ => none }
def sealCutsRow : OpenClaim := { program := "ytijkpnggehnmcabdoor", sum := "db6c4603b2cbf45e51f21272640afadb6e2ac692b92bbaa97acfe728fe796198", func := "coldstore/coldstorelaw04.SealCuts", spec := "sealCuts", unfollowed := true, recurses := true, named := ["coldstore/seal.nibbles"], apart := false, laid := [("coldstore/seal.nibbles", laid_coldstore_seal_nibbles)] }
def SealCutsSaid : Prop := sealCutsRow.holds Tryd.pinned (OpenSpec.ofChange sealCutsSpec)

/-- ITS FALSE NEIGHBOUR: 'it returns false'. Refute it at one input. -/
def sealCutsWrong : ChangeSpec := { name := "sealCuts", fn := fun _ => fun
  | [d1, d2] => { results := [.lit (.bool false)], args := [d1, d2] }
  | _ => none }
def SealCutsWrongFalsely : Prop := sealCutsRow.holds Tryd.pinned (OpenSpec.ofChange sealCutsWrong)

/-- 'coldstorelaw04.SealKinds': WHATEVER THE INPUT: true; the input reads as it did. -/
def sealKindsSpec : ChangeSpec := { name := "sealKinds", fn := fun _ => fun
  | [d1, d2, d3] => { results := [.lit (.bool true)], args := [d1, d2, d3] }
  | _ => none }
def sealKindsRow : OpenClaim := { program := "ytijkpnggehnmcabdoor", sum := "db6c4603b2cbf45e51f21272640afadb6e2ac692b92bbaa97acfe728fe796198", func := "coldstore/coldstorelaw04.SealKinds", spec := "sealKinds", unfollowed := true, recurses := true, named := ["coldstore/seal.nibbles"], apart := false, laid := [("coldstore/seal.nibbles", laid_coldstore_seal_nibbles)] }
def SealKindsSaid : Prop := sealKindsRow.holds Tryd.pinned (OpenSpec.ofChange sealKindsSpec)

/-- ITS FALSE NEIGHBOUR: 'it returns false'. Refute it at one input. -/
def sealKindsWrong : ChangeSpec := { name := "sealKinds", fn := fun _ => fun
  | [d1, d2, d3] => { results := [.lit (.bool false)], args := [d1, d2, d3] }
  | _ => none }
def SealKindsWrongFalsely : Prop := sealKindsRow.holds Tryd.pinned (OpenSpec.ofChange sealKindsWrong)

/-- 'coldstorelaw04.SealJoins': WHATEVER THE INPUT: true; the input reads as it did. -/
def sealJoinsSpec : ChangeSpec := { name := "sealJoins", fn := fun _ => fun
  | [d1, d2, d3] => { results := [.lit (.bool true)], args := [d1, d2, d3] }
  | _ => none }
def sealJoinsRow : OpenClaim := { program := "ytijkpnggehnmcabdoor", sum := "db6c4603b2cbf45e51f21272640afadb6e2ac692b92bbaa97acfe728fe796198", func := "coldstore/coldstorelaw04.SealJoins", spec := "sealJoins", unfollowed := true, recurses := true, named := ["coldstore/seal.nibbles"], apart := false, laid := [("coldstore/seal.nibbles", laid_coldstore_seal_nibbles)] }
def SealJoinsSaid : Prop := sealJoinsRow.holds Tryd.pinned (OpenSpec.ofChange sealJoinsSpec)

/-- ITS FALSE NEIGHBOUR: 'it returns false'. Refute it at one input. -/
def sealJoinsWrong : ChangeSpec := { name := "sealJoins", fn := fun _ => fun
  | [d1, d2, d3] => { results := [.lit (.bool false)], args := [d1, d2, d3] }
  | _ => none }
def SealJoinsWrongFalsely : Prop := sealJoinsRow.holds Tryd.pinned (OpenSpec.ofChange sealJoinsWrong)

/-- 'coldstorelaw04.SealSums': WHATEVER THE INPUT: true; the input reads as it did. -/
def sealSumsSpec : ChangeSpec := { name := "sealSums", fn := fun _ => fun
  | [d1, d2] => { results := [.lit (.bool true)], args := [d1, d2] }
  | _ => none }
def sealSumsRow : OpenClaim := { program := "ytijkpnggehnmcabdoor", sum := "db6c4603b2cbf45e51f21272640afadb6e2ac692b92bbaa97acfe728fe796198", func := "coldstore/coldstorelaw04.SealSums", spec := "sealSums", unfollowed := true, recurses := true, named := ["coldstore/seal.nibbles"], apart := false, laid := [("coldstore/seal.nibbles", laid_coldstore_seal_nibbles)] }
def SealSumsSaid : Prop := sealSumsRow.holds Tryd.pinned (OpenSpec.ofChange sealSumsSpec)

/-- ITS FALSE NEIGHBOUR: 'it returns false'. Refute it at one input. -/
def sealSumsWrong : ChangeSpec := { name := "sealSums", fn := fun _ => fun
  | [d1, d2] => { results := [.lit (.bool false)], args := [d1, d2] }
  | _ => none }
def SealSumsWrongFalsely : Prop := sealSumsRow.holds Tryd.pinned (OpenSpec.ofChange sealSumsWrong)

/- THE SECOND FORM. 'bulk': how many values and letters a reading holds, each counted each time it is reached (what is shared counts as often as it is met; a slice's spare places count too). A statement '..UptoSaid' is the law's where the arguments, and the package variables that the reading takes, are together of bulk at most 1048576: NARROWER than '..Said'. Prove '..Said' where nothing that the law and all that it calls make is longer than what came in: it says more and counts as full. Else prove '..UptoSaid'. A law counts once. -/
mutual
def uptoBulk {H : Type} : DataW H → Nat
  | .lit (.string bytes) => bytes.length + 1
  | .lit _ => 1
  | .nil => 1
  | .ptr d => uptoBulk d + 1
  | .slice elems spare => uptoBulkAll elems + uptoBulkAll spare + 1
  | .agg parts => uptoBulkAll parts + 1
  | .iface _ d => uptoBulk d + 1
  | .map entries => uptoBulkEntries entries + 1
  | .held _ => 1
def uptoBulkAll {H : Type} : List (DataW H) → Nat
  | [] => 0
  | d :: r => uptoBulk d + uptoBulkAll r
def uptoBulkEntries {H : Type} : List (Lit × DataW H) → Nat
  | [] => 0
  | x :: r => uptoBulkEntry x + uptoBulkEntries r
def uptoBulkEntry {H : Type} : Lit × DataW H → Nat
  | (.string bytes, d) => bytes.length + uptoBulk d + 1
  | (_, d) => uptoBulk d + 1
 end
def uptoSmall : (H : Type) → List (DataW H) → Bool := fun _ ds => decide (uptoBulkAll ds ≤ 1048576)
def OpenSpec.upto (s : _root_.Go.ChangeSpec) : _root_.Go.OpenSpec := { _root_.Go.OpenSpec.ofChange s with cond := some uptoSmall }

/-- 'coldstorelaw04.SealBytes', WHERE WHAT IT READS IS OF BULK AT MOST 1048576: true; the input reads as it did. -/
def sealBytesUptoRow : OpenClaim := { program := "ytijkpnggehnmcabdoor", sum := "db6c4603b2cbf45e51f21272640afadb6e2ac692b92bbaa97acfe728fe796198", func := "coldstore/coldstorelaw04.SealBytes", spec := "sealBytes", unfollowed := true, recurses := true, named := ["coldstore/seal.nibbles"], apart := false, laid := [("coldstore/seal.nibbles", laid_coldstore_seal_nibbles)], narrowed := true }
def SealBytesUptoSaid : Prop := sealBytesUptoRow.holds Tryd.pinned (OpenSpec.upto sealBytesSpec)

/-- 'coldstorelaw04.SealBursts', WHERE WHAT IT READS IS OF BULK AT MOST 1048576: true; the input reads as it did. -/
def sealBurstsUptoRow : OpenClaim := { program := "ytijkpnggehnmcabdoor", sum := "db6c4603b2cbf45e51f21272640afadb6e2ac692b92bbaa97acfe728fe796198", func := "coldstore/coldstorelaw04.SealBursts", spec := "sealBursts", unfollowed := true, recurses := true, named := ["coldstore/seal.nibbles"], apart := false, laid := [("coldstore/seal.nibbles", laid_coldstore_seal_nibbles)], narrowed := true }
def SealBurstsUptoSaid : Prop := sealBurstsUptoRow.holds Tryd.pinned (OpenSpec.upto sealBurstsSpec)

/-- 'coldstorelaw04.SealCuts', WHERE WHAT IT READS IS OF BULK AT MOST 1048576: true; the input reads as it did. -/
def sealCutsUptoRow : OpenClaim := { program := "ytijkpnggehnmcabdoor", sum := "db6c4603b2cbf45e51f21272640afadb6e2ac692b92bbaa97acfe728fe796198", func := "coldstore/coldstorelaw04.SealCuts", spec := "sealCuts", unfollowed := true, recurses := true, named := ["coldstore/seal.nibbles"], apart := false, laid := [("coldstore/seal.nibbles", laid_coldstore_seal_nibbles)], narrowed := true }
def SealCutsUptoSaid : Prop := sealCutsUptoRow.holds Tryd.pinned (OpenSpec.upto sealCutsSpec)

/-- 'coldstorelaw04.SealKinds', WHERE WHAT IT READS IS OF BULK AT MOST 1048576: true; the input reads as it did. -/
def sealKindsUptoRow : OpenClaim := { program := "ytijkpnggehnmcabdoor", sum := "db6c4603b2cbf45e51f21272640afadb6e2ac692b92bbaa97acfe728fe796198", func := "coldstore/coldstorelaw04.SealKinds", spec := "sealKinds", unfollowed := true, recurses := true, named := ["coldstore/seal.nibbles"], apart := false, laid := [("coldstore/seal.nibbles", laid_coldstore_seal_nibbles)], narrowed := true }
def SealKindsUptoSaid : Prop := sealKindsUptoRow.holds Tryd.pinned (OpenSpec.upto sealKindsSpec)

/-- 'coldstorelaw04.SealJoins', WHERE WHAT IT READS IS OF BULK AT MOST 1048576: true; the input reads as it did. -/
def sealJoinsUptoRow : OpenClaim := { program := "ytijkpnggehnmcabdoor", sum := "db6c4603b2cbf45e51f21272640afadb6e2ac692b92bbaa97acfe728fe796198", func := "coldstore/coldstorelaw04.SealJoins", spec := "sealJoins", unfollowed := true, recurses := true, named := ["coldstore/seal.nibbles"], apart := false, laid := [("coldstore/seal.nibbles", laid_coldstore_seal_nibbles)], narrowed := true }
def SealJoinsUptoSaid : Prop := sealJoinsUptoRow.holds Tryd.pinned (OpenSpec.upto sealJoinsSpec)

/-- 'coldstorelaw04.SealSums', WHERE WHAT IT READS IS OF BULK AT MOST 1048576: true; the input reads as it did. -/
def sealSumsUptoRow : OpenClaim := { program := "ytijkpnggehnmcabdoor", sum := "db6c4603b2cbf45e51f21272640afadb6e2ac692b92bbaa97acfe728fe796198", func := "coldstore/coldstorelaw04.SealSums", spec := "sealSums", unfollowed := true, recurses := true, named := ["coldstore/seal.nibbles"], apart := false, laid := [("coldstore/seal.nibbles", laid_coldstore_seal_nibbles)], narrowed := true }
def SealSumsUptoSaid : Prop := sealSumsUptoRow.holds Tryd.pinned (OpenSpec.upto sealSumsSpec)

end Rows
end Go.Proofs.YtijkpnggehnmcabDoor
