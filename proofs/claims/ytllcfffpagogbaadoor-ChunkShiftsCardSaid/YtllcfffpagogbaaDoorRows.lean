/-
  NARROWER THAN 'FOR EVERY INPUT', by the rows' own cells (each row's printed sentence says how): ChunkSplits: laid · ChunkShifts: laid · TreeBack: laid · TreeErrors: laid · TreeBlobs: laid · TreeFinds: laid.
  DERIVED. THE GIVEN ROWS OF THIS SEAT. 6 by the template 'for every input the law returns true; each argument reads behind the call as it read before'; 0 by the template 'total and deterministic' (their statements: YtllcfffpagogbaaDoorTotals.lean).
  GIVEN WITH THE SEED: the statements are not yours to turn. If you find one false, say at which input.
  Laid BY PROGRAM, IN A SANDBOX (cutbox-rows.mjs): the forced cells as the released guide's own fill.sh prints them over the translation ad775d9077eb2390… (all of the seat's roots in one cut). By AI agents, Wed Nov 11 2026. No macro, syntax, notation, axiom, sorry.
-/
import Derived.Test.YtllcfffpagogbaaDoorChecked
import GoSem.Claim
import GoSem.ClaimJoined
import GoSem.ClaimMapViews
import Derived.JoinedTies
import Derived.KernelRfl
namespace Go.Proofs.YtllcfffpagogbaaDoor
/- THE CELL 'sum', in the pinned program and in every row, IS THE sha256 OF THE DUMP (.gsa) THAT YtllcfffpagogbaaDoorProg.lean LOADS. Nothing in Lean hashes anything: it is a label: what it is worth is what the hold of that sum in a sandbox is worth. -/
noncomputable def Tryd.pinned : Pinned := { name := "ytllcfffpagogbaadoor", sum := "ad775d9077eb23904fdb299f295807951cd166963ee7eb91fb9e69ea105c3152", checked := Tryd.checked }
namespace Rows
def none {H : Type} : Left H := { results := [], args := [] }

/- WHAT THE LISTED PACKAGE-LEVEL VARIABLES READ AS WHEN THE CALL BEGINS. Each datum BY PROGRAM (the guide's laid-datum.mjs) off the statement by which the dump's own 'gosem.cut.vars' lays the variable. In a bare row this is a premise. The card (YtllcfffpagogbaaDoorCards.lean) ties it to the program's text. -/
def laid_math_bits_deBruijn32tab {H : Type} : DataW H := .agg [.lit (.int .u8 0), .lit (.int .u8 1), .lit (.int .u8 28), .lit (.int .u8 2), .lit (.int .u8 29), .lit (.int .u8 14), .lit (.int .u8 24), .lit (.int .u8 3), .lit (.int .u8 30), .lit (.int .u8 22), .lit (.int .u8 20), .lit (.int .u8 15), .lit (.int .u8 25), .lit (.int .u8 17), .lit (.int .u8 4), .lit (.int .u8 8), .lit (.int .u8 31), .lit (.int .u8 27), .lit (.int .u8 13), .lit (.int .u8 23), .lit (.int .u8 21), .lit (.int .u8 19), .lit (.int .u8 16), .lit (.int .u8 7), .lit (.int .u8 26), .lit (.int .u8 12), .lit (.int .u8 18), .lit (.int .u8 6), .lit (.int .u8 11), .lit (.int .u8 5), .lit (.int .u8 10), .lit (.int .u8 9)]
def laid_coldstore_seal_nibbles {H : Type} : DataW H := .agg [.lit (.int .u32 0), .lit (.int .u32 274646895), .lit (.int .u32 549293790), .lit (.int .u32 820201905), .lit (.int .u32 1098587580), .lit (.int .u32 1361435347), .lit (.int .u32 1640403810), .lit (.int .u32 1905808397), .lit (.int .u32 2197175160), .lit (.int .u32 2460548119), .lit (.int .u32 2722870694), .lit (.int .u32 2987750089), .lit (.int .u32 3280807620), .lit (.int .u32 3553878443), .lit (.int .u32 3811616794), .lit (.int .u32 4084100981)]

/-- 'coldstorelaw09.ChunkSplits': WHATEVER THE INPUT: true; the input reads as it did. -/
def chunkSplitsSpec : ChangeSpec := { name := "chunkSplits", fn := fun _ => fun
  | [d1, d2, d3] => { results := [.lit (.bool true)], args := [d1, d2, d3] }
  | _ => none }
def chunkSplitsRow : OpenClaim := { program := "ytllcfffpagogbaadoor", sum := "ad775d9077eb23904fdb299f295807951cd166963ee7eb91fb9e69ea105c3152", func := "coldstore/coldstorelaw09.ChunkSplits", spec := "chunkSplits", unfollowed := true, recurses := true, named := ["math/bits.deBruijn32tab"], apart := false, laid := [("math/bits.deBruijn32tab", laid_math_bits_deBruijn32tab)] }
def ChunkSplitsSaid : Prop := chunkSplitsRow.holds Tryd.pinned (OpenSpec.ofChange chunkSplitsSpec)

/-- ITS FALSE NEIGHBOUR: 'it returns false'. Refute it at one input. -/
def chunkSplitsWrong : ChangeSpec := { name := "chunkSplits", fn := fun _ => fun
  | [d1, d2, d3] => { results := [.lit (.bool false)], args := [d1, d2, d3] }
  | _ => none }
def ChunkSplitsWrongFalsely : Prop := chunkSplitsRow.holds Tryd.pinned (OpenSpec.ofChange chunkSplitsWrong)

/-- 'coldstorelaw09.ChunkShifts': WHATEVER THE INPUT: true; the input reads as it did. -/
def chunkShiftsSpec : ChangeSpec := { name := "chunkShifts", fn := fun _ => fun
  | [d1, d2, d3] => { results := [.lit (.bool true)], args := [d1, d2, d3] }
  | _ => none }
def chunkShiftsRow : OpenClaim := { program := "ytllcfffpagogbaadoor", sum := "ad775d9077eb23904fdb299f295807951cd166963ee7eb91fb9e69ea105c3152", func := "coldstore/coldstorelaw09.ChunkShifts", spec := "chunkShifts", unfollowed := true, recurses := true, named := ["math/bits.deBruijn32tab"], apart := false, laid := [("math/bits.deBruijn32tab", laid_math_bits_deBruijn32tab)] }
def ChunkShiftsSaid : Prop := chunkShiftsRow.holds Tryd.pinned (OpenSpec.ofChange chunkShiftsSpec)

/-- ITS FALSE NEIGHBOUR: 'it returns false'. Refute it at one input. -/
def chunkShiftsWrong : ChangeSpec := { name := "chunkShifts", fn := fun _ => fun
  | [d1, d2, d3] => { results := [.lit (.bool false)], args := [d1, d2, d3] }
  | _ => none }
def ChunkShiftsWrongFalsely : Prop := chunkShiftsRow.holds Tryd.pinned (OpenSpec.ofChange chunkShiftsWrong)

/-- 'coldstorelaw10.TreeBack': WHATEVER THE INPUT: true; the input reads as it did. -/
def treeBackSpec : ChangeSpec := { name := "treeBack", fn := fun _ => fun
  | [d1, d2, d3, d4, d5] => { results := [.lit (.bool true)], args := [d1, d2, d3, d4, d5] }
  | _ => none }
def treeBackRow : OpenClaim := { program := "ytllcfffpagogbaadoor", sum := "ad775d9077eb23904fdb299f295807951cd166963ee7eb91fb9e69ea105c3152", func := "coldstore/coldstorelaw10.TreeBack", spec := "treeBack", inPlace := ["internal/bytealg.IndexByteString", "internal/bytealg.IndexString"], unfollowed := true, recurses := true, named := ["internal/bytealg.MaxLen", "coldstore/seal.nibbles"], apart := false, laid := [("coldstore/seal.nibbles", laid_coldstore_seal_nibbles)] }
def TreeBackSaid : Prop := treeBackRow.holds Tryd.pinned (OpenSpec.ofChange treeBackSpec)

/-- ITS FALSE NEIGHBOUR: 'it returns false'. Refute it at one input. -/
def treeBackWrong : ChangeSpec := { name := "treeBack", fn := fun _ => fun
  | [d1, d2, d3, d4, d5] => { results := [.lit (.bool false)], args := [d1, d2, d3, d4, d5] }
  | _ => none }
def TreeBackWrongFalsely : Prop := treeBackRow.holds Tryd.pinned (OpenSpec.ofChange treeBackWrong)

/-- 'coldstorelaw10.TreeErrors': WHATEVER THE INPUT: true; the input reads as it did. -/
def treeErrorsSpec : ChangeSpec := { name := "treeErrors", fn := fun _ => fun
  | [d1, d2] => { results := [.lit (.bool true)], args := [d1, d2] }
  | _ => none }
def treeErrorsRow : OpenClaim := { program := "ytllcfffpagogbaadoor", sum := "ad775d9077eb23904fdb299f295807951cd166963ee7eb91fb9e69ea105c3152", func := "coldstore/coldstorelaw10.TreeErrors", spec := "treeErrors", inPlace := ["internal/bytealg.IndexByteString", "internal/bytealg.IndexString"], unfollowed := true, recurses := true, named := ["internal/bytealg.MaxLen", "coldstore/seal.nibbles"], apart := false, laid := [("coldstore/seal.nibbles", laid_coldstore_seal_nibbles)] }
def TreeErrorsSaid : Prop := treeErrorsRow.holds Tryd.pinned (OpenSpec.ofChange treeErrorsSpec)

/-- ITS FALSE NEIGHBOUR: 'it returns false'. Refute it at one input. -/
def treeErrorsWrong : ChangeSpec := { name := "treeErrors", fn := fun _ => fun
  | [d1, d2] => { results := [.lit (.bool false)], args := [d1, d2] }
  | _ => none }
def TreeErrorsWrongFalsely : Prop := treeErrorsRow.holds Tryd.pinned (OpenSpec.ofChange treeErrorsWrong)

/-- 'coldstorelaw10.TreeBlobs': WHATEVER THE INPUT: true; the input reads as it did. -/
def treeBlobsSpec : ChangeSpec := { name := "treeBlobs", fn := fun _ => fun
  | [d1, d2] => { results := [.lit (.bool true)], args := [d1, d2] }
  | _ => none }
def treeBlobsRow : OpenClaim := { program := "ytllcfffpagogbaadoor", sum := "ad775d9077eb23904fdb299f295807951cd166963ee7eb91fb9e69ea105c3152", func := "coldstore/coldstorelaw10.TreeBlobs", spec := "treeBlobs", inPlace := ["internal/bytealg.IndexByteString", "internal/bytealg.IndexString"], unfollowed := true, recurses := true, named := ["internal/bytealg.MaxLen", "coldstore/seal.nibbles"], apart := false, laid := [("coldstore/seal.nibbles", laid_coldstore_seal_nibbles)] }
def TreeBlobsSaid : Prop := treeBlobsRow.holds Tryd.pinned (OpenSpec.ofChange treeBlobsSpec)

/-- ITS FALSE NEIGHBOUR: 'it returns false'. Refute it at one input. -/
def treeBlobsWrong : ChangeSpec := { name := "treeBlobs", fn := fun _ => fun
  | [d1, d2] => { results := [.lit (.bool false)], args := [d1, d2] }
  | _ => none }
def TreeBlobsWrongFalsely : Prop := treeBlobsRow.holds Tryd.pinned (OpenSpec.ofChange treeBlobsWrong)

/-- 'coldstorelaw10.TreeFinds': WHATEVER THE INPUT: true; the input reads as it did. -/
def treeFindsSpec : ChangeSpec := { name := "treeFinds", fn := fun _ => fun
  | [d1, d2] => { results := [.lit (.bool true)], args := [d1, d2] }
  | _ => none }
def treeFindsRow : OpenClaim := { program := "ytllcfffpagogbaadoor", sum := "ad775d9077eb23904fdb299f295807951cd166963ee7eb91fb9e69ea105c3152", func := "coldstore/coldstorelaw10.TreeFinds", spec := "treeFinds", inPlace := ["internal/bytealg.IndexByteString", "internal/bytealg.IndexString"], unfollowed := true, recurses := true, named := ["internal/bytealg.MaxLen", "coldstore/seal.nibbles"], apart := false, laid := [("coldstore/seal.nibbles", laid_coldstore_seal_nibbles)] }
def TreeFindsSaid : Prop := treeFindsRow.holds Tryd.pinned (OpenSpec.ofChange treeFindsSpec)

/-- ITS FALSE NEIGHBOUR: 'it returns false'. Refute it at one input. -/
def treeFindsWrong : ChangeSpec := { name := "treeFinds", fn := fun _ => fun
  | [d1, d2] => { results := [.lit (.bool false)], args := [d1, d2] }
  | _ => none }
def TreeFindsWrongFalsely : Prop := treeFindsRow.holds Tryd.pinned (OpenSpec.ofChange treeFindsWrong)

/- THE SECOND FORM. 'bulk': how many values and letters a reading holds, each counted each time it is reached (what is shared counts as often as it is met; a slice's spare places count too). A statement '..UptoSaid' is the law's where the arguments, and the package variables that the reading takes, are together of bulk at most 1048576: NARROWER than '..Said'. Prove '..Said' where nothing that the law and all that it calls make is longer than what came in: it says more and counts as full. Else prove '..UptoSaid'. A law counts once. -/
mutual
def uptoBulk {H : Type} : DataW H → Nat
  | .lit (.string bytes) => bytes.length + 1
  | .lit _ => 1
  | .nil => 1
  | .ptr d => uptoBulk d + 1
  | .slice elems spare => uptoBulkAll elems + uptoBulkAll spare + 1
  | .agg parts => uptoBulkAll parts + 1
  | .iface _ d => uptoBulk d + 1
  | .map entries => uptoBulkEntries entries + 1
  | .held _ => 1
def uptoBulkAll {H : Type} : List (DataW H) → Nat
  | [] => 0
  | d :: r => uptoBulk d + uptoBulkAll r
def uptoBulkEntries {H : Type} : List (Lit × DataW H) → Nat
  | [] => 0
  | x :: r => uptoBulkEntry x + uptoBulkEntries r
def uptoBulkEntry {H : Type} : Lit × DataW H → Nat
  | (.string bytes, d) => bytes.length + uptoBulk d + 1
  | (_, d) => uptoBulk d + 1
 end
def uptoSmall : (H : Type) → List (DataW H) → Bool := fun _ ds => decide (uptoBulkAll ds ≤ 1048576)
def OpenSpec.upto (s : _root_.Go.ChangeSpec) : _root_.Go.OpenSpec := { _root_.Go.OpenSpec.ofChange s with cond := some uptoSmall }

/-- 'coldstorelaw09.ChunkSplits', WHERE WHAT IT READS IS OF BULK AT MOST 1048576: true; the input reads as it did. -/
def chunkSplitsUptoRow : OpenClaim := { program := "ytllcfffpagogbaadoor", sum := "ad775d9077eb23904fdb299f295807951cd166963ee7eb91fb9e69ea105c3152", func := "coldstore/coldstorelaw09.ChunkSplits", spec := "chunkSplits", unfollowed := true, recurses := true, named := ["math/bits.deBruijn32tab"], apart := false, laid := [("math/bits.deBruijn32tab", laid_math_bits_deBruijn32tab)], narrowed := true }
def ChunkSplitsUptoSaid : Prop := chunkSplitsUptoRow.holds Tryd.pinned (OpenSpec.upto chunkSplitsSpec)

/-- 'coldstorelaw09.ChunkShifts', WHERE WHAT IT READS IS OF BULK AT MOST 1048576: true; the input reads as it did. -/
def chunkShiftsUptoRow : OpenClaim := { program := "ytllcfffpagogbaadoor", sum := "ad775d9077eb23904fdb299f295807951cd166963ee7eb91fb9e69ea105c3152", func := "coldstore/coldstorelaw09.ChunkShifts", spec := "chunkShifts", unfollowed := true, recurses := true, named := ["math/bits.deBruijn32tab"], apart := false, laid := [("math/bits.deBruijn32tab", laid_math_bits_deBruijn32tab)], narrowed := true }
def ChunkShiftsUptoSaid : Prop := chunkShiftsUptoRow.holds Tryd.pinned (OpenSpec.upto chunkShiftsSpec)

/-- 'coldstorelaw10.TreeBack', WHERE WHAT IT READS IS OF BULK AT MOST 1048576: true; the input reads as it did. -/
def treeBackUptoRow : OpenClaim := { program := "ytllcfffpagogbaadoor", sum := "ad775d9077eb23904fdb299f295807951cd166963ee7eb91fb9e69ea105c3152", func := "coldstore/coldstorelaw10.TreeBack", spec := "treeBack", inPlace := ["internal/bytealg.IndexByteString", "internal/bytealg.IndexString"], unfollowed := true, recurses := true, named := ["internal/bytealg.MaxLen", "coldstore/seal.nibbles"], apart := false, laid := [("coldstore/seal.nibbles", laid_coldstore_seal_nibbles)], narrowed := true }
def TreeBackUptoSaid : Prop := treeBackUptoRow.holds Tryd.pinned (OpenSpec.upto treeBackSpec)

/-- 'coldstorelaw10.TreeErrors', WHERE WHAT IT READS IS OF BULK AT MOST 1048576: true; the input reads as it did. -/
def treeErrorsUptoRow : OpenClaim := { program := "ytllcfffpagogbaadoor", sum := "ad775d9077eb23904fdb299f295807951cd166963ee7eb91fb9e69ea105c3152", func := "coldstore/coldstorelaw10.TreeErrors", spec := "treeErrors", inPlace := ["internal/bytealg.IndexByteString", "internal/bytealg.IndexString"], unfollowed := true, recurses := true, named := ["internal/bytealg.MaxLen", "coldstore/seal.nibbles"], apart := false, laid := [("coldstore/seal.nibbles", laid_coldstore_seal_nibbles)], narrowed := true }
def TreeErrorsUptoSaid : Prop := treeErrorsUptoRow.holds Tryd.pinned (OpenSpec.upto treeErrorsSpec)

/-- 'coldstorelaw10.TreeBlobs', WHERE WHAT IT READS IS OF BULK AT MOST 1048576: true; the input reads as it did. -/
def treeBlobsUptoRow : OpenClaim := { program := "ytllcfffpagogbaadoor", sum := "ad775d9077eb23904fdb299f295807951cd166963ee7eb91fb9e69ea105c3152", func := "coldstore/coldstorelaw10.TreeBlobs", spec := "treeBlobs", inPlace := ["internal/bytealg.IndexByteString", "internal/bytealg.IndexString"], unfollowed := true, recurses := true, named := ["internal/bytealg.MaxLen", "coldstore/seal.nibbles"], apart := false, laid := [("coldstore/seal.nibbles", laid_coldstore_seal_nibbles)], narrowed := true }
def TreeBlobsUptoSaid : Prop := treeBlobsUptoRow.holds Tryd.pinned (OpenSpec.upto treeBlobsSpec)

/-- 'coldstorelaw10.TreeFinds', WHERE WHAT IT READS IS OF BULK AT MOST 1048576: true; the input reads as it did. -/
def treeFindsUptoRow : OpenClaim := { program := "ytllcfffpagogbaadoor", sum := "ad775d9077eb23904fdb299f295807951cd166963ee7eb91fb9e69ea105c3152", func := "coldstore/coldstorelaw10.TreeFinds", spec := "treeFinds", inPlace := ["internal/bytealg.IndexByteString", "internal/bytealg.IndexString"], unfollowed := true, recurses := true, named := ["internal/bytealg.MaxLen", "coldstore/seal.nibbles"], apart := false, laid := [("coldstore/seal.nibbles", laid_coldstore_seal_nibbles)], narrowed := true }
def TreeFindsUptoSaid : Prop := treeFindsUptoRow.holds Tryd.pinned (OpenSpec.upto treeFindsSpec)

end Rows
end Go.Proofs.YtllcfffpagogbaaDoor
