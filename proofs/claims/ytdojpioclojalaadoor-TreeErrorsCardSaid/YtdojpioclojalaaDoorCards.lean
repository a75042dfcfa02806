/-
  DERIVED. GIVEN WITH THE SEED: THE CARDS: each row of YtdojpioclojalaaDoorRows.lean that lists a variable, with what it lists TIED to the program's text (the seventh form; the later family's looks); each row that meets fmt, with fmt's text TOLD by the authors' own Lean function (tested against real Go, not proved from fmt's source: count such statements apart). THE CARD IS WHAT COUNTS. Prove the row's statement (the work); the ties are given (YtdojpioclojalaaDoorTie.lean); close each card by the builder's one call (the guide's Derived/Test/ToyasCard.lean, 'card_holds'). Laid BY PROGRAM, IN A SANDBOX (cutbox-door.mjs). By AI agents, Wed Nov 11 2026. No macro, syntax, notation, axiom, sorry.
-/
import Derived.Test.YtdojpioclojalaaDoorRows
import GoSem.ClaimSeven
namespace Go.Proofs.YtdojpioclojalaaDoor
namespace Rows

/-- THE TIED CARD OF 'coldstorelaw10.TreeBack'. -/
def treeBackCard : Claim7 := { stood := { row := treeBackRow, standIns := [], harness := (true, "bc41a1242ad2b5ed2c0be9af5fcf30619107f371eb17bc19de5c19d0fcb562b5"), looks := true }, kinds := [], alts := [], laidByText := true, laidKinds := [.data], laidTests := true, laidLooks := .later }
def TreeBackCardSaid : Prop := Claim7.holds Tryd.pinned (.plain (OpenSpec.ofChange treeBackSpec)) treeBackCard

/-- THE TIED CARD OF 'coldstorelaw10.TreeErrors'. -/
def treeErrorsCard : Claim7 := { stood := { row := treeErrorsRow, standIns := [], harness := (true, "bc41a1242ad2b5ed2c0be9af5fcf30619107f371eb17bc19de5c19d0fcb562b5"), looks := true }, kinds := [], alts := [], laidByText := true, laidKinds := [.data], laidTests := true, laidLooks := .later }
def TreeErrorsCardSaid : Prop := Claim7.holds Tryd.pinned (.plain (OpenSpec.ofChange treeErrorsSpec)) treeErrorsCard

/-- THE TIED CARD OF 'coldstorelaw10.TreeBlobs'. -/
def treeBlobsCard : Claim7 := { stood := { row := treeBlobsRow, standIns := [], harness := (true, "bc41a1242ad2b5ed2c0be9af5fcf30619107f371eb17bc19de5c19d0fcb562b5"), looks := true }, kinds := [], alts := [], laidByText := true, laidKinds := [.data], laidTests := true, laidLooks := .later }
def TreeBlobsCardSaid : Prop := Claim7.holds Tryd.pinned (.plain (OpenSpec.ofChange treeBlobsSpec)) treeBlobsCard

/-- THE TIED CARD OF 'coldstorelaw10.TreeFinds'. -/
def treeFindsCard : Claim7 := { stood := { row := treeFindsRow, standIns := [], harness := (true, "bc41a1242ad2b5ed2c0be9af5fcf30619107f371eb17bc19de5c19d0fcb562b5"), looks := true }, kinds := [], alts := [], laidByText := true, laidKinds := [.data], laidTests := true, laidLooks := .later }
def TreeFindsCardSaid : Prop := Claim7.holds Tryd.pinned (.plain (OpenSpec.ofChange treeFindsSpec)) treeFindsCard

/-- THE TIED CARD OF 'coldstorelaw11.SnapSorts'. -/
def snapSortsCard : Claim7 := { stood := { row := snapSortsRow, standIns := [], harness := (true, "bc41a1242ad2b5ed2c0be9af5fcf30619107f371eb17bc19de5c19d0fcb562b5"), looks := true }, kinds := [], alts := [], laidByText := true, laidKinds := [.data, .data, .data], laidTests := true, laidLooks := .later }
def SnapSortsCardSaid : Prop := Claim7.holds Tryd.pinned (.plain (OpenSpec.ofChange snapSortsSpec)) snapSortsCard

/-- THE TIED CARD OF 'coldstorelaw11.SnapOrders'. -/
def snapOrdersCard : Claim7 := { stood := { row := snapOrdersRow, standIns := [], harness := (true, "bc41a1242ad2b5ed2c0be9af5fcf30619107f371eb17bc19de5c19d0fcb562b5"), looks := true }, kinds := [], alts := [], laidByText := true, laidKinds := [.data, .data, .data], laidTests := true, laidLooks := .later }
def SnapOrdersCardSaid : Prop := Claim7.holds Tryd.pinned (.plain (OpenSpec.ofChange snapOrdersSpec)) snapOrdersCard

/-- THE SECOND FORM's CARD OF 'coldstorelaw10.TreeBack'. -/
def treeBackUptoCard : Claim7 := { stood := { row := treeBackUptoRow, standIns := [], harness := (true, "bc41a1242ad2b5ed2c0be9af5fcf30619107f371eb17bc19de5c19d0fcb562b5"), looks := true }, kinds := [], alts := [], laidByText := true, laidKinds := [.data], laidTests := true, laidLooks := .later }
def TreeBackUptoCardSaid : Prop := Claim7.holds Tryd.pinned (.plain (OpenSpec.upto treeBackSpec)) treeBackUptoCard

/-- THE SECOND FORM's CARD OF 'coldstorelaw10.TreeErrors'. -/
def treeErrorsUptoCard : Claim7 := { stood := { row := treeErrorsUptoRow, standIns := [], harness := (true, "bc41a1242ad2b5ed2c0be9af5fcf30619107f371eb17bc19de5c19d0fcb562b5"), looks := true }, kinds := [], alts := [], laidByText := true, laidKinds := [.data], laidTests := true, laidLooks := .later }
def TreeErrorsUptoCardSaid : Prop := Claim7.holds Tryd.pinned (.plain (OpenSpec.upto treeErrorsSpec)) treeErrorsUptoCard

/-- THE SECOND FORM's CARD OF 'coldstorelaw10.TreeBlobs'. -/
def treeBlobsUptoCard : Claim7 := { stood := { row := treeBlobsUptoRow, standIns := [], harness := (true, "bc41a1242ad2b5ed2c0be9af5fcf30619107f371eb17bc19de5c19d0fcb562b5"), looks := true }, kinds := [], alts := [], laidByText := true, laidKinds := [.data], laidTests := true, laidLooks := .later }
def TreeBlobsUptoCardSaid : Prop := Claim7.holds Tryd.pinned (.plain (OpenSpec.upto treeBlobsSpec)) treeBlobsUptoCard

/-- THE SECOND FORM's CARD OF 'coldstorelaw10.TreeFinds'. -/
def treeFindsUptoCard : Claim7 := { stood := { row := treeFindsUptoRow, standIns := [], harness := (true, "bc41a1242ad2b5ed2c0be9af5fcf30619107f371eb17bc19de5c19d0fcb562b5"), looks := true }, kinds := [], alts := [], laidByText := true, laidKinds := [.data], laidTests := true, laidLooks := .later }
def TreeFindsUptoCardSaid : Prop := Claim7.holds Tryd.pinned (.plain (OpenSpec.upto treeFindsSpec)) treeFindsUptoCard

/-- THE SECOND FORM's CARD OF 'coldstorelaw11.SnapSorts'. -/
def snapSortsUptoCard : Claim7 := { stood := { row := snapSortsUptoRow, standIns := [], harness := (true, "bc41a1242ad2b5ed2c0be9af5fcf30619107f371eb17bc19de5c19d0fcb562b5"), looks := true }, kinds := [], alts := [], laidByText := true, laidKinds := [.data, .data, .data], laidTests := true, laidLooks := .later }
def SnapSortsUptoCardSaid : Prop := Claim7.holds Tryd.pinned (.plain (OpenSpec.upto snapSortsSpec)) snapSortsUptoCard

/-- THE SECOND FORM's CARD OF 'coldstorelaw11.SnapOrders'. -/
def snapOrdersUptoCard : Claim7 := { stood := { row := snapOrdersUptoRow, standIns := [], harness := (true, "bc41a1242ad2b5ed2c0be9af5fcf30619107f371eb17bc19de5c19d0fcb562b5"), looks := true }, kinds := [], alts := [], laidByText := true, laidKinds := [.data, .data, .data], laidTests := true, laidLooks := .later }
def SnapOrdersUptoCardSaid : Prop := Claim7.holds Tryd.pinned (.plain (OpenSpec.upto snapOrdersSpec)) snapOrdersUptoCard
end Rows
end Go.Proofs.YtdojpioclojalaaDoor
