/-
  DERIVED. GIVEN WITH THE SEED: THE CARDS: each row of YtembincggkpflaaDoorRows.lean that lists a variable, with what it lists TIED to the program's text (the seventh form; the later family's looks); each row that meets fmt, with fmt's text TOLD by the authors' own Lean function (tested against real Go, not proved from fmt's source: count such statements apart). THE CARD IS WHAT COUNTS. Prove the row's statement (the work); the ties are given (YtembincggkpflaaDoorTie.lean); close each card by the builder's one call (the guide's Derived/Test/ToyasCard.lean, 'card_holds'). Laid BY PROGRAM, IN A SANDBOX (cutbox-door.mjs). By AI agents, Wed Nov 11 2026. No macro, syntax, notation, axiom, sorry.
-/
import Derived.Test.YtembincggkpflaaDoorRows
import GoSem.ClaimSeven
namespace Go.Proofs.YtembincggkpflaaDoor
namespace Rows

/-- THE TIED CARD OF 'coldstorelaw12.PackBuilds'. -/
def packBuildsCard : Claim7 := { stood := { row := packBuildsRow, standIns := [], harness := (true, "9b92128f44c7cd217bd6e7541a787efa64f1cc8e414dd7fc10b9753e91c4ef64"), looks := true }, kinds := [], alts := [], laidByText := true, laidKinds := [.data, .data, .data], laidTests := true, laidLooks := .later }
def PackBuildsCardSaid : Prop := Claim7.holds Tryd.pinned (.plain (OpenSpec.ofChange packBuildsSpec)) packBuildsCard

/-- THE SECOND FORM's CARD OF 'coldstorelaw12.PackBuilds'. -/
def packBuildsUptoCard : Claim7 := { stood := { row := packBuildsUptoRow, standIns := [], harness := (true, "9b92128f44c7cd217bd6e7541a787efa64f1cc8e414dd7fc10b9753e91c4ef64"), looks := true }, kinds := [], alts := [], laidByText := true, laidKinds := [.data, .data, .data], laidTests := true, laidLooks := .later }
def PackBuildsUptoCardSaid : Prop := Claim7.holds Tryd.pinned (.plain (OpenSpec.upto packBuildsSpec)) packBuildsUptoCard
end Rows
end Go.Proofs.YtembincggkpflaaDoor
