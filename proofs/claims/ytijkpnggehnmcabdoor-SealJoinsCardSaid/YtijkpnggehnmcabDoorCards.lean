/-
  DERIVED. GIVEN WITH THE SEED: THE CARDS: each row of YtijkpnggehnmcabDoorRows.lean that lists a variable, with what it lists TIED to the program's text (the seventh form; the later family's looks); each row that meets fmt, with fmt's text TOLD by the authors' own Lean function (tested against real Go, not proved from fmt's source: count such statements apart). THE CARD IS WHAT COUNTS. Prove the row's statement (the work); the ties are given (YtijkpnggehnmcabDoorTie.lean); close each card by the builder's one call (the guide's Derived/Test/ToyasCard.lean, 'card_holds'). Laid BY PROGRAM, IN A SANDBOX (cutbox-door.mjs). By AI agents, Wed Nov 11 2026. No macro, syntax, notation, axiom, sorry.
-/
import Derived.Test.YtijkpnggehnmcabDoorRows
import GoSem.ClaimSeven
namespace Go.Proofs.YtijkpnggehnmcabDoor
namespace Rows

/-- THE TIED CARD OF 'coldstorelaw04.SealBytes'. -/
def sealBytesCard : Claim7 := { stood := { row := sealBytesRow, standIns := [], harness := (true, "7fc202a70b13cbe30f32c0f39e66a0fa1cbfdd8eccfd7a7fe095cc6a5fe6470b"), looks := true }, kinds := [], alts := [], laidByText := true, laidKinds := [.data], laidTests := true, laidLooks := .later }
def SealBytesCardSaid : Prop := Claim7.holds Tryd.pinned (.plain (OpenSpec.ofChange sealBytesSpec)) sealBytesCard

/-- THE TIED CARD OF 'coldstorelaw04.SealBursts'. -/
def sealBurstsCard : Claim7 := { stood := { row := sealBurstsRow, standIns := [], harness := (true, "7fc202a70b13cbe30f32c0f39e66a0fa1cbfdd8eccfd7a7fe095cc6a5fe6470b"), looks := true }, kinds := [], alts := [], laidByText := true, laidKinds := [.data], laidTests := true, laidLooks := .later }
def SealBurstsCardSaid : Prop := Claim7.holds Tryd.pinned (.plain (OpenSpec.ofChange sealBurstsSpec)) sealBurstsCard

/-- THE TIED CARD OF 'coldstorelaw04.SealCuts'. -/
def sealCutsCard : Claim7 := { stood := { row := sealCutsRow, standIns := [], harness := (true, "7fc202a70b13cbe30f32c0f39e66a0fa1cbfdd8eccfd7a7fe095cc6a5fe6470b"), looks := true }, kinds := [], alts := [], laidByText := true, laidKinds := [.data], laidTests := true, laidLooks := .later }
def SealCutsCardSaid : Prop := Claim7.holds Tryd.pinned (.plain (OpenSpec.ofChange sealCutsSpec)) sealCutsCard

/-- THE TIED CARD OF 'coldstorelaw04.SealKinds'. -/
def sealKindsCard : Claim7 := { stood := { row := sealKindsRow, standIns := [], harness := (true, "7fc202a70b13cbe30f32c0f39e66a0fa1cbfdd8eccfd7a7fe095cc6a5fe6470b"), looks := true }, kinds := [], alts := [], laidByText := true, laidKinds := [.data], laidTests := true, laidLooks := .later }
def SealKindsCardSaid : Prop := Claim7.holds Tryd.pinned (.plain (OpenSpec.ofChange sealKindsSpec)) sealKindsCard

/-- THE TIED CARD OF 'coldstorelaw04.SealJoins'. -/
def sealJoinsCard : Claim7 := { stood := { row := sealJoinsRow, standIns := [], harness := (true, "7fc202a70b13cbe30f32c0f39e66a0fa1cbfdd8eccfd7a7fe095cc6a5fe6470b"), looks := true }, kinds := [], alts := [], laidByText := true, laidKinds := [.data], laidTests := true, laidLooks := .later }
def SealJoinsCardSaid : Prop := Claim7.holds Tryd.pinned (.plain (OpenSpec.ofChange sealJoinsSpec)) sealJoinsCard

/-- THE TIED CARD OF 'coldstorelaw04.SealSums'. -/
def sealSumsCard : Claim7 := { stood := { row := sealSumsRow, standIns := [], harness := (true, "7fc202a70b13cbe30f32c0f39e66a0fa1cbfdd8eccfd7a7fe095cc6a5fe6470b"), looks := true }, kinds := [], alts := [], laidByText := true, laidKinds := [.data], laidTests := true, laidLooks := .later }
def SealSumsCardSaid : Prop := Claim7.holds Tryd.pinned (.plain (OpenSpec.ofChange sealSumsSpec)) sealSumsCard

/-- THE SECOND FORM's CARD OF 'coldstorelaw04.SealBytes'. -/
def sealBytesUptoCard : Claim7 := { stood := { row := sealBytesUptoRow, standIns := [], harness := (true, "7fc202a70b13cbe30f32c0f39e66a0fa1cbfdd8eccfd7a7fe095cc6a5fe6470b"), looks := true }, kinds := [], alts := [], laidByText := true, laidKinds := [.data], laidTests := true, laidLooks := .later }
def SealBytesUptoCardSaid : Prop := Claim7.holds Tryd.pinned (.plain (OpenSpec.upto sealBytesSpec)) sealBytesUptoCard

/-- THE SECOND FORM's CARD OF 'coldstorelaw04.SealBursts'. -/
def sealBurstsUptoCard : Claim7 := { stood := { row := sealBurstsUptoRow, standIns := [], harness := (true, "7fc202a70b13cbe30f32c0f39e66a0fa1cbfdd8eccfd7a7fe095cc6a5fe6470b"), looks := true }, kinds := [], alts := [], laidByText := true, laidKinds := [.data], laidTests := true, laidLooks := .later }
def SealBurstsUptoCardSaid : Prop := Claim7.holds Tryd.pinned (.plain (OpenSpec.upto sealBurstsSpec)) sealBurstsUptoCard

/-- THE SECOND FORM's CARD OF 'coldstorelaw04.SealCuts'. -/
def sealCutsUptoCard : Claim7 := { stood := { row := sealCutsUptoRow, standIns := [], harness := (true, "7fc202a70b13cbe30f32c0f39e66a0fa1cbfdd8eccfd7a7fe095cc6a5fe6470b"), looks := true }, kinds := [], alts := [], laidByText := true, laidKinds := [.data], laidTests := true, laidLooks := .later }
def SealCutsUptoCardSaid : Prop := Claim7.holds Tryd.pinned (.plain (OpenSpec.upto sealCutsSpec)) sealCutsUptoCard

/-- THE SECOND FORM's CARD OF 'coldstorelaw04.SealKinds'. -/
def sealKindsUptoCard : Claim7 := { stood := { row := sealKindsUptoRow, standIns := [], harness := (true, "7fc202a70b13cbe30f32c0f39e66a0fa1cbfdd8eccfd7a7fe095cc6a5fe6470b"), looks := true }, kinds := [], alts := [], laidByText := true, laidKinds := [.data], laidTests := true, laidLooks := .later }
def SealKindsUptoCardSaid : Prop := Claim7.holds Tryd.pinned (.plain (OpenSpec.upto sealKindsSpec)) sealKindsUptoCard

/-- THE SECOND FORM's CARD OF 'coldstorelaw04.SealJoins'. -/
def sealJoinsUptoCard : Claim7 := { stood := { row := sealJoinsUptoRow, standIns := [], harness := (true, "7fc202a70b13cbe30f32c0f39e66a0fa1cbfdd8eccfd7a7fe095cc6a5fe6470b"), looks := true }, kinds := [], alts := [], laidByText := true, laidKinds := [.data], laidTests := true, laidLooks := .later }
def SealJoinsUptoCardSaid : Prop := Claim7.holds Tryd.pinned (.plain (OpenSpec.upto sealJoinsSpec)) sealJoinsUptoCard

/-- THE SECOND FORM's CARD OF 'coldstorelaw04.SealSums'. -/
def sealSumsUptoCard : Claim7 := { stood := { row := sealSumsUptoRow, standIns := [], harness := (true, "7fc202a70b13cbe30f32c0f39e66a0fa1cbfdd8eccfd7a7fe095cc6a5fe6470b"), looks := true }, kinds := [], alts := [], laidByText := true, laidKinds := [.data], laidTests := true, laidLooks := .later }
def SealSumsUptoCardSaid : Prop := Claim7.holds Tryd.pinned (.plain (OpenSpec.upto sealSumsSpec)) sealSumsUptoCard
end Rows
end Go.Proofs.YtijkpnggehnmcabDoor
