/-
  DERIVED. GIVEN WITH THE SEED: THE CARDS: each row of YtmkdjonlfkfnlaaDoorRows.lean that lists a variable, with what it lists TIED to the program's text (the seventh form; the later family's looks); each row that meets fmt, with fmt's text TOLD by the authors' own Lean function (tested against real Go, not proved from fmt's source: count such statements apart). THE CARD IS WHAT COUNTS. Prove the row's statement (the work); the ties are given (YtmkdjonlfkfnlaaDoorTie.lean); close each card by the builder's one call (the guide's Derived/Test/ToyasCard.lean, 'card_holds'). Laid BY PROGRAM, IN A SANDBOX (cutbox-door.mjs). By AI agents, Wed Nov 11 2026. No macro, syntax, notation, axiom, sorry.
-/
import Derived.Test.YtmkdjonlfkfnlaaDoorRows
import GoSem.ClaimSeven
namespace Go.Proofs.YtmkdjonlfkfnlaaDoor
namespace Rows

/-- THE TIED CARD OF 'coldstorelaw14.CachePlays'. -/
def cachePlaysCard : Claim7 := { stood := { row := cachePlaysRow, standIns := [], harness := (true, "702a4a813d148cf79d7a434a53d44fac39c01639f0e4db310c477caea09a55b4"), looks := false }, kinds := [], alts := [], laidByText := true, laidKinds := [.data, .data], laidTests := true, laidLooks := .later }
def CachePlaysCardSaid : Prop := Claim7.holds Tryd.pinned (.plain (OpenSpec.ofChange cachePlaysSpec)) cachePlaysCard

/-- THE TIED CARD OF 'coldstorelaw14.CacheOrders'. -/
def cacheOrdersCard : Claim7 := { stood := { row := cacheOrdersRow, standIns := [], harness := (true, "702a4a813d148cf79d7a434a53d44fac39c01639f0e4db310c477caea09a55b4"), looks := false }, kinds := [], alts := [], laidByText := true, laidKinds := [.data, .data], laidTests := true, laidLooks := .later }
def CacheOrdersCardSaid : Prop := Claim7.holds Tryd.pinned (.plain (OpenSpec.ofChange cacheOrdersSpec)) cacheOrdersCard

/-- THE SECOND FORM's CARD OF 'coldstorelaw14.CachePlays'. -/
def cachePlaysUptoCard : Claim7 := { stood := { row := cachePlaysUptoRow, standIns := [], harness := (true, "702a4a813d148cf79d7a434a53d44fac39c01639f0e4db310c477caea09a55b4"), looks := false }, kinds := [], alts := [], laidByText := true, laidKinds := [.data, .data], laidTests := true, laidLooks := .later }
def CachePlaysUptoCardSaid : Prop := Claim7.holds Tryd.pinned (.plain (OpenSpec.upto cachePlaysSpec)) cachePlaysUptoCard

/-- THE SECOND FORM's CARD OF 'coldstorelaw14.CacheOrders'. -/
def cacheOrdersUptoCard : Claim7 := { stood := { row := cacheOrdersUptoRow, standIns := [], harness := (true, "702a4a813d148cf79d7a434a53d44fac39c01639f0e4db310c477caea09a55b4"), looks := false }, kinds := [], alts := [], laidByText := true, laidKinds := [.data, .data], laidTests := true, laidLooks := .later }
def CacheOrdersUptoCardSaid : Prop := Claim7.holds Tryd.pinned (.plain (OpenSpec.upto cacheOrdersSpec)) cacheOrdersUptoCard
end Rows
end Go.Proofs.YtmkdjonlfkfnlaaDoor
