/-
  DERIVED. GIVEN WITH THE SEED: THE CARDS: each row of YtmifdkbpbkafjaaDoorRows.lean that lists a variable, with what it lists TIED to the program's text (the seventh form; the later family's looks); each row that meets fmt, with fmt's text TOLD by the authors' own Lean function (tested against real Go, not proved from fmt's source: count such statements apart). THE CARD IS WHAT COUNTS. Prove the row's statement (the work); the ties are given (YtmifdkbpbkafjaaDoorTie.lean); close each card by the builder's one call (the guide's Derived/Test/ToyasCard.lean, 'card_holds'). Laid BY PROGRAM, IN A SANDBOX (cutbox-door.mjs). By AI agents, Wed Nov 11 2026. No macro, syntax, notation, axiom, sorry.
-/
import Derived.Test.YtmifdkbpbkafjaaDoorRows
import GoSem.ClaimSeven
namespace Go.Proofs.YtmifdkbpbkafjaaDoor
namespace Rows

/-- THE TIED CARD OF 'revenantlaw14.AllocNil'. -/
def allocNilCard : Claim7 := { stood := { row := allocNilRow, standIns := [], harness := (true, "421099372bbfd0328542224881dc7f5f15415042862147272406131d6b9cd27a"), looks := false }, kinds := [], alts := [], laidByText := true, laidKinds := [.wider, .wider, .wider], laidTests := true, laidLooks := .later }
def AllocNilCardSaid : Prop := Claim7.holds Tryd.pinned (.plain (OpenSpec.ofChange allocNilSpec)) allocNilCard

/-- THE SECOND FORM's CARD OF 'revenantlaw14.AllocNil'. -/
def allocNilUptoCard : Claim7 := { stood := { row := allocNilUptoRow, standIns := [], harness := (true, "421099372bbfd0328542224881dc7f5f15415042862147272406131d6b9cd27a"), looks := false }, kinds := [], alts := [], laidByText := true, laidKinds := [.wider, .wider, .wider], laidTests := true, laidLooks := .later }
def AllocNilUptoCardSaid : Prop := Claim7.holds Tryd.pinned (.plain (OpenSpec.upto allocNilSpec)) allocNilUptoCard
end Rows
end Go.Proofs.YtmifdkbpbkafjaaDoor
