/-
  DERIVED. GIVEN WITH THE SEED: THE CARDS: each row of YtchcdfoncebemaaDoorRows.lean that lists a variable, with what it lists TIED to the program's text (the seventh form; the later family's looks); each row that meets fmt, with fmt's text TOLD by the authors' own Lean function (tested against real Go, not proved from fmt's source: count such statements apart). THE CARD IS WHAT COUNTS. Prove the row's statement (the work); the ties are given (YtchcdfoncebemaaDoorTie.lean); close each card by the builder's one call (the guide's Derived/Test/ToyasCard.lean, 'card_holds'). Laid BY PROGRAM, IN A SANDBOX (cutbox-door.mjs). By AI agents, Wed Nov 11 2026. No macro, syntax, notation, axiom, sorry.
-/
import Derived.Test.YtchcdfoncebemaaDoorRows
import GoSem.ClaimSeven
namespace Go.Proofs.YtchcdfoncebemaaDoor
namespace Rows

/-- THE TIED CARD OF 'revenantlaw15.SeekNil'. -/
def seekNilCard : Claim7 := { stood := { row := seekNilRow, standIns := [], harness := (true, "7012a15ba279395625753137c068cc3acb31f05b6169128ebdf9102a78ef75d8"), looks := false }, kinds := [], alts := [], laidByText := true, laidKinds := [.wider, .wider, .wider], laidTests := true, laidLooks := .later }
def SeekNilCardSaid : Prop := Claim7.holds Tryd.pinned (.plain (OpenSpec.ofChange seekNilSpec)) seekNilCard

/-- THE SECOND FORM's CARD OF 'revenantlaw15.SeekNil'. -/
def seekNilUptoCard : Claim7 := { stood := { row := seekNilUptoRow, standIns := [], harness := (true, "7012a15ba279395625753137c068cc3acb31f05b6169128ebdf9102a78ef75d8"), looks := false }, kinds := [], alts := [], laidByText := true, laidKinds := [.wider, .wider, .wider], laidTests := true, laidLooks := .later }
def SeekNilUptoCardSaid : Prop := Claim7.holds Tryd.pinned (.plain (OpenSpec.upto seekNilSpec)) seekNilUptoCard
end Rows
end Go.Proofs.YtchcdfoncebemaaDoor
