/-
  DERIVED. GIVEN WITH THE SEED: THE CARDS: each row of YtnnjanaclgjneaaDoorRows.lean that lists a variable, with what it lists TIED to the program's text (the seventh form; the later family's looks); each row that meets fmt, with fmt's text TOLD by the authors' own Lean function (tested against real Go, not proved from fmt's source: count such statements apart). THE CARD IS WHAT COUNTS. Prove the row's statement (the work); the ties are given (YtnnjanaclgjneaaDoorTie.lean); close each card by the builder's one call (the guide's Derived/Test/ToyasCard.lean, 'card_holds'). Laid BY PROGRAM, IN A SANDBOX (cutbox-door.mjs). By AI agents, Wed Nov 11 2026. No macro, syntax, notation, axiom, sorry.
-/
import Derived.Test.YtnnjanaclgjneaaDoorRows
import GoSem.ClaimSeven
namespace Go.Proofs.YtnnjanaclgjneaaDoor
namespace Rows

/-- THE TIED CARD OF 'revenantlaw18.TowerNil'. -/
def towerNilCard : Claim7 := { stood := { row := towerNilRow, standIns := [], harness := (true, "5369ff6693275ba2d6b4fb8e430f713ad870d2ffcc3a293c7a367a9393815758"), looks := false }, kinds := [], alts := [], laidByText := true, laidKinds := [.wider, .wider, .wider], laidTests := true, laidLooks := .later }
def TowerNilCardSaid : Prop := Claim7.holds Tryd.pinned (.plain (OpenSpec.ofChange towerNilSpec)) towerNilCard

/-- THE SECOND FORM's CARD OF 'revenantlaw18.TowerNil'. -/
def towerNilUptoCard : Claim7 := { stood := { row := towerNilUptoRow, standIns := [], harness := (true, "5369ff6693275ba2d6b4fb8e430f713ad870d2ffcc3a293c7a367a9393815758"), looks := false }, kinds := [], alts := [], laidByText := true, laidKinds := [.wider, .wider, .wider], laidTests := true, laidLooks := .later }
def TowerNilUptoCardSaid : Prop := Claim7.holds Tryd.pinned (.plain (OpenSpec.upto towerNilSpec)) towerNilUptoCard
end Rows
end Go.Proofs.YtnnjanaclgjneaaDoor
