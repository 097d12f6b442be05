/-
  DERIVED. GIVEN WITH THE SEED: THE CARDS: each row of YtleklonmmlfijaaGreatDoorRows.lean that lists a variable, with what it lists TIED to the program's text (the seventh form; the later family's looks); each row that meets fmt, with fmt's text TOLD by the authors' own Lean function (tested against real Go, not proved from fmt's source: count such statements apart). THE CARD IS WHAT COUNTS. Prove the row's statement (the work); the ties are given (YtleklonmmlfijaaGreatDoorTie.lean); close each card by the builder's one call (the guide's Derived/Test/ToyasCard.lean, 'card_holds'). Laid BY PROGRAM, IN A SANDBOX (cutbox-door.mjs). By AI agents, Wed Nov 11 2026. No macro, syntax, notation, axiom, sorry.
-/
import Derived.Test.YtleklonmmlfijaaGreatDoorRows
import GoSem.ClaimSeven
namespace Go.Proofs.YtleklonmmlfijaaGreatDoor
namespace Rows

/-- THE TIED CARD OF 'revenantlaw19.SkipExact'. -/
def skipExactCard : Claim7 := { stood := { row := skipExactRow, standIns := [], harness := (true, "7696e22a5d2a6d5c8e2f003711e70d1e7d6c001fe61a4242c0152128493b280b"), looks := true }, kinds := [], alts := [], laidByText := true, laidKinds := [.wider, .wider, .wider], laidTests := true, laidLooks := .later }
def SkipExactCardSaid : Prop := Claim7.holds Tryz.pinned (.plain (OpenSpec.ofChange skipExactSpec)) skipExactCard

/-- THE SECOND FORM's CARD OF 'revenantlaw19.SkipExact'. -/
def skipExactUptoCard : Claim7 := { stood := { row := skipExactUptoRow, standIns := [], harness := (true, "7696e22a5d2a6d5c8e2f003711e70d1e7d6c001fe61a4242c0152128493b280b"), looks := true }, kinds := [], alts := [], laidByText := true, laidKinds := [.wider, .wider, .wider], laidTests := true, laidLooks := .later }
def SkipExactUptoCardSaid : Prop := Claim7.holds Tryz.pinned (.plain (OpenSpec.upto skipExactSpec)) skipExactUptoCard
end Rows
end Go.Proofs.YtleklonmmlfijaaGreatDoor
