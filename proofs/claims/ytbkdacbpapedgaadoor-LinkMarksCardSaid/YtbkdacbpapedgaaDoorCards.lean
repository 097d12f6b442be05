/-
  DERIVED. GIVEN WITH THE SEED: THE CARDS: each row of YtbkdacbpapedgaaDoorRows.lean that lists a variable, with what it lists TIED to the program's text (the seventh form; the later family's looks); each row that meets fmt, with fmt's text TOLD by the authors' own Lean function (tested against real Go, not proved from fmt's source: count such statements apart). THE CARD IS WHAT COUNTS. Prove the row's statement (the work); the ties are given (YtbkdacbpapedgaaDoorTie.lean); close each card by the builder's one call (the guide's Derived/Test/ToyasCard.lean, 'card_holds'). Laid BY PROGRAM, IN A SANDBOX (cutbox-door.mjs). By AI agents, Wed Nov 11 2026. No macro, syntax, notation, axiom, sorry.
-/
import Derived.Test.YtbkdacbpapedgaaDoorRows
import GoSem.ClaimSeven
namespace Go.Proofs.YtbkdacbpapedgaaDoor
namespace Rows

/-- THE TIED CARD OF 'revenantlaw02.LinkExact'. -/
def linkExactCard : Claim7 := { stood := { row := linkExactRow, standIns := [], harness := (true, "348f8a34e219106f1afae7065465c34f57ded67cf548aa74d489139f828f112f"), looks := false }, kinds := [], alts := [], laidByText := true, laidKinds := [.wider, .wider, .wider], laidTests := true, laidLooks := .later }
def LinkExactCardSaid : Prop := Claim7.holds Tryd.pinned (.plain (OpenSpec.ofChange linkExactSpec)) linkExactCard

/-- THE TIED CARD OF 'revenantlaw02.LinkNext'. -/
def linkNextCard : Claim7 := { stood := { row := linkNextRow, standIns := [], harness := (true, "348f8a34e219106f1afae7065465c34f57ded67cf548aa74d489139f828f112f"), looks := false }, kinds := [], alts := [], laidByText := true, laidKinds := [.wider, .wider, .wider], laidTests := true, laidLooks := .later }
def LinkNextCardSaid : Prop := Claim7.holds Tryd.pinned (.plain (OpenSpec.ofChange linkNextSpec)) linkNextCard

/-- THE TIED CARD OF 'revenantlaw02.LinkBack'. -/
def linkBackCard : Claim7 := { stood := { row := linkBackRow, standIns := [], harness := (true, "348f8a34e219106f1afae7065465c34f57ded67cf548aa74d489139f828f112f"), looks := false }, kinds := [], alts := [], laidByText := true, laidKinds := [.wider, .wider, .wider], laidTests := true, laidLooks := .later }
def LinkBackCardSaid : Prop := Claim7.holds Tryd.pinned (.plain (OpenSpec.ofChange linkBackSpec)) linkBackCard

/-- THE TIED CARD OF 'revenantlaw02.LinkMarks'. -/
def linkMarksCard : Claim7 := { stood := { row := linkMarksRow, standIns := [], harness := (true, "348f8a34e219106f1afae7065465c34f57ded67cf548aa74d489139f828f112f"), looks := false }, kinds := [], alts := [], laidByText := true, laidKinds := [.wider, .wider, .wider], laidTests := true, laidLooks := .later }
def LinkMarksCardSaid : Prop := Claim7.holds Tryd.pinned (.plain (OpenSpec.ofChange linkMarksSpec)) linkMarksCard

/-- THE SECOND FORM's CARD OF 'revenantlaw02.LinkExact'. -/
def linkExactUptoCard : Claim7 := { stood := { row := linkExactUptoRow, standIns := [], harness := (true, "348f8a34e219106f1afae7065465c34f57ded67cf548aa74d489139f828f112f"), looks := false }, kinds := [], alts := [], laidByText := true, laidKinds := [.wider, .wider, .wider], laidTests := true, laidLooks := .later }
def LinkExactUptoCardSaid : Prop := Claim7.holds Tryd.pinned (.plain (OpenSpec.upto linkExactSpec)) linkExactUptoCard

/-- THE SECOND FORM's CARD OF 'revenantlaw02.LinkNext'. -/
def linkNextUptoCard : Claim7 := { stood := { row := linkNextUptoRow, standIns := [], harness := (true, "348f8a34e219106f1afae7065465c34f57ded67cf548aa74d489139f828f112f"), looks := false }, kinds := [], alts := [], laidByText := true, laidKinds := [.wider, .wider, .wider], laidTests := true, laidLooks := .later }
def LinkNextUptoCardSaid : Prop := Claim7.holds Tryd.pinned (.plain (OpenSpec.upto linkNextSpec)) linkNextUptoCard

/-- THE SECOND FORM's CARD OF 'revenantlaw02.LinkBack'. -/
def linkBackUptoCard : Claim7 := { stood := { row := linkBackUptoRow, standIns := [], harness := (true, "348f8a34e219106f1afae7065465c34f57ded67cf548aa74d489139f828f112f"), looks := false }, kinds := [], alts := [], laidByText := true, laidKinds := [.wider, .wider, .wider], laidTests := true, laidLooks := .later }
def LinkBackUptoCardSaid : Prop := Claim7.holds Tryd.pinned (.plain (OpenSpec.upto linkBackSpec)) linkBackUptoCard

/-- THE SECOND FORM's CARD OF 'revenantlaw02.LinkMarks'. -/
def linkMarksUptoCard : Claim7 := { stood := { row := linkMarksUptoRow, standIns := [], harness := (true, "348f8a34e219106f1afae7065465c34f57ded67cf548aa74d489139f828f112f"), looks := false }, kinds := [], alts := [], laidByText := true, laidKinds := [.wider, .wider, .wider], laidTests := true, laidLooks := .later }
def LinkMarksUptoCardSaid : Prop := Claim7.holds Tryd.pinned (.plain (OpenSpec.upto linkMarksSpec)) linkMarksUptoCard
end Rows
end Go.Proofs.YtbkdacbpapedgaaDoor
