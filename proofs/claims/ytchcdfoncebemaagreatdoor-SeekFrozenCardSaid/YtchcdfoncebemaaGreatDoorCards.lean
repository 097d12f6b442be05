/-
  DERIVED. GIVEN WITH THE SEED: THE CARDS: each row of YtchcdfoncebemaaGreatDoorRows.lean that lists a variable, with what it lists TIED to the program's text (the seventh form; the later family's looks); each row that meets fmt, with fmt's text TOLD by the authors' own Lean function (tested against real Go, not proved from fmt's source: count such statements apart). THE CARD IS WHAT COUNTS. Prove the row's statement (the work); the ties are given (YtchcdfoncebemaaGreatDoorTie.lean); close each card by the builder's one call (the guide's Derived/Test/ToyasCard.lean, 'card_holds'). Laid BY PROGRAM, IN A SANDBOX (cutbox-door.mjs). By AI agents, Wed Nov 11 2026. No macro, syntax, notation, axiom, sorry.
-/
import Derived.Test.YtchcdfoncebemaaGreatDoorRows
import GoSem.ClaimSeven
namespace Go.Proofs.YtchcdfoncebemaaGreatDoor
namespace Rows

/-- THE TIED CARD OF 'revenantlaw15.SeekExact'. -/
def seekExactCard : Claim7 := { stood := { row := seekExactRow, standIns := [], harness := (true, "288b9f3921490bdec2388673b7fb58d417b54459a1b3761a77be74656ec88ca4"), looks := true }, kinds := [], alts := [], laidByText := true, laidKinds := [.wider, .wider, .wider], laidTests := true, laidLooks := .later }
def SeekExactCardSaid : Prop := Claim7.holds Tryz.pinned (.plain (OpenSpec.ofChange seekExactSpec)) seekExactCard

/-- THE TIED CARD OF 'revenantlaw15.SeekLevels'. -/
def seekLevelsCard : Claim7 := { stood := { row := seekLevelsRow, standIns := [], harness := (true, "288b9f3921490bdec2388673b7fb58d417b54459a1b3761a77be74656ec88ca4"), looks := true }, kinds := [], alts := [], laidByText := true, laidKinds := [.wider, .wider, .wider], laidTests := true, laidLooks := .later }
def SeekLevelsCardSaid : Prop := Claim7.holds Tryz.pinned (.plain (OpenSpec.ofChange seekLevelsSpec)) seekLevelsCard

/-- THE TIED CARD OF 'revenantlaw15.SeekAlone'. -/
def seekAloneCard : Claim7 := { stood := { row := seekAloneRow, standIns := [], harness := (true, "288b9f3921490bdec2388673b7fb58d417b54459a1b3761a77be74656ec88ca4"), looks := true }, kinds := [], alts := [], laidByText := true, laidKinds := [.wider, .wider, .wider], laidTests := true, laidLooks := .later }
def SeekAloneCardSaid : Prop := Claim7.holds Tryz.pinned (.plain (OpenSpec.ofChange seekAloneSpec)) seekAloneCard

/-- THE TIED CARD OF 'revenantlaw15.SeekFrozen'. -/
def seekFrozenCard : Claim7 := { stood := { row := seekFrozenRow, standIns := [], harness := (true, "288b9f3921490bdec2388673b7fb58d417b54459a1b3761a77be74656ec88ca4"), looks := true }, kinds := [], alts := [], laidByText := true, laidKinds := [.wider, .wider, .wider], laidTests := true, laidLooks := .later }
def SeekFrozenCardSaid : Prop := Claim7.holds Tryz.pinned (.plain (OpenSpec.ofChange seekFrozenSpec)) seekFrozenCard

/-- THE SECOND FORM's CARD OF 'revenantlaw15.SeekExact'. -/
def seekExactUptoCard : Claim7 := { stood := { row := seekExactUptoRow, standIns := [], harness := (true, "288b9f3921490bdec2388673b7fb58d417b54459a1b3761a77be74656ec88ca4"), looks := true }, kinds := [], alts := [], laidByText := true, laidKinds := [.wider, .wider, .wider], laidTests := true, laidLooks := .later }
def SeekExactUptoCardSaid : Prop := Claim7.holds Tryz.pinned (.plain (OpenSpec.upto seekExactSpec)) seekExactUptoCard

/-- THE SECOND FORM's CARD OF 'revenantlaw15.SeekLevels'. -/
def seekLevelsUptoCard : Claim7 := { stood := { row := seekLevelsUptoRow, standIns := [], harness := (true, "288b9f3921490bdec2388673b7fb58d417b54459a1b3761a77be74656ec88ca4"), looks := true }, kinds := [], alts := [], laidByText := true, laidKinds := [.wider, .wider, .wider], laidTests := true, laidLooks := .later }
def SeekLevelsUptoCardSaid : Prop := Claim7.holds Tryz.pinned (.plain (OpenSpec.upto seekLevelsSpec)) seekLevelsUptoCard

/-- THE SECOND FORM's CARD OF 'revenantlaw15.SeekAlone'. -/
def seekAloneUptoCard : Claim7 := { stood := { row := seekAloneUptoRow, standIns := [], harness := (true, "288b9f3921490bdec2388673b7fb58d417b54459a1b3761a77be74656ec88ca4"), looks := true }, kinds := [], alts := [], laidByText := true, laidKinds := [.wider, .wider, .wider], laidTests := true, laidLooks := .later }
def SeekAloneUptoCardSaid : Prop := Claim7.holds Tryz.pinned (.plain (OpenSpec.upto seekAloneSpec)) seekAloneUptoCard

/-- THE SECOND FORM's CARD OF 'revenantlaw15.SeekFrozen'. -/
def seekFrozenUptoCard : Claim7 := { stood := { row := seekFrozenUptoRow, standIns := [], harness := (true, "288b9f3921490bdec2388673b7fb58d417b54459a1b3761a77be74656ec88ca4"), looks := true }, kinds := [], alts := [], laidByText := true, laidKinds := [.wider, .wider, .wider], laidTests := true, laidLooks := .later }
def SeekFrozenUptoCardSaid : Prop := Claim7.holds Tryz.pinned (.plain (OpenSpec.upto seekFrozenSpec)) seekFrozenUptoCard
end Rows
end Go.Proofs.YtchcdfoncebemaaGreatDoor
