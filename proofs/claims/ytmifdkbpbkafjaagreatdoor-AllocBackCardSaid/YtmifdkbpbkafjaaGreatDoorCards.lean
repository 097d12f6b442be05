/-
  DERIVED. GIVEN WITH THE SEED: THE CARDS: each row of YtmifdkbpbkafjaaGreatDoorRows.lean that lists a variable, with what it lists TIED to the program's text (the seventh form; the later family's looks); each row that meets fmt, with fmt's text TOLD by the authors' own Lean function (tested against real Go, not proved from fmt's source: count such statements apart). THE CARD IS WHAT COUNTS. Prove the row's statement (the work); the ties are given (YtmifdkbpbkafjaaGreatDoorTie.lean); close each card by the builder's one call (the guide's Derived/Test/ToyasCard.lean, 'card_holds'). Laid BY PROGRAM, IN A SANDBOX (cutbox-door.mjs). By AI agents, Wed Nov 11 2026. No macro, syntax, notation, axiom, sorry.
-/
import Derived.Test.YtmifdkbpbkafjaaGreatDoorRows
import GoSem.ClaimSeven
namespace Go.Proofs.YtmifdkbpbkafjaaGreatDoor
namespace Rows

/-- THE TIED CARD OF 'revenantlaw14.AllocExact'. -/
def allocExactCard : Claim7 := { stood := { row := allocExactRow, standIns := [], harness := (true, "246b8306a4fff50620249fd505e85933a95cf33061c2250cb4c50a157746ecdc"), looks := true }, kinds := [], alts := [], laidByText := true, laidKinds := [.wider, .wider, .wider], laidTests := true, laidLooks := .later }
def AllocExactCardSaid : Prop := Claim7.holds Tryz.pinned (.plain (OpenSpec.ofChange allocExactSpec)) allocExactCard

/-- THE TIED CARD OF 'revenantlaw14.AllocApart'. -/
def allocApartCard : Claim7 := { stood := { row := allocApartRow, standIns := [], harness := (true, "246b8306a4fff50620249fd505e85933a95cf33061c2250cb4c50a157746ecdc"), looks := true }, kinds := [], alts := [], laidByText := true, laidKinds := [.wider, .wider, .wider], laidTests := true, laidLooks := .later }
def AllocApartCardSaid : Prop := Claim7.holds Tryz.pinned (.plain (OpenSpec.ofChange allocApartSpec)) allocApartCard

/-- THE TIED CARD OF 'revenantlaw14.AllocEpochs'. -/
def allocEpochsCard : Claim7 := { stood := { row := allocEpochsRow, standIns := [], harness := (true, "246b8306a4fff50620249fd505e85933a95cf33061c2250cb4c50a157746ecdc"), looks := true }, kinds := [], alts := [], laidByText := true, laidKinds := [.wider, .wider, .wider], laidTests := true, laidLooks := .later }
def AllocEpochsCardSaid : Prop := Claim7.holds Tryz.pinned (.plain (OpenSpec.ofChange allocEpochsSpec)) allocEpochsCard

/-- THE TIED CARD OF 'revenantlaw14.AllocBack'. -/
def allocBackCard : Claim7 := { stood := { row := allocBackRow, standIns := [], harness := (true, "246b8306a4fff50620249fd505e85933a95cf33061c2250cb4c50a157746ecdc"), looks := true }, kinds := [], alts := [], laidByText := true, laidKinds := [.wider, .wider, .wider], laidTests := true, laidLooks := .later }
def AllocBackCardSaid : Prop := Claim7.holds Tryz.pinned (.plain (OpenSpec.ofChange allocBackSpec)) allocBackCard

/-- THE SECOND FORM's CARD OF 'revenantlaw14.AllocExact'. -/
def allocExactUptoCard : Claim7 := { stood := { row := allocExactUptoRow, standIns := [], harness := (true, "246b8306a4fff50620249fd505e85933a95cf33061c2250cb4c50a157746ecdc"), looks := true }, kinds := [], alts := [], laidByText := true, laidKinds := [.wider, .wider, .wider], laidTests := true, laidLooks := .later }
def AllocExactUptoCardSaid : Prop := Claim7.holds Tryz.pinned (.plain (OpenSpec.upto allocExactSpec)) allocExactUptoCard

/-- THE SECOND FORM's CARD OF 'revenantlaw14.AllocApart'. -/
def allocApartUptoCard : Claim7 := { stood := { row := allocApartUptoRow, standIns := [], harness := (true, "246b8306a4fff50620249fd505e85933a95cf33061c2250cb4c50a157746ecdc"), looks := true }, kinds := [], alts := [], laidByText := true, laidKinds := [.wider, .wider, .wider], laidTests := true, laidLooks := .later }
def AllocApartUptoCardSaid : Prop := Claim7.holds Tryz.pinned (.plain (OpenSpec.upto allocApartSpec)) allocApartUptoCard

/-- THE SECOND FORM's CARD OF 'revenantlaw14.AllocEpochs'. -/
def allocEpochsUptoCard : Claim7 := { stood := { row := allocEpochsUptoRow, standIns := [], harness := (true, "246b8306a4fff50620249fd505e85933a95cf33061c2250cb4c50a157746ecdc"), looks := true }, kinds := [], alts := [], laidByText := true, laidKinds := [.wider, .wider, .wider], laidTests := true, laidLooks := .later }
def AllocEpochsUptoCardSaid : Prop := Claim7.holds Tryz.pinned (.plain (OpenSpec.upto allocEpochsSpec)) allocEpochsUptoCard

/-- THE SECOND FORM's CARD OF 'revenantlaw14.AllocBack'. -/
def allocBackUptoCard : Claim7 := { stood := { row := allocBackUptoRow, standIns := [], harness := (true, "246b8306a4fff50620249fd505e85933a95cf33061c2250cb4c50a157746ecdc"), looks := true }, kinds := [], alts := [], laidByText := true, laidKinds := [.wider, .wider, .wider], laidTests := true, laidLooks := .later }
def AllocBackUptoCardSaid : Prop := Claim7.holds Tryz.pinned (.plain (OpenSpec.upto allocBackSpec)) allocBackUptoCard
end Rows
end Go.Proofs.YtmifdkbpbkafjaaGreatDoor
