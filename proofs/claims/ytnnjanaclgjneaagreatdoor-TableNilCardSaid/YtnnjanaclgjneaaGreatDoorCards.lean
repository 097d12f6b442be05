/-
  DERIVED. GIVEN WITH THE SEED: THE CARDS: each row of YtnnjanaclgjneaaGreatDoorRows.lean that lists a variable, with what it lists TIED to the program's text (the seventh form; the later family's looks); each row that meets fmt, with fmt's text TOLD by the authors' own Lean function (tested against real Go, not proved from fmt's source: count such statements apart). THE CARD IS WHAT COUNTS. Prove the row's statement (the work); the ties are given (YtnnjanaclgjneaaGreatDoorTie.lean); close each card by the builder's one call (the guide's Derived/Test/ToyasCard.lean, 'card_holds'). Laid BY PROGRAM, IN A SANDBOX (cutbox-door.mjs). By AI agents, Wed Nov 11 2026. No macro, syntax, notation, axiom, sorry.
-/
import Derived.Test.YtnnjanaclgjneaaGreatDoorRows
import GoSem.ClaimSeven
namespace Go.Proofs.YtnnjanaclgjneaaGreatDoor
namespace Rows

/-- THE TIED CARD OF 'revenantlaw16.ChainSet'. -/
def chainSetCard : Claim7 := { stood := { row := chainSetRow, standIns := [], harness := (true, "0492ca388a0fbe5f0f0c6b94189140c8af4057c3e5b6dcd6d607f02798919c4e"), looks := true }, kinds := [], alts := [], laidByText := true, laidKinds := [.wider, .wider, .wider], laidTests := true, laidLooks := .later }
def ChainSetCardSaid : Prop := Claim7.holds Tryz.pinned (.plain (OpenSpec.ofChange chainSetSpec)) chainSetCard

/-- THE TIED CARD OF 'revenantlaw16.ChainAlone'. -/
def chainAloneCard : Claim7 := { stood := { row := chainAloneRow, standIns := [], harness := (true, "0492ca388a0fbe5f0f0c6b94189140c8af4057c3e5b6dcd6d607f02798919c4e"), looks := true }, kinds := [], alts := [], laidByText := true, laidKinds := [.wider, .wider, .wider], laidTests := true, laidLooks := .later }
def ChainAloneCardSaid : Prop := Claim7.holds Tryz.pinned (.plain (OpenSpec.ofChange chainAloneSpec)) chainAloneCard

/-- THE TIED CARD OF 'revenantlaw17.TableExact'. -/
def tableExactCard : Claim7 := { stood := { row := tableExactRow, standIns := [], harness := (true, "0492ca388a0fbe5f0f0c6b94189140c8af4057c3e5b6dcd6d607f02798919c4e"), looks := true }, kinds := [], alts := [], laidByText := true, laidKinds := [.wider, .wider, .wider], laidTests := true, laidLooks := .later }
def TableExactCardSaid : Prop := Claim7.holds Tryz.pinned (.plain (OpenSpec.ofChange tableExactSpec)) tableExactCard

/-- THE TIED CARD OF 'revenantlaw17.TableNil'. -/
def tableNilCard : Claim7 := { stood := { row := tableNilRow, standIns := [], harness := (true, "0492ca388a0fbe5f0f0c6b94189140c8af4057c3e5b6dcd6d607f02798919c4e"), looks := true }, kinds := [], alts := [], laidByText := true, laidKinds := [.wider, .wider, .wider], laidTests := true, laidLooks := .later }
def TableNilCardSaid : Prop := Claim7.holds Tryz.pinned (.plain (OpenSpec.ofChange tableNilSpec)) tableNilCard

/-- THE TIED CARD OF 'revenantlaw17.TableMap'. -/
def tableMapCard : Claim7 := { stood := { row := tableMapRow, standIns := [], harness := (true, "0492ca388a0fbe5f0f0c6b94189140c8af4057c3e5b6dcd6d607f02798919c4e"), looks := true }, kinds := [], alts := [], laidByText := true, laidKinds := [.wider, .wider, .wider], laidTests := true, laidLooks := .later }
def TableMapCardSaid : Prop := Claim7.holds Tryz.pinned (.plain (OpenSpec.ofChange tableMapSpec)) tableMapCard

/-- THE TIED CARD OF 'revenantlaw17.TableAlone'. -/
def tableAloneCard : Claim7 := { stood := { row := tableAloneRow, standIns := [], harness := (true, "0492ca388a0fbe5f0f0c6b94189140c8af4057c3e5b6dcd6d607f02798919c4e"), looks := true }, kinds := [], alts := [], laidByText := true, laidKinds := [.wider, .wider, .wider], laidTests := true, laidLooks := .later }
def TableAloneCardSaid : Prop := Claim7.holds Tryz.pinned (.plain (OpenSpec.ofChange tableAloneSpec)) tableAloneCard

/-- THE TIED CARD OF 'revenantlaw18.TowerExact'. -/
def towerExactCard : Claim7 := { stood := { row := towerExactRow, standIns := [], harness := (true, "0492ca388a0fbe5f0f0c6b94189140c8af4057c3e5b6dcd6d607f02798919c4e"), looks := true }, kinds := [], alts := [], laidByText := true, laidKinds := [.wider, .wider, .wider], laidTests := true, laidLooks := .later }
def TowerExactCardSaid : Prop := Claim7.holds Tryz.pinned (.plain (OpenSpec.ofChange towerExactSpec)) towerExactCard

/-- THE TIED CARD OF 'revenantlaw18.TowerShort'. -/
def towerShortCard : Claim7 := { stood := { row := towerShortRow, standIns := [], harness := (true, "0492ca388a0fbe5f0f0c6b94189140c8af4057c3e5b6dcd6d607f02798919c4e"), looks := true }, kinds := [], alts := [], laidByText := true, laidKinds := [.wider, .wider, .wider], laidTests := true, laidLooks := .later }
def TowerShortCardSaid : Prop := Claim7.holds Tryz.pinned (.plain (OpenSpec.ofChange towerShortSpec)) towerShortCard

/-- THE SECOND FORM's CARD OF 'revenantlaw16.ChainSet'. -/
def chainSetUptoCard : Claim7 := { stood := { row := chainSetUptoRow, standIns := [], harness := (true, "0492ca388a0fbe5f0f0c6b94189140c8af4057c3e5b6dcd6d607f02798919c4e"), looks := true }, kinds := [], alts := [], laidByText := true, laidKinds := [.wider, .wider, .wider], laidTests := true, laidLooks := .later }
def ChainSetUptoCardSaid : Prop := Claim7.holds Tryz.pinned (.plain (OpenSpec.upto chainSetSpec)) chainSetUptoCard

/-- THE SECOND FORM's CARD OF 'revenantlaw16.ChainAlone'. -/
def chainAloneUptoCard : Claim7 := { stood := { row := chainAloneUptoRow, standIns := [], harness := (true, "0492ca388a0fbe5f0f0c6b94189140c8af4057c3e5b6dcd6d607f02798919c4e"), looks := true }, kinds := [], alts := [], laidByText := true, laidKinds := [.wider, .wider, .wider], laidTests := true, laidLooks := .later }
def ChainAloneUptoCardSaid : Prop := Claim7.holds Tryz.pinned (.plain (OpenSpec.upto chainAloneSpec)) chainAloneUptoCard

/-- THE SECOND FORM's CARD OF 'revenantlaw17.TableExact'. -/
def tableExactUptoCard : Claim7 := { stood := { row := tableExactUptoRow, standIns := [], harness := (true, "0492ca388a0fbe5f0f0c6b94189140c8af4057c3e5b6dcd6d607f02798919c4e"), looks := true }, kinds := [], alts := [], laidByText := true, laidKinds := [.wider, .wider, .wider], laidTests := true, laidLooks := .later }
def TableExactUptoCardSaid : Prop := Claim7.holds Tryz.pinned (.plain (OpenSpec.upto tableExactSpec)) tableExactUptoCard

/-- THE SECOND FORM's CARD OF 'revenantlaw17.TableNil'. -/
def tableNilUptoCard : Claim7 := { stood := { row := tableNilUptoRow, standIns := [], harness := (true, "0492ca388a0fbe5f0f0c6b94189140c8af4057c3e5b6dcd6d607f02798919c4e"), looks := true }, kinds := [], alts := [], laidByText := true, laidKinds := [.wider, .wider, .wider], laidTests := true, laidLooks := .later }
def TableNilUptoCardSaid : Prop := Claim7.holds Tryz.pinned (.plain (OpenSpec.upto tableNilSpec)) tableNilUptoCard

/-- THE SECOND FORM's CARD OF 'revenantlaw17.TableMap'. -/
def tableMapUptoCard : Claim7 := { stood := { row := tableMapUptoRow, standIns := [], harness := (true, "0492ca388a0fbe5f0f0c6b94189140c8af4057c3e5b6dcd6d607f02798919c4e"), looks := true }, kinds := [], alts := [], laidByText := true, laidKinds := [.wider, .wider, .wider], laidTests := true, laidLooks := .later }
def TableMapUptoCardSaid : Prop := Claim7.holds Tryz.pinned (.plain (OpenSpec.upto tableMapSpec)) tableMapUptoCard

/-- THE SECOND FORM's CARD OF 'revenantlaw17.TableAlone'. -/
def tableAloneUptoCard : Claim7 := { stood := { row := tableAloneUptoRow, standIns := [], harness := (true, "0492ca388a0fbe5f0f0c6b94189140c8af4057c3e5b6dcd6d607f02798919c4e"), looks := true }, kinds := [], alts := [], laidByText := true, laidKinds := [.wider, .wider, .wider], laidTests := true, laidLooks := .later }
def TableAloneUptoCardSaid : Prop := Claim7.holds Tryz.pinned (.plain (OpenSpec.upto tableAloneSpec)) tableAloneUptoCard

/-- THE SECOND FORM's CARD OF 'revenantlaw18.TowerExact'. -/
def towerExactUptoCard : Claim7 := { stood := { row := towerExactUptoRow, standIns := [], harness := (true, "0492ca388a0fbe5f0f0c6b94189140c8af4057c3e5b6dcd6d607f02798919c4e"), looks := true }, kinds := [], alts := [], laidByText := true, laidKinds := [.wider, .wider, .wider], laidTests := true, laidLooks := .later }
def TowerExactUptoCardSaid : Prop := Claim7.holds Tryz.pinned (.plain (OpenSpec.upto towerExactSpec)) towerExactUptoCard

/-- THE SECOND FORM's CARD OF 'revenantlaw18.TowerShort'. -/
def towerShortUptoCard : Claim7 := { stood := { row := towerShortUptoRow, standIns := [], harness := (true, "0492ca388a0fbe5f0f0c6b94189140c8af4057c3e5b6dcd6d607f02798919c4e"), looks := true }, kinds := [], alts := [], laidByText := true, laidKinds := [.wider, .wider, .wider], laidTests := true, laidLooks := .later }
def TowerShortUptoCardSaid : Prop := Claim7.holds Tryz.pinned (.plain (OpenSpec.upto towerShortSpec)) towerShortUptoCard
end Rows
end Go.Proofs.YtnnjanaclgjneaaGreatDoor
