/-
  DERIVED. GIVEN WITH THE SEED: THE CARDS: each row of YtdknbegcflldjaaGreatDoorRows.lean that lists a variable, with what it lists TIED to the program's text (the seventh form; the later family's looks); each row that meets fmt, with fmt's text TOLD by the authors' own Lean function (tested against real Go, not proved from fmt's source: count such statements apart). THE CARD IS WHAT COUNTS. Prove the row's statement (the work); the ties are given (YtdknbegcflldjaaGreatDoorTie.lean); close each card by the builder's one call (the guide's Derived/Test/ToyasCard.lean, 'card_holds'). Laid BY PROGRAM, IN A SANDBOX (cutbox-door.mjs). By AI agents, Wed Nov 11 2026. No macro, syntax, notation, axiom, sorry.
-/
import Derived.Test.YtdknbegcflldjaaGreatDoorRows
import GoSem.ClaimSeven
namespace Go.Proofs.YtdknbegcflldjaaGreatDoor
namespace Rows

/-- THE TIED CARD OF 'revenantlaw16.ChainSet'. -/
def chainSetCard : Claim7 := { stood := { row := chainSetRow, standIns := [], harness := (true, "41ca340ea11614eb39e414af81e3f1af6a7e68a6b5dc852cf87dec3b3410050d"), looks := true }, kinds := [], alts := [], laidByText := true, laidKinds := [.wider, .wider, .wider], laidTests := true, laidLooks := .later }
def ChainSetCardSaid : Prop := Claim7.holds Tryz.pinned (.plain (OpenSpec.ofChange chainSetSpec)) chainSetCard

/-- THE TIED CARD OF 'revenantlaw16.ChainAlone'. -/
def chainAloneCard : Claim7 := { stood := { row := chainAloneRow, standIns := [], harness := (true, "41ca340ea11614eb39e414af81e3f1af6a7e68a6b5dc852cf87dec3b3410050d"), looks := true }, kinds := [], alts := [], laidByText := true, laidKinds := [.wider, .wider, .wider], laidTests := true, laidLooks := .later }
def ChainAloneCardSaid : Prop := Claim7.holds Tryz.pinned (.plain (OpenSpec.ofChange chainAloneSpec)) chainAloneCard

/-- THE TIED CARD OF 'revenantlaw17.TableExact'. -/
def tableExactCard : Claim7 := { stood := { row := tableExactRow, standIns := [], harness := (true, "41ca340ea11614eb39e414af81e3f1af6a7e68a6b5dc852cf87dec3b3410050d"), looks := true }, kinds := [], alts := [], laidByText := true, laidKinds := [.wider, .wider, .wider], laidTests := true, laidLooks := .later }
def TableExactCardSaid : Prop := Claim7.holds Tryz.pinned (.plain (OpenSpec.ofChange tableExactSpec)) tableExactCard

/-- THE TIED CARD OF 'revenantlaw17.TableNil'. -/
def tableNilCard : Claim7 := { stood := { row := tableNilRow, standIns := [], harness := (true, "41ca340ea11614eb39e414af81e3f1af6a7e68a6b5dc852cf87dec3b3410050d"), looks := true }, kinds := [], alts := [], laidByText := true, laidKinds := [.wider, .wider, .wider], laidTests := true, laidLooks := .later }
def TableNilCardSaid : Prop := Claim7.holds Tryz.pinned (.plain (OpenSpec.ofChange tableNilSpec)) tableNilCard

/-- THE TIED CARD OF 'revenantlaw17.TableMap'. -/
def tableMapCard : Claim7 := { stood := { row := tableMapRow, standIns := [], harness := (true, "41ca340ea11614eb39e414af81e3f1af6a7e68a6b5dc852cf87dec3b3410050d"), looks := true }, kinds := [], alts := [], laidByText := true, laidKinds := [.wider, .wider, .wider], laidTests := true, laidLooks := .later }
def TableMapCardSaid : Prop := Claim7.holds Tryz.pinned (.plain (OpenSpec.ofChange tableMapSpec)) tableMapCard

/-- THE TIED CARD OF 'revenantlaw17.TableAlone'. -/
def tableAloneCard : Claim7 := { stood := { row := tableAloneRow, standIns := [], harness := (true, "41ca340ea11614eb39e414af81e3f1af6a7e68a6b5dc852cf87dec3b3410050d"), looks := true }, kinds := [], alts := [], laidByText := true, laidKinds := [.wider, .wider, .wider], laidTests := true, laidLooks := .later }
def TableAloneCardSaid : Prop := Claim7.holds Tryz.pinned (.plain (OpenSpec.ofChange tableAloneSpec)) tableAloneCard

/-- THE TIED CARD OF 'revenantlaw19.SkipExact'. -/
def skipExactCard : Claim7 := { stood := { row := skipExactRow, standIns := [], harness := (true, "41ca340ea11614eb39e414af81e3f1af6a7e68a6b5dc852cf87dec3b3410050d"), looks := true }, kinds := [], alts := [], laidByText := true, laidKinds := [.wider, .wider, .wider], laidTests := true, laidLooks := .later }
def SkipExactCardSaid : Prop := Claim7.holds Tryz.pinned (.plain (OpenSpec.ofChange skipExactSpec)) skipExactCard

/-- THE TIED CARD OF 'revenantlaw19.SkipNil'. -/
def skipNilCard : Claim7 := { stood := { row := skipNilRow, standIns := [], harness := (true, "41ca340ea11614eb39e414af81e3f1af6a7e68a6b5dc852cf87dec3b3410050d"), looks := true }, kinds := [], alts := [], laidByText := true, laidKinds := [.wider, .wider, .wider], laidTests := true, laidLooks := .later }
def SkipNilCardSaid : Prop := Claim7.holds Tryz.pinned (.plain (OpenSpec.ofChange skipNilSpec)) skipNilCard

/-- THE SECOND FORM's CARD OF 'revenantlaw16.ChainSet'. -/
def chainSetUptoCard : Claim7 := { stood := { row := chainSetUptoRow, standIns := [], harness := (true, "41ca340ea11614eb39e414af81e3f1af6a7e68a6b5dc852cf87dec3b3410050d"), looks := true }, kinds := [], alts := [], laidByText := true, laidKinds := [.wider, .wider, .wider], laidTests := true, laidLooks := .later }
def ChainSetUptoCardSaid : Prop := Claim7.holds Tryz.pinned (.plain (OpenSpec.upto chainSetSpec)) chainSetUptoCard

/-- THE SECOND FORM's CARD OF 'revenantlaw16.ChainAlone'. -/
def chainAloneUptoCard : Claim7 := { stood := { row := chainAloneUptoRow, standIns := [], harness := (true, "41ca340ea11614eb39e414af81e3f1af6a7e68a6b5dc852cf87dec3b3410050d"), looks := true }, kinds := [], alts := [], laidByText := true, laidKinds := [.wider, .wider, .wider], laidTests := true, laidLooks := .later }
def ChainAloneUptoCardSaid : Prop := Claim7.holds Tryz.pinned (.plain (OpenSpec.upto chainAloneSpec)) chainAloneUptoCard

/-- THE SECOND FORM's CARD OF 'revenantlaw17.TableExact'. -/
def tableExactUptoCard : Claim7 := { stood := { row := tableExactUptoRow, standIns := [], harness := (true, "41ca340ea11614eb39e414af81e3f1af6a7e68a6b5dc852cf87dec3b3410050d"), looks := true }, kinds := [], alts := [], laidByText := true, laidKinds := [.wider, .wider, .wider], laidTests := true, laidLooks := .later }
def TableExactUptoCardSaid : Prop := Claim7.holds Tryz.pinned (.plain (OpenSpec.upto tableExactSpec)) tableExactUptoCard

/-- THE SECOND FORM's CARD OF 'revenantlaw17.TableNil'. -/
def tableNilUptoCard : Claim7 := { stood := { row := tableNilUptoRow, standIns := [], harness := (true, "41ca340ea11614eb39e414af81e3f1af6a7e68a6b5dc852cf87dec3b3410050d"), looks := true }, kinds := [], alts := [], laidByText := true, laidKinds := [.wider, .wider, .wider], laidTests := true, laidLooks := .later }
def TableNilUptoCardSaid : Prop := Claim7.holds Tryz.pinned (.plain (OpenSpec.upto tableNilSpec)) tableNilUptoCard

/-- THE SECOND FORM's CARD OF 'revenantlaw17.TableMap'. -/
def tableMapUptoCard : Claim7 := { stood := { row := tableMapUptoRow, standIns := [], harness := (true, "41ca340ea11614eb39e414af81e3f1af6a7e68a6b5dc852cf87dec3b3410050d"), looks := true }, kinds := [], alts := [], laidByText := true, laidKinds := [.wider, .wider, .wider], laidTests := true, laidLooks := .later }
def TableMapUptoCardSaid : Prop := Claim7.holds Tryz.pinned (.plain (OpenSpec.upto tableMapSpec)) tableMapUptoCard

/-- THE SECOND FORM's CARD OF 'revenantlaw17.TableAlone'. -/
def tableAloneUptoCard : Claim7 := { stood := { row := tableAloneUptoRow, standIns := [], harness := (true, "41ca340ea11614eb39e414af81e3f1af6a7e68a6b5dc852cf87dec3b3410050d"), looks := true }, kinds := [], alts := [], laidByText := true, laidKinds := [.wider, .wider, .wider], laidTests := true, laidLooks := .later }
def TableAloneUptoCardSaid : Prop := Claim7.holds Tryz.pinned (.plain (OpenSpec.upto tableAloneSpec)) tableAloneUptoCard

/-- THE SECOND FORM's CARD OF 'revenantlaw19.SkipExact'. -/
def skipExactUptoCard : Claim7 := { stood := { row := skipExactUptoRow, standIns := [], harness := (true, "41ca340ea11614eb39e414af81e3f1af6a7e68a6b5dc852cf87dec3b3410050d"), looks := true }, kinds := [], alts := [], laidByText := true, laidKinds := [.wider, .wider, .wider], laidTests := true, laidLooks := .later }
def SkipExactUptoCardSaid : Prop := Claim7.holds Tryz.pinned (.plain (OpenSpec.upto skipExactSpec)) skipExactUptoCard

/-- THE SECOND FORM's CARD OF 'revenantlaw19.SkipNil'. -/
def skipNilUptoCard : Claim7 := { stood := { row := skipNilUptoRow, standIns := [], harness := (true, "41ca340ea11614eb39e414af81e3f1af6a7e68a6b5dc852cf87dec3b3410050d"), looks := true }, kinds := [], alts := [], laidByText := true, laidKinds := [.wider, .wider, .wider], laidTests := true, laidLooks := .later }
def SkipNilUptoCardSaid : Prop := Claim7.holds Tryz.pinned (.plain (OpenSpec.upto skipNilSpec)) skipNilUptoCard
end Rows
end Go.Proofs.YtdknbegcflldjaaGreatDoor
