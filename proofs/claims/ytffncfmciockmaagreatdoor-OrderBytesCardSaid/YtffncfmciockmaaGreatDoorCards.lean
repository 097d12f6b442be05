/-
  DERIVED. GIVEN WITH THE SEED: THE CARDS: each row of YtffncfmciockmaaGreatDoorRows.lean that lists a variable, with what it lists TIED to the program's text (the seventh form; the later family's looks); each row that meets fmt, with fmt's text TOLD by the authors' own Lean function (tested against real Go, not proved from fmt's source: count such statements apart). THE CARD IS WHAT COUNTS. Prove the row's statement (the work); the ties are given (YtffncfmciockmaaGreatDoorTie.lean); close each card by the builder's one call (the guide's Derived/Test/ToyasCard.lean, 'card_holds'). Laid BY PROGRAM, IN A SANDBOX (cutbox-door.mjs). By AI agents, Wed Nov 11 2026. No macro, syntax, notation, axiom, sorry.
-/
import Derived.Test.YtffncfmciockmaaGreatDoorRows
import GoSem.ClaimSeven
namespace Go.Proofs.YtffncfmciockmaaGreatDoor
namespace Rows

/-- THE TIED CARD OF 'revenantlaw19.SkipExact'. -/
def skipExactCard : Claim7 := { stood := { row := skipExactRow, standIns := [], harness := (true, "e83f47cc28cc4f337af3e03e56a96e3e54febcef9c0c5a6c78033aba212acdc9"), looks := true }, kinds := [], alts := [], laidByText := true, laidKinds := [.wider, .wider, .wider], laidTests := true, laidLooks := .later }
def SkipExactCardSaid : Prop := Claim7.holds Tryz.pinned (.plain (OpenSpec.ofChange skipExactSpec)) skipExactCard

/-- THE TIED CARD OF 'revenantlaw19.SkipNil'. -/
def skipNilCard : Claim7 := { stood := { row := skipNilRow, standIns := [], harness := (true, "e83f47cc28cc4f337af3e03e56a96e3e54febcef9c0c5a6c78033aba212acdc9"), looks := true }, kinds := [], alts := [], laidByText := true, laidKinds := [.wider, .wider, .wider], laidTests := true, laidLooks := .later }
def SkipNilCardSaid : Prop := Claim7.holds Tryz.pinned (.plain (OpenSpec.ofChange skipNilSpec)) skipNilCard

/-- THE TIED CARD OF 'revenantlaw20.OrderBytes'. -/
def orderBytesCard : Claim7 := { stood := { row := orderBytesRow, standIns := [], harness := (true, "e83f47cc28cc4f337af3e03e56a96e3e54febcef9c0c5a6c78033aba212acdc9"), looks := true }, kinds := [], alts := [], laidByText := true, laidKinds := [.wider, .wider, .wider], laidTests := true, laidLooks := .later }
def OrderBytesCardSaid : Prop := Claim7.holds Tryz.pinned (.plain (OpenSpec.ofChange orderBytesSpec)) orderBytesCard

/-- THE TIED CARD OF 'revenantlaw20.OrderBack'. -/
def orderBackCard : Claim7 := { stood := { row := orderBackRow, standIns := [], harness := (true, "e83f47cc28cc4f337af3e03e56a96e3e54febcef9c0c5a6c78033aba212acdc9"), looks := true }, kinds := [], alts := [], laidByText := true, laidKinds := [.wider, .wider, .wider], laidTests := true, laidLooks := .later }
def OrderBackCardSaid : Prop := Claim7.holds Tryz.pinned (.plain (OpenSpec.ofChange orderBackSpec)) orderBackCard

/-- THE SECOND FORM's CARD OF 'revenantlaw19.SkipExact'. -/
def skipExactUptoCard : Claim7 := { stood := { row := skipExactUptoRow, standIns := [], harness := (true, "e83f47cc28cc4f337af3e03e56a96e3e54febcef9c0c5a6c78033aba212acdc9"), looks := true }, kinds := [], alts := [], laidByText := true, laidKinds := [.wider, .wider, .wider], laidTests := true, laidLooks := .later }
def SkipExactUptoCardSaid : Prop := Claim7.holds Tryz.pinned (.plain (OpenSpec.upto skipExactSpec)) skipExactUptoCard

/-- THE SECOND FORM's CARD OF 'revenantlaw19.SkipNil'. -/
def skipNilUptoCard : Claim7 := { stood := { row := skipNilUptoRow, standIns := [], harness := (true, "e83f47cc28cc4f337af3e03e56a96e3e54febcef9c0c5a6c78033aba212acdc9"), looks := true }, kinds := [], alts := [], laidByText := true, laidKinds := [.wider, .wider, .wider], laidTests := true, laidLooks := .later }
def SkipNilUptoCardSaid : Prop := Claim7.holds Tryz.pinned (.plain (OpenSpec.upto skipNilSpec)) skipNilUptoCard

/-- THE SECOND FORM's CARD OF 'revenantlaw20.OrderBytes'. -/
def orderBytesUptoCard : Claim7 := { stood := { row := orderBytesUptoRow, standIns := [], harness := (true, "e83f47cc28cc4f337af3e03e56a96e3e54febcef9c0c5a6c78033aba212acdc9"), looks := true }, kinds := [], alts := [], laidByText := true, laidKinds := [.wider, .wider, .wider], laidTests := true, laidLooks := .later }
def OrderBytesUptoCardSaid : Prop := Claim7.holds Tryz.pinned (.plain (OpenSpec.upto orderBytesSpec)) orderBytesUptoCard

/-- THE SECOND FORM's CARD OF 'revenantlaw20.OrderBack'. -/
def orderBackUptoCard : Claim7 := { stood := { row := orderBackUptoRow, standIns := [], harness := (true, "e83f47cc28cc4f337af3e03e56a96e3e54febcef9c0c5a6c78033aba212acdc9"), looks := true }, kinds := [], alts := [], laidByText := true, laidKinds := [.wider, .wider, .wider], laidTests := true, laidLooks := .later }
def OrderBackUptoCardSaid : Prop := Claim7.holds Tryz.pinned (.plain (OpenSpec.upto orderBackSpec)) orderBackUptoCard
end Rows
end Go.Proofs.YtffncfmciockmaaGreatDoor
