/-
  DERIVED. GIVEN WITH THE SEED: THE CARDS: each row of YtlhhnaccigamjaaDoorRows.lean that lists a variable, with what it lists TIED to the program's text (the seventh form; the later family's looks); each row that meets fmt, with fmt's text TOLD by the authors' own Lean function (tested against real Go, not proved from fmt's source: count such statements apart). THE CARD IS WHAT COUNTS. Prove the row's statement (the work); the ties are given (YtlhhnaccigamjaaDoorTie.lean); close each card by the builder's one call (the guide's Derived/Test/ToyasCard.lean, 'card_holds'). Laid BY PROGRAM, IN A SANDBOX (cutbox-door.mjs). By AI agents, Wed Nov 11 2026. No macro, syntax, notation, axiom, sorry.
-/
import Derived.Test.YtlhhnaccigamjaaDoorRows
import GoSem.ClaimSeven
namespace Go.Proofs.YtlhhnaccigamjaaDoor
namespace Rows

/-- THE TIED CARD OF 'revenantlaw13.CoreExact'. -/
def coreExactCard : Claim7 := { stood := { row := coreExactRow, standIns := [], harness := (true, "54bc23a1b21feafd7f3c0d11bf636174836cdc8aaf44e07fc00fec08c1dd7b9a"), looks := false }, kinds := [], alts := [], laidByText := true, laidKinds := [.wider, .wider, .wider], laidTests := true, laidLooks := .later }
def CoreExactCardSaid : Prop := Claim7.holds Tryd.pinned (.plain (OpenSpec.ofChange coreExactSpec)) coreExactCard

/-- THE TIED CARD OF 'revenantlaw13.CoreNil'. -/
def coreNilCard : Claim7 := { stood := { row := coreNilRow, standIns := [], harness := (true, "54bc23a1b21feafd7f3c0d11bf636174836cdc8aaf44e07fc00fec08c1dd7b9a"), looks := false }, kinds := [], alts := [], laidByText := true, laidKinds := [.wider, .wider, .wider], laidTests := true, laidLooks := .later }
def CoreNilCardSaid : Prop := Claim7.holds Tryd.pinned (.plain (OpenSpec.ofChange coreNilSpec)) coreNilCard

/-- THE TIED CARD OF 'revenantlaw13.CoreEpochs'. -/
def coreEpochsCard : Claim7 := { stood := { row := coreEpochsRow, standIns := [], harness := (true, "54bc23a1b21feafd7f3c0d11bf636174836cdc8aaf44e07fc00fec08c1dd7b9a"), looks := false }, kinds := [], alts := [], laidByText := true, laidKinds := [.wider, .wider, .wider], laidTests := true, laidLooks := .later }
def CoreEpochsCardSaid : Prop := Claim7.holds Tryd.pinned (.plain (OpenSpec.ofChange coreEpochsSpec)) coreEpochsCard

/-- THE TIED CARD OF 'revenantlaw13.CoreLinks'. -/
def coreLinksCard : Claim7 := { stood := { row := coreLinksRow, standIns := [], harness := (true, "54bc23a1b21feafd7f3c0d11bf636174836cdc8aaf44e07fc00fec08c1dd7b9a"), looks := false }, kinds := [], alts := [], laidByText := true, laidKinds := [.wider, .wider, .wider], laidTests := true, laidLooks := .later }
def CoreLinksCardSaid : Prop := Claim7.holds Tryd.pinned (.plain (OpenSpec.ofChange coreLinksSpec)) coreLinksCard

/-- THE SECOND FORM's CARD OF 'revenantlaw13.CoreExact'. -/
def coreExactUptoCard : Claim7 := { stood := { row := coreExactUptoRow, standIns := [], harness := (true, "54bc23a1b21feafd7f3c0d11bf636174836cdc8aaf44e07fc00fec08c1dd7b9a"), looks := false }, kinds := [], alts := [], laidByText := true, laidKinds := [.wider, .wider, .wider], laidTests := true, laidLooks := .later }
def CoreExactUptoCardSaid : Prop := Claim7.holds Tryd.pinned (.plain (OpenSpec.upto coreExactSpec)) coreExactUptoCard

/-- THE SECOND FORM's CARD OF 'revenantlaw13.CoreNil'. -/
def coreNilUptoCard : Claim7 := { stood := { row := coreNilUptoRow, standIns := [], harness := (true, "54bc23a1b21feafd7f3c0d11bf636174836cdc8aaf44e07fc00fec08c1dd7b9a"), looks := false }, kinds := [], alts := [], laidByText := true, laidKinds := [.wider, .wider, .wider], laidTests := true, laidLooks := .later }
def CoreNilUptoCardSaid : Prop := Claim7.holds Tryd.pinned (.plain (OpenSpec.upto coreNilSpec)) coreNilUptoCard

/-- THE SECOND FORM's CARD OF 'revenantlaw13.CoreEpochs'. -/
def coreEpochsUptoCard : Claim7 := { stood := { row := coreEpochsUptoRow, standIns := [], harness := (true, "54bc23a1b21feafd7f3c0d11bf636174836cdc8aaf44e07fc00fec08c1dd7b9a"), looks := false }, kinds := [], alts := [], laidByText := true, laidKinds := [.wider, .wider, .wider], laidTests := true, laidLooks := .later }
def CoreEpochsUptoCardSaid : Prop := Claim7.holds Tryd.pinned (.plain (OpenSpec.upto coreEpochsSpec)) coreEpochsUptoCard

/-- THE SECOND FORM's CARD OF 'revenantlaw13.CoreLinks'. -/
def coreLinksUptoCard : Claim7 := { stood := { row := coreLinksUptoRow, standIns := [], harness := (true, "54bc23a1b21feafd7f3c0d11bf636174836cdc8aaf44e07fc00fec08c1dd7b9a"), looks := false }, kinds := [], alts := [], laidByText := true, laidKinds := [.wider, .wider, .wider], laidTests := true, laidLooks := .later }
def CoreLinksUptoCardSaid : Prop := Claim7.holds Tryd.pinned (.plain (OpenSpec.upto coreLinksSpec)) coreLinksUptoCard
end Rows
end Go.Proofs.YtlhhnaccigamjaaDoor
