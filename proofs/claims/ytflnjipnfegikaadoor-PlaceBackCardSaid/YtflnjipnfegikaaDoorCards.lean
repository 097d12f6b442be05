/-
  DERIVED. GIVEN WITH THE SEED: THE CARDS: each row of YtflnjipnfegikaaDoorRows.lean that lists a variable, with what it lists TIED to the program's text (the seventh form; the later family's looks); each row that meets fmt, with fmt's text TOLD by the authors' own Lean function (tested against real Go, not proved from fmt's source: count such statements apart). THE CARD IS WHAT COUNTS. Prove the row's statement (the work); the ties are given (YtflnjipnfegikaaDoorTie.lean); close each card by the builder's one call (the guide's Derived/Test/ToyasCard.lean, 'card_holds'). Laid BY PROGRAM, IN A SANDBOX (cutbox-door.mjs). By AI agents, Wed Nov 11 2026. No macro, syntax, notation, axiom, sorry.
-/
import Derived.Test.YtflnjipnfegikaaDoorRows
import GoSem.ClaimSeven
namespace Go.Proofs.YtflnjipnfegikaaDoor
namespace Rows

/-- THE TIED CARD OF 'revenantlaw05.PlaceExact'. -/
def placeExactCard : Claim7 := { stood := { row := placeExactRow, standIns := [], harness := (true, "b4929b1aab671264a83bad8a84f39e4b99e470cf00daa8af95726beda41180d0"), looks := false }, kinds := [], alts := [], laidByText := true, laidKinds := [.data, .data, .data, .data], laidTests := true, laidLooks := .later }
def PlaceExactCardSaid : Prop := Claim7.holds Tryd.pinned (.plain (OpenSpec.ofChange placeExactSpec)) placeExactCard

/-- THE TIED CARD OF 'revenantlaw05.PlaceBack'. -/
def placeBackCard : Claim7 := { stood := { row := placeBackRow, standIns := [], harness := (true, "b4929b1aab671264a83bad8a84f39e4b99e470cf00daa8af95726beda41180d0"), looks := false }, kinds := [], alts := [], laidByText := true, laidKinds := [.data, .data, .data, .data], laidTests := true, laidLooks := .later }
def PlaceBackCardSaid : Prop := Claim7.holds Tryd.pinned (.plain (OpenSpec.ofChange placeBackSpec)) placeBackCard

/-- THE SECOND FORM's CARD OF 'revenantlaw05.PlaceExact'. -/
def placeExactUptoCard : Claim7 := { stood := { row := placeExactUptoRow, standIns := [], harness := (true, "b4929b1aab671264a83bad8a84f39e4b99e470cf00daa8af95726beda41180d0"), looks := false }, kinds := [], alts := [], laidByText := true, laidKinds := [.data, .data, .data, .data], laidTests := true, laidLooks := .later }
def PlaceExactUptoCardSaid : Prop := Claim7.holds Tryd.pinned (.plain (OpenSpec.upto placeExactSpec)) placeExactUptoCard

/-- THE SECOND FORM's CARD OF 'revenantlaw05.PlaceBack'. -/
def placeBackUptoCard : Claim7 := { stood := { row := placeBackUptoRow, standIns := [], harness := (true, "b4929b1aab671264a83bad8a84f39e4b99e470cf00daa8af95726beda41180d0"), looks := false }, kinds := [], alts := [], laidByText := true, laidKinds := [.data, .data, .data, .data], laidTests := true, laidLooks := .later }
def PlaceBackUptoCardSaid : Prop := Claim7.holds Tryd.pinned (.plain (OpenSpec.upto placeBackSpec)) placeBackUptoCard
end Rows
end Go.Proofs.YtflnjipnfegikaaDoor
