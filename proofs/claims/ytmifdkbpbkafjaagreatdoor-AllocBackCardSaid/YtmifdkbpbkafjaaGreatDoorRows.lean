/-
  NARROWER THAN 'FOR EVERY INPUT', by the rows' own cells (each row's printed sentence says how): AllocExact: laid · AllocApart: laid · AllocEpochs: laid · AllocBack: laid.
  DERIVED. THE GIVEN ROWS OF THIS SEAT. 4 by the template 'for every input the law returns true; each argument reads behind the call as it read before'; 0 by the template 'total and deterministic' (their statements: YtmifdkbpbkafjaaGreatDoorTotals.lean).
  GIVEN WITH THE SEED: the statements are not yours to turn. If you find one false, say at which input.
  Laid BY PROGRAM, IN A SANDBOX (cutbox-rows.mjs): the forced cells as the released guide's own fill.sh prints them over the translation 1924481f38abcc03… (all of the seat's roots in one cut). By AI agents, Wed Nov 11 2026. No macro, syntax, notation, axiom, sorry.
-/
import Derived.Test.YtmifdkbpbkafjaaGreatDoorChecked
import GoSem.Claim
import GoSem.ClaimJoined
import GoSem.ClaimMapViews
import Derived.JoinedTies
import Derived.KernelRfl
namespace Go.Proofs.YtmifdkbpbkafjaaGreatDoor
/- THE CELL 'sum', in the pinned program and in every row, IS THE sha256 OF THE DUMP (.gsa) THAT YtmifdkbpbkafjaaGreatDoorProg.lean LOADS. Nothing in Lean hashes anything: it is a label: what it is worth is what the hold of that sum in a sandbox is worth. -/
noncomputable def Tryz.pinned : Pinned := { name := "ytmifdkbpbkafjaagreatdoor", sum := "1924481f38abcc03b9abe19a30b3548e3d476a5f6f343266d97a7a29e89ddb11", checked := Tryz.checked }
namespace Rows
def none {H : Type} : Left H := { results := [], args := [] }

/- WHAT THE LISTED PACKAGE-LEVEL VARIABLES READ AS WHEN THE CALL BEGINS. Each datum BY PROGRAM (the guide's laid-datum.mjs) off the statement by which the dump's own 'gosem.cut.vars' lays the variable. In a bare row this is a premise. The card (YtmifdkbpbkafjaaGreatDoorCards.lean) ties it to the program's text. -/
def laid_revenant_link_versionPart {H : Type} : DataW H := .agg [.lit (.int .i64 0), .lit (.int .i64 40)]
def laid_revenant_link_slotPart {H : Type} : DataW H := .agg [.lit (.int .i64 40), .lit (.int .i64 23)]
def laid_revenant_link_markPart {H : Type} : DataW H := .agg [.lit (.int .i64 63), .lit (.int .i64 1)]

/-- 'revenantlaw14.AllocExact': WHATEVER THE INPUT: true; the input reads as it did. -/
def allocExactSpec : ChangeSpec := { name := "allocExact", fn := fun _ => fun
  | [d1, d2, d3] => { results := [.lit (.bool true)], args := [d1, d2, d3] }
  | _ => none }
def allocExactRow : OpenClaim := { program := "ytmifdkbpbkafjaagreatdoor", sum := "1924481f38abcc03b9abe19a30b3548e3d476a5f6f343266d97a7a29e89ddb11", func := "revenant/revenantlaw14.AllocExact", spec := "allocExact", inPlace := ["maps.clone"], unfollowed := true, recurses := true, named := ["revenant/link.slotPart", "revenant/link.versionPart", "revenant/link.markPart"], plainKeys := false, apart := false, laid := [("revenant/link.versionPart", laid_revenant_link_versionPart), ("revenant/link.slotPart", laid_revenant_link_slotPart), ("revenant/link.markPart", laid_revenant_link_markPart)] }
def AllocExactSaid : Prop := allocExactRow.holds Tryz.pinned (OpenSpec.ofChange allocExactSpec)

/-- ITS FALSE NEIGHBOUR: 'it returns false'. Refute it at one input. -/
def allocExactWrong : ChangeSpec := { name := "allocExact", fn := fun _ => fun
  | [d1, d2, d3] => { results := [.lit (.bool false)], args := [d1, d2, d3] }
  | _ => none }
def AllocExactWrongFalsely : Prop := allocExactRow.holds Tryz.pinned (OpenSpec.ofChange allocExactWrong)

/-- 'revenantlaw14.AllocApart': WHATEVER THE INPUT: true; the input reads as it did. -/
def allocApartSpec : ChangeSpec := { name := "allocApart", fn := fun _ => fun
  | [d1, d2, d3] => { results := [.lit (.bool true)], args := [d1, d2, d3] }
  | _ => none }
def allocApartRow : OpenClaim := { program := "ytmifdkbpbkafjaagreatdoor", sum := "1924481f38abcc03b9abe19a30b3548e3d476a5f6f343266d97a7a29e89ddb11", func := "revenant/revenantlaw14.AllocApart", spec := "allocApart", unfollowed := true, recurses := true, named := ["revenant/link.slotPart", "revenant/link.versionPart", "revenant/link.markPart"], plainKeys := false, apart := false, laid := [("revenant/link.versionPart", laid_revenant_link_versionPart), ("revenant/link.slotPart", laid_revenant_link_slotPart), ("revenant/link.markPart", laid_revenant_link_markPart)] }
def AllocApartSaid : Prop := allocApartRow.holds Tryz.pinned (OpenSpec.ofChange allocApartSpec)

/-- ITS FALSE NEIGHBOUR: 'it returns false'. Refute it at one input. -/
def allocApartWrong : ChangeSpec := { name := "allocApart", fn := fun _ => fun
  | [d1, d2, d3] => { results := [.lit (.bool false)], args := [d1, d2, d3] }
  | _ => none }
def AllocApartWrongFalsely : Prop := allocApartRow.holds Tryz.pinned (OpenSpec.ofChange allocApartWrong)

/-- 'revenantlaw14.AllocEpochs': WHATEVER THE INPUT: true; the input reads as it did. -/
def allocEpochsSpec : ChangeSpec := { name := "allocEpochs", fn := fun _ => fun
  | [d1, d2, d3] => { results := [.lit (.bool true)], args := [d1, d2, d3] }
  | _ => none }
def allocEpochsRow : OpenClaim := { program := "ytmifdkbpbkafjaagreatdoor", sum := "1924481f38abcc03b9abe19a30b3548e3d476a5f6f343266d97a7a29e89ddb11", func := "revenant/revenantlaw14.AllocEpochs", spec := "allocEpochs", unfollowed := true, recurses := true, named := ["revenant/link.slotPart", "revenant/link.versionPart", "revenant/link.markPart"], plainKeys := false, apart := false, laid := [("revenant/link.versionPart", laid_revenant_link_versionPart), ("revenant/link.slotPart", laid_revenant_link_slotPart), ("revenant/link.markPart", laid_revenant_link_markPart)] }
def AllocEpochsSaid : Prop := allocEpochsRow.holds Tryz.pinned (OpenSpec.ofChange allocEpochsSpec)

/-- ITS FALSE NEIGHBOUR: 'it returns false'. Refute it at one input. -/
def allocEpochsWrong : ChangeSpec := { name := "allocEpochs", fn := fun _ => fun
  | [d1, d2, d3] => { results := [.lit (.bool false)], args := [d1, d2, d3] }
  | _ => none }
def AllocEpochsWrongFalsely : Prop := allocEpochsRow.holds Tryz.pinned (OpenSpec.ofChange allocEpochsWrong)

/-- 'revenantlaw14.AllocBack': WHATEVER THE INPUT: true; the input reads as it did. -/
def allocBackSpec : ChangeSpec := { name := "allocBack", fn := fun _ => fun
  | [d1, d2, d3, d4] => { results := [.lit (.bool true)], args := [d1, d2, d3, d4] }
  | _ => none }
def allocBackRow : OpenClaim := { program := "ytmifdkbpbkafjaagreatdoor", sum := "1924481f38abcc03b9abe19a30b3548e3d476a5f6f343266d97a7a29e89ddb11", func := "revenant/revenantlaw14.AllocBack", spec := "allocBack", unfollowed := true, recurses := true, named := ["revenant/link.slotPart", "revenant/link.versionPart", "revenant/link.markPart"], plainKeys := false, apart := false, laid := [("revenant/link.versionPart", laid_revenant_link_versionPart), ("revenant/link.slotPart", laid_revenant_link_slotPart), ("revenant/link.markPart", laid_revenant_link_markPart)] }
def AllocBackSaid : Prop := allocBackRow.holds Tryz.pinned (OpenSpec.ofChange allocBackSpec)

/-- ITS FALSE NEIGHBOUR: 'it returns false'. Refute it at one input. -/
def allocBackWrong : ChangeSpec := { name := "allocBack", fn := fun _ => fun
  | [d1, d2, d3, d4] => { results := [.lit (.bool false)], args := [d1, d2, d3, d4] }
  | _ => none }
def AllocBackWrongFalsely : Prop := allocBackRow.holds Tryz.pinned (OpenSpec.ofChange allocBackWrong)

/- THE SECOND FORM. 'bulk': how many values and letters a reading holds, each counted each time it is reached (what is shared counts as often as it is met; a slice's spare places count too). A statement '..UptoSaid' is the law's where the arguments, and the package variables that the reading takes, are together of bulk at most 1048576: NARROWER than '..Said'. Prove '..Said' where nothing that the law and all that it calls make is longer than what came in: it says more and counts as full. Else prove '..UptoSaid'. A law counts once. -/
mutual
def uptoBulk {H : Type} : DataW H → Nat
  | .lit (.string bytes) => bytes.length + 1
  | .lit _ => 1
  | .nil => 1
  | .ptr d => uptoBulk d + 1
  | .slice elems spare => uptoBulkAll elems + uptoBulkAll spare + 1
  | .agg parts => uptoBulkAll parts + 1
  | .iface _ d => uptoBulk d + 1
  | .map entries => uptoBulkEntries entries + 1
  | .held _ => 1
def uptoBulkAll {H : Type} : List (DataW H) → Nat
  | [] => 0
  | d :: r => uptoBulk d + uptoBulkAll r
def uptoBulkEntries {H : Type} : List (Lit × DataW H) → Nat
  | [] => 0
  | x :: r => uptoBulkEntry x + uptoBulkEntries r
def uptoBulkEntry {H : Type} : Lit × DataW H → Nat
  | (.string bytes, d) => bytes.length + uptoBulk d + 1
  | (_, d) => uptoBulk d + 1
 end
def uptoSmall : (H : Type) → List (DataW H) → Bool := fun _ ds => decide (uptoBulkAll ds ≤ 1048576)
def OpenSpec.upto (s : _root_.Go.ChangeSpec) : _root_.Go.OpenSpec := { _root_.Go.OpenSpec.ofChange s with cond := some uptoSmall }

/-- 'revenantlaw14.AllocExact', WHERE WHAT IT READS IS OF BULK AT MOST 1048576: true; the input reads as it did. -/
def allocExactUptoRow : OpenClaim := { program := "ytmifdkbpbkafjaagreatdoor", sum := "1924481f38abcc03b9abe19a30b3548e3d476a5f6f343266d97a7a29e89ddb11", func := "revenant/revenantlaw14.AllocExact", spec := "allocExact", inPlace := ["maps.clone"], unfollowed := true, recurses := true, named := ["revenant/link.slotPart", "revenant/link.versionPart", "revenant/link.markPart"], plainKeys := false, apart := false, laid := [("revenant/link.versionPart", laid_revenant_link_versionPart), ("revenant/link.slotPart", laid_revenant_link_slotPart), ("revenant/link.markPart", laid_revenant_link_markPart)], narrowed := true }
def AllocExactUptoSaid : Prop := allocExactUptoRow.holds Tryz.pinned (OpenSpec.upto allocExactSpec)

/-- 'revenantlaw14.AllocApart', WHERE WHAT IT READS IS OF BULK AT MOST 1048576: true; the input reads as it did. -/
def allocApartUptoRow : OpenClaim := { program := "ytmifdkbpbkafjaagreatdoor", sum := "1924481f38abcc03b9abe19a30b3548e3d476a5f6f343266d97a7a29e89ddb11", func := "revenant/revenantlaw14.AllocApart", spec := "allocApart", unfollowed := true, recurses := true, named := ["revenant/link.slotPart", "revenant/link.versionPart", "revenant/link.markPart"], plainKeys := false, apart := false, laid := [("revenant/link.versionPart", laid_revenant_link_versionPart), ("revenant/link.slotPart", laid_revenant_link_slotPart), ("revenant/link.markPart", laid_revenant_link_markPart)], narrowed := true }
def AllocApartUptoSaid : Prop := allocApartUptoRow.holds Tryz.pinned (OpenSpec.upto allocApartSpec)

/-- 'revenantlaw14.AllocEpochs', WHERE WHAT IT READS IS OF BULK AT MOST 1048576: true; the input reads as it did. -/
def allocEpochsUptoRow : OpenClaim := { program := "ytmifdkbpbkafjaagreatdoor", sum := "1924481f38abcc03b9abe19a30b3548e3d476a5f6f343266d97a7a29e89ddb11", func := "revenant/revenantlaw14.AllocEpochs", spec := "allocEpochs", unfollowed := true, recurses := true, named := ["revenant/link.slotPart", "revenant/link.versionPart", "revenant/link.markPart"], plainKeys := false, apart := false, laid := [("revenant/link.versionPart", laid_revenant_link_versionPart), ("revenant/link.slotPart", laid_revenant_link_slotPart), ("revenant/link.markPart", laid_revenant_link_markPart)], narrowed := true }
def AllocEpochsUptoSaid : Prop := allocEpochsUptoRow.holds Tryz.pinned (OpenSpec.upto allocEpochsSpec)

/-- 'revenantlaw14.AllocBack', WHERE WHAT IT READS IS OF BULK AT MOST 1048576: true; the input reads as it did. -/
def allocBackUptoRow : OpenClaim := { program := "ytmifdkbpbkafjaagreatdoor", sum := "1924481f38abcc03b9abe19a30b3548e3d476a5f6f343266d97a7a29e89ddb11", func := "revenant/revenantlaw14.AllocBack", spec := "allocBack", unfollowed := true, recurses := true, named := ["revenant/link.slotPart", "revenant/link.versionPart", "revenant/link.markPart"], plainKeys := false, apart := false, laid := [("revenant/link.versionPart", laid_revenant_link_versionPart), ("revenant/link.slotPart", laid_revenant_link_slotPart), ("revenant/link.markPart", laid_revenant_link_markPart)], narrowed := true }
def AllocBackUptoSaid : Prop := allocBackUptoRow.holds Tryz.pinned (OpenSpec.upto allocBackSpec)

end Rows
end Go.Proofs.YtmifdkbpbkafjaaGreatDoor
