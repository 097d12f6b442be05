/-
  NARROWER THAN 'FOR EVERY INPUT', by the rows' own cells (each row's printed sentence says how): SeekExact: laid · SeekLevels: laid · SeekAlone: laid · SeekFrozen: laid.
  DERIVED. THE GIVEN ROWS OF THIS SEAT. 4 by the template 'for every input the law returns true; each argument reads behind the call as it read before'; 0 by the template 'total and deterministic' (their statements: YtchcdfoncebemaaGreatDoorTotals.lean).
  GIVEN WITH THE SEED: the statements are not yours to turn. If you find one false, say at which input.
  Laid BY PROGRAM, IN A SANDBOX (cutbox-rows.mjs): the forced cells as the released guide's own fill.sh prints them over the translation a1df020aec435d88… (all of the seat's roots in one cut). By AI agents, Wed Nov 11 2026. No macro, syntax, notation, axiom, sorry.
-/
import Derived.Test.YtchcdfoncebemaaGreatDoorChecked
import GoSem.Claim
import GoSem.ClaimJoined
import GoSem.ClaimMapViews
import Derived.JoinedTies
import Derived.KernelRfl
namespace Go.Proofs.YtchcdfoncebemaaGreatDoor
/- THE CELL 'sum', in the pinned program and in every row, IS THE sha256 OF THE DUMP (.gsa) THAT YtchcdfoncebemaaGreatDoorProg.lean LOADS. Nothing in Lean hashes anything: it is a label: what it is worth is what the hold of that sum in a sandbox is worth. -/
noncomputable def Tryz.pinned : Pinned := { name := "ytchcdfoncebemaagreatdoor", sum := "a1df020aec435d8849003576937a81d802eb7069c475c8b79fe792011e2e362b", checked := Tryz.checked }
namespace Rows
def none {H : Type} : Left H := { results := [], args := [] }

/- WHAT THE LISTED PACKAGE-LEVEL VARIABLES READ AS WHEN THE CALL BEGINS. Each datum BY PROGRAM (the guide's laid-datum.mjs) off the statement by which the dump's own 'gosem.cut.vars' lays the variable. In a bare row this is a premise. The card (YtchcdfoncebemaaGreatDoorCards.lean) ties it to the program's text. -/
def laid_revenant_link_versionPart {H : Type} : DataW H := .agg [.lit (.int .i64 0), .lit (.int .i64 40)]
def laid_revenant_link_slotPart {H : Type} : DataW H := .agg [.lit (.int .i64 40), .lit (.int .i64 23)]
def laid_revenant_link_markPart {H : Type} : DataW H := .agg [.lit (.int .i64 63), .lit (.int .i64 1)]

/-- 'revenantlaw15.SeekExact': WHATEVER THE INPUT: true; the input reads as it did. -/
def seekExactSpec : ChangeSpec := { name := "seekExact", fn := fun _ => fun
  | [d1, d2, d3, d4, d5] => { results := [.lit (.bool true)], args := [d1, d2, d3, d4, d5] }
  | _ => none }
def seekExactRow : OpenClaim := { program := "ytchcdfoncebemaagreatdoor", sum := "a1df020aec435d8849003576937a81d802eb7069c475c8b79fe792011e2e362b", func := "revenant/revenantlaw15.SeekExact", spec := "seekExact", inPlace := ["maps.clone"], unfollowed := true, recurses := true, named := ["revenant/link.markPart", "revenant/link.slotPart", "revenant/link.versionPart"], plainKeys := false, apart := false, laid := [("revenant/link.versionPart", laid_revenant_link_versionPart), ("revenant/link.slotPart", laid_revenant_link_slotPart), ("revenant/link.markPart", laid_revenant_link_markPart)] }
def SeekExactSaid : Prop := seekExactRow.holds Tryz.pinned (OpenSpec.ofChange seekExactSpec)

/-- ITS FALSE NEIGHBOUR: 'it returns false'. Refute it at one input. -/
def seekExactWrong : ChangeSpec := { name := "seekExact", fn := fun _ => fun
  | [d1, d2, d3, d4, d5] => { results := [.lit (.bool false)], args := [d1, d2, d3, d4, d5] }
  | _ => none }
def SeekExactWrongFalsely : Prop := seekExactRow.holds Tryz.pinned (OpenSpec.ofChange seekExactWrong)

/-- 'revenantlaw15.SeekLevels': WHATEVER THE INPUT: true; the input reads as it did. -/
def seekLevelsSpec : ChangeSpec := { name := "seekLevels", fn := fun _ => fun
  | [d1, d2, d3, d4] => { results := [.lit (.bool true)], args := [d1, d2, d3, d4] }
  | _ => none }
def seekLevelsRow : OpenClaim := { program := "ytchcdfoncebemaagreatdoor", sum := "a1df020aec435d8849003576937a81d802eb7069c475c8b79fe792011e2e362b", func := "revenant/revenantlaw15.SeekLevels", spec := "seekLevels", inPlace := ["maps.clone"], unfollowed := true, recurses := true, named := ["revenant/link.markPart", "revenant/link.slotPart", "revenant/link.versionPart"], plainKeys := false, apart := false, laid := [("revenant/link.versionPart", laid_revenant_link_versionPart), ("revenant/link.slotPart", laid_revenant_link_slotPart), ("revenant/link.markPart", laid_revenant_link_markPart)] }
def SeekLevelsSaid : Prop := seekLevelsRow.holds Tryz.pinned (OpenSpec.ofChange seekLevelsSpec)

/-- ITS FALSE NEIGHBOUR: 'it returns false'. Refute it at one input. -/
def seekLevelsWrong : ChangeSpec := { name := "seekLevels", fn := fun _ => fun
  | [d1, d2, d3, d4] => { results := [.lit (.bool false)], args := [d1, d2, d3, d4] }
  | _ => none }
def SeekLevelsWrongFalsely : Prop := seekLevelsRow.holds Tryz.pinned (OpenSpec.ofChange seekLevelsWrong)

/-- 'revenantlaw15.SeekAlone': WHATEVER THE INPUT: true; the input reads as it did. -/
def seekAloneSpec : ChangeSpec := { name := "seekAlone", fn := fun _ => fun
  | [d1, d2] => { results := [.lit (.bool true)], args := [d1, d2] }
  | _ => none }
def seekAloneRow : OpenClaim := { program := "ytchcdfoncebemaagreatdoor", sum := "a1df020aec435d8849003576937a81d802eb7069c475c8b79fe792011e2e362b", func := "revenant/revenantlaw15.SeekAlone", spec := "seekAlone", unfollowed := true, recurses := true, named := ["revenant/link.markPart", "revenant/link.slotPart", "revenant/link.versionPart"], plainKeys := false, apart := false, laid := [("revenant/link.versionPart", laid_revenant_link_versionPart), ("revenant/link.slotPart", laid_revenant_link_slotPart), ("revenant/link.markPart", laid_revenant_link_markPart)] }
def SeekAloneSaid : Prop := seekAloneRow.holds Tryz.pinned (OpenSpec.ofChange seekAloneSpec)

/-- ITS FALSE NEIGHBOUR: 'it returns false'. Refute it at one input. -/
def seekAloneWrong : ChangeSpec := { name := "seekAlone", fn := fun _ => fun
  | [d1, d2] => { results := [.lit (.bool false)], args := [d1, d2] }
  | _ => none }
def SeekAloneWrongFalsely : Prop := seekAloneRow.holds Tryz.pinned (OpenSpec.ofChange seekAloneWrong)

/-- 'revenantlaw15.SeekFrozen': WHATEVER THE INPUT: true; the input reads as it did. -/
def seekFrozenSpec : ChangeSpec := { name := "seekFrozen", fn := fun _ => fun
  | [d1, d2, d3, d4, d5] => { results := [.lit (.bool true)], args := [d1, d2, d3, d4, d5] }
  | _ => none }
def seekFrozenRow : OpenClaim := { program := "ytchcdfoncebemaagreatdoor", sum := "a1df020aec435d8849003576937a81d802eb7069c475c8b79fe792011e2e362b", func := "revenant/revenantlaw15.SeekFrozen", spec := "seekFrozen", unfollowed := true, recurses := true, named := ["revenant/link.markPart", "revenant/link.slotPart", "revenant/link.versionPart"], plainKeys := false, apart := false, laid := [("revenant/link.versionPart", laid_revenant_link_versionPart), ("revenant/link.slotPart", laid_revenant_link_slotPart), ("revenant/link.markPart", laid_revenant_link_markPart)] }
def SeekFrozenSaid : Prop := seekFrozenRow.holds Tryz.pinned (OpenSpec.ofChange seekFrozenSpec)

/-- ITS FALSE NEIGHBOUR: 'it returns false'. Refute it at one input. -/
def seekFrozenWrong : ChangeSpec := { name := "seekFrozen", fn := fun _ => fun
  | [d1, d2, d3, d4, d5] => { results := [.lit (.bool false)], args := [d1, d2, d3, d4, d5] }
  | _ => none }
def SeekFrozenWrongFalsely : Prop := seekFrozenRow.holds Tryz.pinned (OpenSpec.ofChange seekFrozenWrong)

/- THE SECOND FORM. 'bulk': how many values and letters a reading holds, each counted each time it is reached (what is shared counts as often as it is met; a slice's spare places count too). A statement '..UptoSaid' is the law's where the arguments, and the package variables that the reading takes, are together of bulk at most 1048576: NARROWER than '..Said'. Prove '..Said' where nothing that the law and all that it calls make is longer than what came in: it says more and counts as full. Else prove '..UptoSaid'. A law counts once. -/
mutual
def uptoBulk {H : Type} : DataW H → Nat
  | .lit (.string bytes) => bytes.length + 1
  | .lit _ => 1
  | .nil => 1
  | .ptr d => uptoBulk d + 1
  | .slice elems spare => uptoBulkAll elems + uptoBulkAll spare + 1
  | .agg parts => uptoBulkAll parts + 1
  | .iface _ d => uptoBulk d + 1
  | .map entries => uptoBulkEntries entries + 1
  | .held _ => 1
def uptoBulkAll {H : Type} : List (DataW H) → Nat
  | [] => 0
  | d :: r => uptoBulk d + uptoBulkAll r
def uptoBulkEntries {H : Type} : List (Lit × DataW H) → Nat
  | [] => 0
  | x :: r => uptoBulkEntry x + uptoBulkEntries r
def uptoBulkEntry {H : Type} : Lit × DataW H → Nat
  | (.string bytes, d) => bytes.length + uptoBulk d + 1
  | (_, d) => uptoBulk d + 1
 end
def uptoSmall : (H : Type) → List (DataW H) → Bool := fun _ ds => decide (uptoBulkAll ds ≤ 1048576)
def OpenSpec.upto (s : _root_.Go.ChangeSpec) : _root_.Go.OpenSpec := { _root_.Go.OpenSpec.ofChange s with cond := some uptoSmall }

/-- 'revenantlaw15.SeekExact', WHERE WHAT IT READS IS OF BULK AT MOST 1048576: true; the input reads as it did. -/
def seekExactUptoRow : OpenClaim := { program := "ytchcdfoncebemaagreatdoor", sum := "a1df020aec435d8849003576937a81d802eb7069c475c8b79fe792011e2e362b", func := "revenant/revenantlaw15.SeekExact", spec := "seekExact", inPlace := ["maps.clone"], unfollowed := true, recurses := true, named := ["revenant/link.markPart", "revenant/link.slotPart", "revenant/link.versionPart"], plainKeys := false, apart := false, laid := [("revenant/link.versionPart", laid_revenant_link_versionPart), ("revenant/link.slotPart", laid_revenant_link_slotPart), ("revenant/link.markPart", laid_revenant_link_markPart)], narrowed := true }
def SeekExactUptoSaid : Prop := seekExactUptoRow.holds Tryz.pinned (OpenSpec.upto seekExactSpec)

/-- 'revenantlaw15.SeekLevels', WHERE WHAT IT READS IS OF BULK AT MOST 1048576: true; the input reads as it did. -/
def seekLevelsUptoRow : OpenClaim := { program := "ytchcdfoncebemaagreatdoor", sum := "a1df020aec435d8849003576937a81d802eb7069c475c8b79fe792011e2e362b", func := "revenant/revenantlaw15.SeekLevels", spec := "seekLevels", inPlace := ["maps.clone"], unfollowed := true, recurses := true, named := ["revenant/link.markPart", "revenant/link.slotPart", "revenant/link.versionPart"], plainKeys := false, apart := false, laid := [("revenant/link.versionPart", laid_revenant_link_versionPart), ("revenant/link.slotPart", laid_revenant_link_slotPart), ("revenant/link.markPart", laid_revenant_link_markPart)], narrowed := true }
def SeekLevelsUptoSaid : Prop := seekLevelsUptoRow.holds Tryz.pinned (OpenSpec.upto seekLevelsSpec)

/-- 'revenantlaw15.SeekAlone', WHERE WHAT IT READS IS OF BULK AT MOST 1048576: true; the input reads as it did. -/
def seekAloneUptoRow : OpenClaim := { program := "ytchcdfoncebemaagreatdoor", sum := "a1df020aec435d8849003576937a81d802eb7069c475c8b79fe792011e2e362b", func := "revenant/revenantlaw15.SeekAlone", spec := "seekAlone", unfollowed := true, recurses := true, named := ["revenant/link.markPart", "revenant/link.slotPart", "revenant/link.versionPart"], plainKeys := false, apart := false, laid := [("revenant/link.versionPart", laid_revenant_link_versionPart), ("revenant/link.slotPart", laid_revenant_link_slotPart), ("revenant/link.markPart", laid_revenant_link_markPart)], narrowed := true }
def SeekAloneUptoSaid : Prop := seekAloneUptoRow.holds Tryz.pinned (OpenSpec.upto seekAloneSpec)

/-- 'revenantlaw15.SeekFrozen', WHERE WHAT IT READS IS OF BULK AT MOST 1048576: true; the input reads as it did. -/
def seekFrozenUptoRow : OpenClaim := { program := "ytchcdfoncebemaagreatdoor", sum := "a1df020aec435d8849003576937a81d802eb7069c475c8b79fe792011e2e362b", func := "revenant/revenantlaw15.SeekFrozen", spec := "seekFrozen", unfollowed := true, recurses := true, named := ["revenant/link.markPart", "revenant/link.slotPart", "revenant/link.versionPart"], plainKeys := false, apart := false, laid := [("revenant/link.versionPart", laid_revenant_link_versionPart), ("revenant/link.slotPart", laid_revenant_link_slotPart), ("revenant/link.markPart", laid_revenant_link_markPart)], narrowed := true }
def SeekFrozenUptoSaid : Prop := seekFrozenUptoRow.holds Tryz.pinned (OpenSpec.upto seekFrozenSpec)

end Rows
end Go.Proofs.YtchcdfoncebemaaGreatDoor
