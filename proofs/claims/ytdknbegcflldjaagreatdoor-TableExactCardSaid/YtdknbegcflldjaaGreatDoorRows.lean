/-
  NARROWER THAN 'FOR EVERY INPUT', by the rows' own cells (each row's printed sentence says how): ChainSet: laid · ChainAlone: laid · TableExact: laid · TableNil: laid · TableMap: laid · TableAlone: laid · SkipExact: laid · SkipNil: laid.
  DERIVED. THE GIVEN ROWS OF THIS SEAT. 8 by the template 'for every input the law returns true; each argument reads behind the call as it read before'; 0 by the template 'total and deterministic' (their statements: YtdknbegcflldjaaGreatDoorTotals.lean).
  GIVEN WITH THE SEED: the statements are not yours to turn. If you find one false, say at which input.
  Laid BY PROGRAM, IN A SANDBOX (cutbox-rows.mjs): the forced cells as the released guide's own fill.sh prints them over the translation 717f092b725ae24e… (all of the seat's roots in one cut). By AI agents, Wed Nov 11 2026. No macro, syntax, notation, axiom, sorry.
-/
import Derived.Test.YtdknbegcflldjaaGreatDoorChecked
import GoSem.Claim
import GoSem.ClaimJoined
import GoSem.ClaimMapViews
import Derived.JoinedTies
import Derived.KernelRfl
namespace Go.Proofs.YtdknbegcflldjaaGreatDoor
/- THE CELL 'sum', in the pinned program and in every row, IS THE sha256 OF THE DUMP (.gsa) THAT YtdknbegcflldjaaGreatDoorProg.lean LOADS. Nothing in Lean hashes anything: it is a label: what it is worth is what the hold of that sum in a sandbox is worth. -/
noncomputable def Tryz.pinned : Pinned := { name := "ytdknbegcflldjaagreatdoor", sum := "717f092b725ae24ed51e4991940409d3afce1740b77ca46578a09727af9a5c70", checked := Tryz.checked }
namespace Rows
def none {H : Type} : Left H := { results := [], args := [] }

/- WHAT THE LISTED PACKAGE-LEVEL VARIABLES READ AS WHEN THE CALL BEGINS. Each datum BY PROGRAM (the guide's laid-datum.mjs) off the statement by which the dump's own 'gosem.cut.vars' lays the variable. In a bare row this is a premise. The card (YtdknbegcflldjaaGreatDoorCards.lean) ties it to the program's text. -/
def laid_revenant_link_versionPart {H : Type} : DataW H := .agg [.lit (.int .i64 0), .lit (.int .i64 40)]
def laid_revenant_link_slotPart {H : Type} : DataW H := .agg [.lit (.int .i64 40), .lit (.int .i64 23)]
def laid_revenant_link_markPart {H : Type} : DataW H := .agg [.lit (.int .i64 63), .lit (.int .i64 1)]

/-- 'revenantlaw16.ChainSet': WHATEVER THE INPUT: true; the input reads as it did. -/
def chainSetSpec : ChangeSpec := { name := "chainSet", fn := fun _ => fun
  | [d1, d2, d3, d4] => { results := [.lit (.bool true)], args := [d1, d2, d3, d4] }
  | _ => none }
def chainSetRow : OpenClaim := { program := "ytdknbegcflldjaagreatdoor", sum := "717f092b725ae24ed51e4991940409d3afce1740b77ca46578a09727af9a5c70", func := "revenant/revenantlaw16.ChainSet", spec := "chainSet", unfollowed := true, recurses := true, named := ["revenant/link.markPart", "revenant/link.slotPart", "revenant/link.versionPart"], plainKeys := false, apart := false, laid := [("revenant/link.versionPart", laid_revenant_link_versionPart), ("revenant/link.slotPart", laid_revenant_link_slotPart), ("revenant/link.markPart", laid_revenant_link_markPart)] }
def ChainSetSaid : Prop := chainSetRow.holds Tryz.pinned (OpenSpec.ofChange chainSetSpec)

/-- ITS FALSE NEIGHBOUR: 'it returns false'. Refute it at one input. -/
def chainSetWrong : ChangeSpec := { name := "chainSet", fn := fun _ => fun
  | [d1, d2, d3, d4] => { results := [.lit (.bool false)], args := [d1, d2, d3, d4] }
  | _ => none }
def ChainSetWrongFalsely : Prop := chainSetRow.holds Tryz.pinned (OpenSpec.ofChange chainSetWrong)

/-- 'revenantlaw16.ChainAlone': WHATEVER THE INPUT: true; the input reads as it did. -/
def chainAloneSpec : ChangeSpec := { name := "chainAlone", fn := fun _ => fun
  | [d1, d2, d3, d4, d5] => { results := [.lit (.bool true)], args := [d1, d2, d3, d4, d5] }
  | _ => none }
def chainAloneRow : OpenClaim := { program := "ytdknbegcflldjaagreatdoor", sum := "717f092b725ae24ed51e4991940409d3afce1740b77ca46578a09727af9a5c70", func := "revenant/revenantlaw16.ChainAlone", spec := "chainAlone", unfollowed := true, recurses := true, named := ["revenant/link.markPart", "revenant/link.slotPart", "revenant/link.versionPart"], plainKeys := false, apart := false, laid := [("revenant/link.versionPart", laid_revenant_link_versionPart), ("revenant/link.slotPart", laid_revenant_link_slotPart), ("revenant/link.markPart", laid_revenant_link_markPart)] }
def ChainAloneSaid : Prop := chainAloneRow.holds Tryz.pinned (OpenSpec.ofChange chainAloneSpec)

/-- ITS FALSE NEIGHBOUR: 'it returns false'. Refute it at one input. -/
def chainAloneWrong : ChangeSpec := { name := "chainAlone", fn := fun _ => fun
  | [d1, d2, d3, d4, d5] => { results := [.lit (.bool false)], args := [d1, d2, d3, d4, d5] }
  | _ => none }
def ChainAloneWrongFalsely : Prop := chainAloneRow.holds Tryz.pinned (OpenSpec.ofChange chainAloneWrong)

/-- 'revenantlaw17.TableExact': WHATEVER THE INPUT: true; the input reads as it did. -/
def tableExactSpec : ChangeSpec := { name := "tableExact", fn := fun _ => fun
  | [d1, d2, d3] => { results := [.lit (.bool true)], args := [d1, d2, d3] }
  | _ => none }
def tableExactRow : OpenClaim := { program := "ytdknbegcflldjaagreatdoor", sum := "717f092b725ae24ed51e4991940409d3afce1740b77ca46578a09727af9a5c70", func := "revenant/revenantlaw17.TableExact", spec := "tableExact", inPlace := ["maps.clone"], unfollowed := true, recurses := true, named := ["revenant/link.markPart", "revenant/link.slotPart", "revenant/link.versionPart"], plainKeys := false, apart := false, laid := [("revenant/link.versionPart", laid_revenant_link_versionPart), ("revenant/link.slotPart", laid_revenant_link_slotPart), ("revenant/link.markPart", laid_revenant_link_markPart)] }
def TableExactSaid : Prop := tableExactRow.holds Tryz.pinned (OpenSpec.ofChange tableExactSpec)

/-- ITS FALSE NEIGHBOUR: 'it returns false'. Refute it at one input. -/
def tableExactWrong : ChangeSpec := { name := "tableExact", fn := fun _ => fun
  | [d1, d2, d3] => { results := [.lit (.bool false)], args := [d1, d2, d3] }
  | _ => none }
def TableExactWrongFalsely : Prop := tableExactRow.holds Tryz.pinned (OpenSpec.ofChange tableExactWrong)

/-- 'revenantlaw17.TableNil': WHATEVER THE INPUT: true; the input reads as it did. -/
def tableNilSpec : ChangeSpec := { name := "tableNil", fn := fun _ => fun
  | [d1, d2] => { results := [.lit (.bool true)], args := [d1, d2] }
  | _ => none }
def tableNilRow : OpenClaim := { program := "ytdknbegcflldjaagreatdoor", sum := "717f092b725ae24ed51e4991940409d3afce1740b77ca46578a09727af9a5c70", func := "revenant/revenantlaw17.TableNil", spec := "tableNil", unfollowed := true, recurses := true, named := ["revenant/link.markPart", "revenant/link.slotPart", "revenant/link.versionPart"], plainKeys := false, apart := false, laid := [("revenant/link.versionPart", laid_revenant_link_versionPart), ("revenant/link.slotPart", laid_revenant_link_slotPart), ("revenant/link.markPart", laid_revenant_link_markPart)] }
def TableNilSaid : Prop := tableNilRow.holds Tryz.pinned (OpenSpec.ofChange tableNilSpec)

/-- ITS FALSE NEIGHBOUR: 'it returns false'. Refute it at one input. -/
def tableNilWrong : ChangeSpec := { name := "tableNil", fn := fun _ => fun
  | [d1, d2] => { results := [.lit (.bool false)], args := [d1, d2] }
  | _ => none }
def TableNilWrongFalsely : Prop := tableNilRow.holds Tryz.pinned (OpenSpec.ofChange tableNilWrong)

/-- 'revenantlaw17.TableMap': WHATEVER THE INPUT: true; the input reads as it did. -/
def tableMapSpec : ChangeSpec := { name := "tableMap", fn := fun _ => fun
  | [d1, d2, d3] => { results := [.lit (.bool true)], args := [d1, d2, d3] }
  | _ => none }
def tableMapRow : OpenClaim := { program := "ytdknbegcflldjaagreatdoor", sum := "717f092b725ae24ed51e4991940409d3afce1740b77ca46578a09727af9a5c70", func := "revenant/revenantlaw17.TableMap", spec := "tableMap", unfollowed := true, recurses := true, named := ["revenant/link.markPart", "revenant/link.slotPart", "revenant/link.versionPart"], plainKeys := false, apart := false, laid := [("revenant/link.versionPart", laid_revenant_link_versionPart), ("revenant/link.slotPart", laid_revenant_link_slotPart), ("revenant/link.markPart", laid_revenant_link_markPart)] }
def TableMapSaid : Prop := tableMapRow.holds Tryz.pinned (OpenSpec.ofChange tableMapSpec)

/-- ITS FALSE NEIGHBOUR: 'it returns false'. Refute it at one input. -/
def tableMapWrong : ChangeSpec := { name := "tableMap", fn := fun _ => fun
  | [d1, d2, d3] => { results := [.lit (.bool false)], args := [d1, d2, d3] }
  | _ => none }
def TableMapWrongFalsely : Prop := tableMapRow.holds Tryz.pinned (OpenSpec.ofChange tableMapWrong)

/-- 'revenantlaw17.TableAlone': WHATEVER THE INPUT: true; the input reads as it did. -/
def tableAloneSpec : ChangeSpec := { name := "tableAlone", fn := fun _ => fun
  | [d1, d2, d3, d4] => { results := [.lit (.bool true)], args := [d1, d2, d3, d4] }
  | _ => none }
def tableAloneRow : OpenClaim := { program := "ytdknbegcflldjaagreatdoor", sum := "717f092b725ae24ed51e4991940409d3afce1740b77ca46578a09727af9a5c70", func := "revenant/revenantlaw17.TableAlone", spec := "tableAlone", unfollowed := true, recurses := true, named := ["revenant/link.markPart", "revenant/link.slotPart", "revenant/link.versionPart"], plainKeys := false, apart := false, laid := [("revenant/link.versionPart", laid_revenant_link_versionPart), ("revenant/link.slotPart", laid_revenant_link_slotPart), ("revenant/link.markPart", laid_revenant_link_markPart)] }
def TableAloneSaid : Prop := tableAloneRow.holds Tryz.pinned (OpenSpec.ofChange tableAloneSpec)

/-- ITS FALSE NEIGHBOUR: 'it returns false'. Refute it at one input. -/
def tableAloneWrong : ChangeSpec := { name := "tableAlone", fn := fun _ => fun
  | [d1, d2, d3, d4] => { results := [.lit (.bool false)], args := [d1, d2, d3, d4] }
  | _ => none }
def TableAloneWrongFalsely : Prop := tableAloneRow.holds Tryz.pinned (OpenSpec.ofChange tableAloneWrong)

/-- 'revenantlaw19.SkipExact': WHATEVER THE INPUT: true; the input reads as it did. -/
def skipExactSpec : ChangeSpec := { name := "skipExact", fn := fun _ => fun
  | [d1, d2, d3] => { results := [.lit (.bool true)], args := [d1, d2, d3] }
  | _ => none }
def skipExactRow : OpenClaim := { program := "ytdknbegcflldjaagreatdoor", sum := "717f092b725ae24ed51e4991940409d3afce1740b77ca46578a09727af9a5c70", func := "revenant/revenantlaw19.SkipExact", spec := "skipExact", inPlace := ["maps.clone"], unfollowed := true, recurses := true, named := ["revenant/link.slotPart", "revenant/link.versionPart", "revenant/link.markPart"], plainKeys := false, apart := false, laid := [("revenant/link.versionPart", laid_revenant_link_versionPart), ("revenant/link.slotPart", laid_revenant_link_slotPart), ("revenant/link.markPart", laid_revenant_link_markPart)] }
def SkipExactSaid : Prop := skipExactRow.holds Tryz.pinned (OpenSpec.ofChange skipExactSpec)

/-- ITS FALSE NEIGHBOUR: 'it returns false'. Refute it at one input. -/
def skipExactWrong : ChangeSpec := { name := "skipExact", fn := fun _ => fun
  | [d1, d2, d3] => { results := [.lit (.bool false)], args := [d1, d2, d3] }
  | _ => none }
def SkipExactWrongFalsely : Prop := skipExactRow.holds Tryz.pinned (OpenSpec.ofChange skipExactWrong)

/-- 'revenantlaw19.SkipNil': WHATEVER THE INPUT: true; the input reads as it did. -/
def skipNilSpec : ChangeSpec := { name := "skipNil", fn := fun _ => fun
  | [d1, d2] => { results := [.lit (.bool true)], args := [d1, d2] }
  | _ => none }
def skipNilRow : OpenClaim := { program := "ytdknbegcflldjaagreatdoor", sum := "717f092b725ae24ed51e4991940409d3afce1740b77ca46578a09727af9a5c70", func := "revenant/revenantlaw19.SkipNil", spec := "skipNil", unfollowed := true, recurses := true, named := ["revenant/link.slotPart", "revenant/link.versionPart", "revenant/link.markPart"], plainKeys := false, apart := false, laid := [("revenant/link.versionPart", laid_revenant_link_versionPart), ("revenant/link.slotPart", laid_revenant_link_slotPart), ("revenant/link.markPart", laid_revenant_link_markPart)] }
def SkipNilSaid : Prop := skipNilRow.holds Tryz.pinned (OpenSpec.ofChange skipNilSpec)

/-- ITS FALSE NEIGHBOUR: 'it returns false'. Refute it at one input. -/
def skipNilWrong : ChangeSpec := { name := "skipNil", fn := fun _ => fun
  | [d1, d2] => { results := [.lit (.bool false)], args := [d1, d2] }
  | _ => none }
def SkipNilWrongFalsely : Prop := skipNilRow.holds Tryz.pinned (OpenSpec.ofChange skipNilWrong)

/- THE SECOND FORM. 'bulk': how many values and letters a reading holds, each counted each time it is reached (what is shared counts as often as it is met; a slice's spare places count too). A statement '..UptoSaid' is the law's where the arguments, and the package variables that the reading takes, are together of bulk at most 1048576: NARROWER than '..Said'. Prove '..Said' where nothing that the law and all that it calls make is longer than what came in: it says more and counts as full. Else prove '..UptoSaid'. A law counts once. -/
mutual
def uptoBulk {H : Type} : DataW H → Nat
  | .lit (.string bytes) => bytes.length + 1
  | .lit _ => 1
  | .nil => 1
  | .ptr d => uptoBulk d + 1
  | .slice elems spare => uptoBulkAll elems + uptoBulkAll spare + 1
  | .agg parts => uptoBulkAll parts + 1
  | .iface _ d => uptoBulk d + 1
  | .map entries => uptoBulkEntries entries + 1
  | .held _ => 1
def uptoBulkAll {H : Type} : List (DataW H) → Nat
  | [] => 0
  | d :: r => uptoBulk d + uptoBulkAll r
def uptoBulkEntries {H : Type} : List (Lit × DataW H) → Nat
  | [] => 0
  | x :: r => uptoBulkEntry x + uptoBulkEntries r
def uptoBulkEntry {H : Type} : Lit × DataW H → Nat
  | (.string bytes, d) => bytes.length + uptoBulk d + 1
  | (_, d) => uptoBulk d + 1
 end
def uptoSmall : (H : Type) → List (DataW H) → Bool := fun _ ds => decide (uptoBulkAll ds ≤ 1048576)
def OpenSpec.upto (s : _root_.Go.ChangeSpec) : _root_.Go.OpenSpec := { _root_.Go.OpenSpec.ofChange s with cond := some uptoSmall }

/-- 'revenantlaw16.ChainSet', WHERE WHAT IT READS IS OF BULK AT MOST 1048576: true; the input reads as it did. -/
def chainSetUptoRow : OpenClaim := { program := "ytdknbegcflldjaagreatdoor", sum := "717f092b725ae24ed51e4991940409d3afce1740b77ca46578a09727af9a5c70", func := "revenant/revenantlaw16.ChainSet", spec := "chainSet", unfollowed := true, recurses := true, named := ["revenant/link.markPart", "revenant/link.slotPart", "revenant/link.versionPart"], plainKeys := false, apart := false, laid := [("revenant/link.versionPart", laid_revenant_link_versionPart), ("revenant/link.slotPart", laid_revenant_link_slotPart), ("revenant/link.markPart", laid_revenant_link_markPart)], narrowed := true }
def ChainSetUptoSaid : Prop := chainSetUptoRow.holds Tryz.pinned (OpenSpec.upto chainSetSpec)

/-- 'revenantlaw16.ChainAlone', WHERE WHAT IT READS IS OF BULK AT MOST 1048576: true; the input reads as it did. -/
def chainAloneUptoRow : OpenClaim := { program := "ytdknbegcflldjaagreatdoor", sum := "717f092b725ae24ed51e4991940409d3afce1740b77ca46578a09727af9a5c70", func := "revenant/revenantlaw16.ChainAlone", spec := "chainAlone", unfollowed := true, recurses := true, named := ["revenant/link.markPart", "revenant/link.slotPart", "revenant/link.versionPart"], plainKeys := false, apart := false, laid := [("revenant/link.versionPart", laid_revenant_link_versionPart), ("revenant/link.slotPart", laid_revenant_link_slotPart), ("revenant/link.markPart", laid_revenant_link_markPart)], narrowed := true }
def ChainAloneUptoSaid : Prop := chainAloneUptoRow.holds Tryz.pinned (OpenSpec.upto chainAloneSpec)

/-- 'revenantlaw17.TableExact', WHERE WHAT IT READS IS OF BULK AT MOST 1048576: true; the input reads as it did. -/
def tableExactUptoRow : OpenClaim := { program := "ytdknbegcflldjaagreatdoor", sum := "717f092b725ae24ed51e4991940409d3afce1740b77ca46578a09727af9a5c70", func := "revenant/revenantlaw17.TableExact", spec := "tableExact", inPlace := ["maps.clone"], unfollowed := true, recurses := true, named := ["revenant/link.markPart", "revenant/link.slotPart", "revenant/link.versionPart"], plainKeys := false, apart := false, laid := [("revenant/link.versionPart", laid_revenant_link_versionPart), ("revenant/link.slotPart", laid_revenant_link_slotPart), ("revenant/link.markPart", laid_revenant_link_markPart)], narrowed := true }
def TableExactUptoSaid : Prop := tableExactUptoRow.holds Tryz.pinned (OpenSpec.upto tableExactSpec)

/-- 'revenantlaw17.TableNil', WHERE WHAT IT READS IS OF BULK AT MOST 1048576: true; the input reads as it did. -/
def tableNilUptoRow : OpenClaim := { program := "ytdknbegcflldjaagreatdoor", sum := "717f092b725ae24ed51e4991940409d3afce1740b77ca46578a09727af9a5c70", func := "revenant/revenantlaw17.TableNil", spec := "tableNil", unfollowed := true, recurses := true, named := ["revenant/link.markPart", "revenant/link.slotPart", "revenant/link.versionPart"], plainKeys := false, apart := false, laid := [("revenant/link.versionPart", laid_revenant_link_versionPart), ("revenant/link.slotPart", laid_revenant_link_slotPart), ("revenant/link.markPart", laid_revenant_link_markPart)], narrowed := true }
def TableNilUptoSaid : Prop := tableNilUptoRow.holds Tryz.pinned (OpenSpec.upto tableNilSpec)

/-- 'revenantlaw17.TableMap', WHERE WHAT IT READS IS OF BULK AT MOST 1048576: true; the input reads as it did. -/
def tableMapUptoRow : OpenClaim := { program := "ytdknbegcflldjaagreatdoor", sum := "717f092b725ae24ed51e4991940409d3afce1740b77ca46578a09727af9a5c70", func := "revenant/revenantlaw17.TableMap", spec := "tableMap", unfollowed := true, recurses := true, named := ["revenant/link.markPart", "revenant/link.slotPart", "revenant/link.versionPart"], plainKeys := false, apart := false, laid := [("revenant/link.versionPart", laid_revenant_link_versionPart), ("revenant/link.slotPart", laid_revenant_link_slotPart), ("revenant/link.markPart", laid_revenant_link_markPart)], narrowed := true }
def TableMapUptoSaid : Prop := tableMapUptoRow.holds Tryz.pinned (OpenSpec.upto tableMapSpec)

/-- 'revenantlaw17.TableAlone', WHERE WHAT IT READS IS OF BULK AT MOST 1048576: true; the input reads as it did. -/
def tableAloneUptoRow : OpenClaim := { program := "ytdknbegcflldjaagreatdoor", sum := "717f092b725ae24ed51e4991940409d3afce1740b77ca46578a09727af9a5c70", func := "revenant/revenantlaw17.TableAlone", spec := "tableAlone", unfollowed := true, recurses := true, named := ["revenant/link.markPart", "revenant/link.slotPart", "revenant/link.versionPart"], plainKeys := false, apart := false, laid := [("revenant/link.versionPart", laid_revenant_link_versionPart), ("revenant/link.slotPart", laid_revenant_link_slotPart), ("revenant/link.markPart", laid_revenant_link_markPart)], narrowed := true }
def TableAloneUptoSaid : Prop := tableAloneUptoRow.holds Tryz.pinned (OpenSpec.upto tableAloneSpec)

/-- 'revenantlaw19.SkipExact', WHERE WHAT IT READS IS OF BULK AT MOST 1048576: true; the input reads as it did. -/
def skipExactUptoRow : OpenClaim := { program := "ytdknbegcflldjaagreatdoor", sum := "717f092b725ae24ed51e4991940409d3afce1740b77ca46578a09727af9a5c70", func := "revenant/revenantlaw19.SkipExact", spec := "skipExact", inPlace := ["maps.clone"], unfollowed := true, recurses := true, named := ["revenant/link.slotPart", "revenant/link.versionPart", "revenant/link.markPart"], plainKeys := false, apart := false, laid := [("revenant/link.versionPart", laid_revenant_link_versionPart), ("revenant/link.slotPart", laid_revenant_link_slotPart), ("revenant/link.markPart", laid_revenant_link_markPart)], narrowed := true }
def SkipExactUptoSaid : Prop := skipExactUptoRow.holds Tryz.pinned (OpenSpec.upto skipExactSpec)

/-- 'revenantlaw19.SkipNil', WHERE WHAT IT READS IS OF BULK AT MOST 1048576: true; the input reads as it did. -/
def skipNilUptoRow : OpenClaim := { program := "ytdknbegcflldjaagreatdoor", sum := "717f092b725ae24ed51e4991940409d3afce1740b77ca46578a09727af9a5c70", func := "revenant/revenantlaw19.SkipNil", spec := "skipNil", unfollowed := true, recurses := true, named := ["revenant/link.slotPart", "revenant/link.versionPart", "revenant/link.markPart"], plainKeys := false, apart := false, laid := [("revenant/link.versionPart", laid_revenant_link_versionPart), ("revenant/link.slotPart", laid_revenant_link_slotPart), ("revenant/link.markPart", laid_revenant_link_markPart)], narrowed := true }
def SkipNilUptoSaid : Prop := skipNilUptoRow.holds Tryz.pinned (OpenSpec.upto skipNilSpec)

end Rows
end Go.Proofs.YtdknbegcflldjaaGreatDoor
