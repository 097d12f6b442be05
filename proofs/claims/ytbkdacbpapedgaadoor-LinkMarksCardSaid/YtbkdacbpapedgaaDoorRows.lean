/-
  NARROWER THAN 'FOR EVERY INPUT', by the rows' own cells (each row's printed sentence says how): LinkExact: laid · LinkNext: laid · LinkBack: laid · LinkMarks: laid.
  DERIVED. THE GIVEN ROWS OF THIS SEAT. 4 by the template 'for every input the law returns true; each argument reads behind the call as it read before'; 0 by the template 'total and deterministic' (their statements: YtbkdacbpapedgaaDoorTotals.lean).
  GIVEN WITH THE SEED: the statements are not yours to turn. If you find one false, say at which input.
  Laid BY PROGRAM, IN A SANDBOX (cutbox-rows.mjs): the forced cells as the released guide's own fill.sh prints them over the translation 626c091d2ad1c8f1… (all of the seat's roots in one cut). By AI agents, Wed Nov 11 2026. No macro, syntax, notation, axiom, sorry.
-/
import Derived.Test.YtbkdacbpapedgaaDoorChecked
import GoSem.Claim
import GoSem.ClaimJoined
import GoSem.ClaimMapViews
import Derived.JoinedTies
import Derived.KernelRfl
namespace Go.Proofs.YtbkdacbpapedgaaDoor
/- THE CELL 'sum', in the pinned program and in every row, IS THE sha256 OF THE DUMP (.gsa) THAT YtbkdacbpapedgaaDoorProg.lean LOADS. Nothing in Lean hashes anything: it is a label: what it is worth is what the hold of that sum in a sandbox is worth. -/
noncomputable def Tryd.pinned : Pinned := { name := "ytbkdacbpapedgaadoor", sum := "626c091d2ad1c8f12d8ba057703770cbecb13b52cb9205bd9e690df433428e49", checked := Tryd.checked }
namespace Rows
def none {H : Type} : Left H := { results := [], args := [] }

/- WHAT THE LISTED PACKAGE-LEVEL VARIABLES READ AS WHEN THE CALL BEGINS. Each datum BY PROGRAM (the guide's laid-datum.mjs) off the statement by which the dump's own 'gosem.cut.vars' lays the variable. In a bare row this is a premise. The card (YtbkdacbpapedgaaDoorCards.lean) ties it to the program's text. -/
def laid_revenant_link_versionPart {H : Type} : DataW H := .agg [.lit (.int .i64 0), .lit (.int .i64 40)]
def laid_revenant_link_slotPart {H : Type} : DataW H := .agg [.lit (.int .i64 40), .lit (.int .i64 23)]
def laid_revenant_link_markPart {H : Type} : DataW H := .agg [.lit (.int .i64 63), .lit (.int .i64 1)]

/-- 'revenantlaw02.LinkExact': WHATEVER THE INPUT: true; the input reads as it did. -/
def linkExactSpec : ChangeSpec := { name := "linkExact", fn := fun _ => fun
  | [d1, d2] => { results := [.lit (.bool true)], args := [d1, d2] }
  | _ => none }
def linkExactRow : OpenClaim := { program := "ytbkdacbpapedgaadoor", sum := "626c091d2ad1c8f12d8ba057703770cbecb13b52cb9205bd9e690df433428e49", func := "revenant/revenantlaw02.LinkExact", spec := "linkExact", named := ["revenant/link.versionPart", "revenant/link.slotPart", "revenant/link.markPart"], apart := false, laid := [("revenant/link.versionPart", laid_revenant_link_versionPart), ("revenant/link.slotPart", laid_revenant_link_slotPart), ("revenant/link.markPart", laid_revenant_link_markPart)] }
def LinkExactSaid : Prop := linkExactRow.holds Tryd.pinned (OpenSpec.ofChange linkExactSpec)

/-- ITS FALSE NEIGHBOUR: 'it returns false'. Refute it at one input. -/
def linkExactWrong : ChangeSpec := { name := "linkExact", fn := fun _ => fun
  | [d1, d2] => { results := [.lit (.bool false)], args := [d1, d2] }
  | _ => none }
def LinkExactWrongFalsely : Prop := linkExactRow.holds Tryd.pinned (OpenSpec.ofChange linkExactWrong)

/-- 'revenantlaw02.LinkNext': WHATEVER THE INPUT: true; the input reads as it did. -/
def linkNextSpec : ChangeSpec := { name := "linkNext", fn := fun _ => fun
  | [d1, d2, d3] => { results := [.lit (.bool true)], args := [d1, d2, d3] }
  | _ => none }
def linkNextRow : OpenClaim := { program := "ytbkdacbpapedgaadoor", sum := "626c091d2ad1c8f12d8ba057703770cbecb13b52cb9205bd9e690df433428e49", func := "revenant/revenantlaw02.LinkNext", spec := "linkNext", named := ["revenant/link.versionPart", "revenant/link.slotPart", "revenant/link.markPart"], apart := false, laid := [("revenant/link.versionPart", laid_revenant_link_versionPart), ("revenant/link.slotPart", laid_revenant_link_slotPart), ("revenant/link.markPart", laid_revenant_link_markPart)] }
def LinkNextSaid : Prop := linkNextRow.holds Tryd.pinned (OpenSpec.ofChange linkNextSpec)

/-- ITS FALSE NEIGHBOUR: 'it returns false'. Refute it at one input. -/
def linkNextWrong : ChangeSpec := { name := "linkNext", fn := fun _ => fun
  | [d1, d2, d3] => { results := [.lit (.bool false)], args := [d1, d2, d3] }
  | _ => none }
def LinkNextWrongFalsely : Prop := linkNextRow.holds Tryd.pinned (OpenSpec.ofChange linkNextWrong)

/-- 'revenantlaw02.LinkBack': WHATEVER THE INPUT: true; the input reads as it did. -/
def linkBackSpec : ChangeSpec := { name := "linkBack", fn := fun _ => fun
  | [d1, d2, d3] => { results := [.lit (.bool true)], args := [d1, d2, d3] }
  | _ => none }
def linkBackRow : OpenClaim := { program := "ytbkdacbpapedgaadoor", sum := "626c091d2ad1c8f12d8ba057703770cbecb13b52cb9205bd9e690df433428e49", func := "revenant/revenantlaw02.LinkBack", spec := "linkBack", named := ["revenant/link.versionPart", "revenant/link.slotPart", "revenant/link.markPart"], apart := false, laid := [("revenant/link.versionPart", laid_revenant_link_versionPart), ("revenant/link.slotPart", laid_revenant_link_slotPart), ("revenant/link.markPart", laid_revenant_link_markPart)] }
def LinkBackSaid : Prop := linkBackRow.holds Tryd.pinned (OpenSpec.ofChange linkBackSpec)

/-- ITS FALSE NEIGHBOUR: 'it returns false'. Refute it at one input. -/
def linkBackWrong : ChangeSpec := { name := "linkBack", fn := fun _ => fun
  | [d1, d2, d3] => { results := [.lit (.bool false)], args := [d1, d2, d3] }
  | _ => none }
def LinkBackWrongFalsely : Prop := linkBackRow.holds Tryd.pinned (OpenSpec.ofChange linkBackWrong)

/-- 'revenantlaw02.LinkMarks': WHATEVER THE INPUT: true; the input reads as it did. -/
def linkMarksSpec : ChangeSpec := { name := "linkMarks", fn := fun _ => fun
  | [d1, d2, d3, d4] => { results := [.lit (.bool true)], args := [d1, d2, d3, d4] }
  | _ => none }
def linkMarksRow : OpenClaim := { program := "ytbkdacbpapedgaadoor", sum := "626c091d2ad1c8f12d8ba057703770cbecb13b52cb9205bd9e690df433428e49", func := "revenant/revenantlaw02.LinkMarks", spec := "linkMarks", named := ["revenant/link.versionPart", "revenant/link.slotPart", "revenant/link.markPart"], apart := false, laid := [("revenant/link.versionPart", laid_revenant_link_versionPart), ("revenant/link.slotPart", laid_revenant_link_slotPart), ("revenant/link.markPart", laid_revenant_link_markPart)] }
def LinkMarksSaid : Prop := linkMarksRow.holds Tryd.pinned (OpenSpec.ofChange linkMarksSpec)

/-- ITS FALSE NEIGHBOUR: 'it returns false'. Refute it at one input. -/
def linkMarksWrong : ChangeSpec := { name := "linkMarks", fn := fun _ => fun
  | [d1, d2, d3, d4] => { results := [.lit (.bool false)], args := [d1, d2, d3, d4] }
  | _ => none }
def LinkMarksWrongFalsely : Prop := linkMarksRow.holds Tryd.pinned (OpenSpec.ofChange linkMarksWrong)

/- THE SECOND FORM. 'bulk': how many values and letters a reading holds, each counted each time it is reached (what is shared counts as often as it is met; a slice's spare places count too). A statement '..UptoSaid' is the law's where the arguments, and the package variables that the reading takes, are together of bulk at most 1048576: NARROWER than '..Said'. Prove '..Said' where nothing that the law and all that it calls make is longer than what came in: it says more and counts as full. Else prove '..UptoSaid'. A law counts once. -/
mutual
def uptoBulk {H : Type} : DataW H → Nat
  | .lit (.string bytes) => bytes.length + 1
  | .lit _ => 1
  | .nil => 1
  | .ptr d => uptoBulk d + 1
  | .slice elems spare => uptoBulkAll elems + uptoBulkAll spare + 1
  | .agg parts => uptoBulkAll parts + 1
  | .iface _ d => uptoBulk d + 1
  | .map entries => uptoBulkEntries entries + 1
  | .held _ => 1
def uptoBulkAll {H : Type} : List (DataW H) → Nat
  | [] => 0
  | d :: r => uptoBulk d + uptoBulkAll r
def uptoBulkEntries {H : Type} : List (Lit × DataW H) → Nat
  | [] => 0
  | x :: r => uptoBulkEntry x + uptoBulkEntries r
def uptoBulkEntry {H : Type} : Lit × DataW H → Nat
  | (.string bytes, d) => bytes.length + uptoBulk d + 1
  | (_, d) => uptoBulk d + 1
 end
def uptoSmall : (H : Type) → List (DataW H) → Bool := fun _ ds => decide (uptoBulkAll ds ≤ 1048576)
def OpenSpec.upto (s : _root_.Go.ChangeSpec) : _root_.Go.OpenSpec := { _root_.Go.OpenSpec.ofChange s with cond := some uptoSmall }

/-- 'revenantlaw02.LinkExact', WHERE WHAT IT READS IS OF BULK AT MOST 1048576: true; the input reads as it did. -/
def linkExactUptoRow : OpenClaim := { program := "ytbkdacbpapedgaadoor", sum := "626c091d2ad1c8f12d8ba057703770cbecb13b52cb9205bd9e690df433428e49", func := "revenant/revenantlaw02.LinkExact", spec := "linkExact", named := ["revenant/link.versionPart", "revenant/link.slotPart", "revenant/link.markPart"], apart := false, laid := [("revenant/link.versionPart", laid_revenant_link_versionPart), ("revenant/link.slotPart", laid_revenant_link_slotPart), ("revenant/link.markPart", laid_revenant_link_markPart)], narrowed := true }
def LinkExactUptoSaid : Prop := linkExactUptoRow.holds Tryd.pinned (OpenSpec.upto linkExactSpec)

/-- 'revenantlaw02.LinkNext', WHERE WHAT IT READS IS OF BULK AT MOST 1048576: true; the input reads as it did. -/
def linkNextUptoRow : OpenClaim := { program := "ytbkdacbpapedgaadoor", sum := "626c091d2ad1c8f12d8ba057703770cbecb13b52cb9205bd9e690df433428e49", func := "revenant/revenantlaw02.LinkNext", spec := "linkNext", named := ["revenant/link.versionPart", "revenant/link.slotPart", "revenant/link.markPart"], apart := false, laid := [("revenant/link.versionPart", laid_revenant_link_versionPart), ("revenant/link.slotPart", laid_revenant_link_slotPart), ("revenant/link.markPart", laid_revenant_link_markPart)], narrowed := true }
def LinkNextUptoSaid : Prop := linkNextUptoRow.holds Tryd.pinned (OpenSpec.upto linkNextSpec)

/-- 'revenantlaw02.LinkBack', WHERE WHAT IT READS IS OF BULK AT MOST 1048576: true; the input reads as it did. -/
def linkBackUptoRow : OpenClaim := { program := "ytbkdacbpapedgaadoor", sum := "626c091d2ad1c8f12d8ba057703770cbecb13b52cb9205bd9e690df433428e49", func := "revenant/revenantlaw02.LinkBack", spec := "linkBack", named := ["revenant/link.versionPart", "revenant/link.slotPart", "revenant/link.markPart"], apart := false, laid := [("revenant/link.versionPart", laid_revenant_link_versionPart), ("revenant/link.slotPart", laid_revenant_link_slotPart), ("revenant/link.markPart", laid_revenant_link_markPart)], narrowed := true }
def LinkBackUptoSaid : Prop := linkBackUptoRow.holds Tryd.pinned (OpenSpec.upto linkBackSpec)

/-- 'revenantlaw02.LinkMarks', WHERE WHAT IT READS IS OF BULK AT MOST 1048576: true; the input reads as it did. -/
def linkMarksUptoRow : OpenClaim := { program := "ytbkdacbpapedgaadoor", sum := "626c091d2ad1c8f12d8ba057703770cbecb13b52cb9205bd9e690df433428e49", func := "revenant/revenantlaw02.LinkMarks", spec := "linkMarks", named := ["revenant/link.versionPart", "revenant/link.slotPart", "revenant/link.markPart"], apart := false, laid := [("revenant/link.versionPart", laid_revenant_link_versionPart), ("revenant/link.slotPart", laid_revenant_link_slotPart), ("revenant/link.markPart", laid_revenant_link_markPart)], narrowed := true }
def LinkMarksUptoSaid : Prop := linkMarksUptoRow.holds Tryd.pinned (OpenSpec.upto linkMarksSpec)

end Rows
end Go.Proofs.YtbkdacbpapedgaaDoor
