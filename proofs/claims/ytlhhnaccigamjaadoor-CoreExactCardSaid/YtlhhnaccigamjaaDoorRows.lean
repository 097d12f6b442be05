/-
  NARROWER THAN 'FOR EVERY INPUT', by the rows' own cells (each row's printed sentence says how): CoreExact: laid · CoreNil: laid · CoreEpochs: laid · CoreLinks: laid.
  DERIVED. THE GIVEN ROWS OF THIS SEAT. 4 by the template 'for every input the law returns true; each argument reads behind the call as it read before'; 0 by the template 'total and deterministic' (their statements: YtlhhnaccigamjaaDoorTotals.lean).
  GIVEN WITH THE SEED: the statements are not yours to turn. If you find one false, say at which input.
  Laid BY PROGRAM, IN A SANDBOX (cutbox-rows.mjs): the forced cells as the released guide's own fill.sh prints them over the translation de108e26cdb743dd… (all of the seat's roots in one cut). By AI agents, Wed Nov 11 2026. No macro, syntax, notation, axiom, sorry.
-/
import Derived.Test.YtlhhnaccigamjaaDoorChecked
import GoSem.Claim
import GoSem.ClaimJoined
import GoSem.ClaimMapViews
import Derived.JoinedTies
import Derived.KernelRfl
namespace Go.Proofs.YtlhhnaccigamjaaDoor
/- THE CELL 'sum', in the pinned program and in every row, IS THE sha256 OF THE DUMP (.gsa) THAT YtlhhnaccigamjaaDoorProg.lean LOADS. Nothing in Lean hashes anything: it is a label: what it is worth is what the hold of that sum in a sandbox is worth. -/
noncomputable def Tryd.pinned : Pinned := { name := "ytlhhnaccigamjaadoor", sum := "de108e26cdb743dd98bcfe27bc574f62b73df7799c19483c0043547ae9fbbb79", checked := Tryd.checked }
namespace Rows
def none {H : Type} : Left H := { results := [], args := [] }

/- WHAT THE LISTED PACKAGE-LEVEL VARIABLES READ AS WHEN THE CALL BEGINS. Each datum BY PROGRAM (the guide's laid-datum.mjs) off the statement by which the dump's own 'gosem.cut.vars' lays the variable. In a bare row this is a premise. The card (YtlhhnaccigamjaaDoorCards.lean) ties it to the program's text. -/
def laid_revenant_link_versionPart {H : Type} : DataW H := .agg [.lit (.int .i64 0), .lit (.int .i64 40)]
def laid_revenant_link_slotPart {H : Type} : DataW H := .agg [.lit (.int .i64 40), .lit (.int .i64 23)]
def laid_revenant_link_markPart {H : Type} : DataW H := .agg [.lit (.int .i64 63), .lit (.int .i64 1)]

/-- 'revenantlaw13.CoreExact': WHATEVER THE INPUT: true; the input reads as it did. -/
def coreExactSpec : ChangeSpec := { name := "coreExact", fn := fun _ => fun
  | [d1, d2] => { results := [.lit (.bool true)], args := [d1, d2] }
  | _ => none }
def coreExactRow : OpenClaim := { program := "ytlhhnaccigamjaadoor", sum := "de108e26cdb743dd98bcfe27bc574f62b73df7799c19483c0043547ae9fbbb79", func := "revenant/revenantlaw13.CoreExact", spec := "coreExact", unfollowed := true, recurses := true, named := ["revenant/link.versionPart", "revenant/link.slotPart", "revenant/link.markPart"], plainKeys := false, apart := false, laid := [("revenant/link.versionPart", laid_revenant_link_versionPart), ("revenant/link.slotPart", laid_revenant_link_slotPart), ("revenant/link.markPart", laid_revenant_link_markPart)] }
def CoreExactSaid : Prop := coreExactRow.holds Tryd.pinned (OpenSpec.ofChange coreExactSpec)

/-- ITS FALSE NEIGHBOUR: 'it returns false'. Refute it at one input. -/
def coreExactWrong : ChangeSpec := { name := "coreExact", fn := fun _ => fun
  | [d1, d2] => { results := [.lit (.bool false)], args := [d1, d2] }
  | _ => none }
def CoreExactWrongFalsely : Prop := coreExactRow.holds Tryd.pinned (OpenSpec.ofChange coreExactWrong)

/-- 'revenantlaw13.CoreNil': WHATEVER THE INPUT: true; the input reads as it did. -/
def coreNilSpec : ChangeSpec := { name := "coreNil", fn := fun _ => fun
  | [d1, d2] => { results := [.lit (.bool true)], args := [d1, d2] }
  | _ => none }
def coreNilRow : OpenClaim := { program := "ytlhhnaccigamjaadoor", sum := "de108e26cdb743dd98bcfe27bc574f62b73df7799c19483c0043547ae9fbbb79", func := "revenant/revenantlaw13.CoreNil", spec := "coreNil", unfollowed := true, recurses := true, named := ["revenant/link.versionPart", "revenant/link.slotPart", "revenant/link.markPart"], plainKeys := false, apart := false, laid := [("revenant/link.versionPart", laid_revenant_link_versionPart), ("revenant/link.slotPart", laid_revenant_link_slotPart), ("revenant/link.markPart", laid_revenant_link_markPart)] }
def CoreNilSaid : Prop := coreNilRow.holds Tryd.pinned (OpenSpec.ofChange coreNilSpec)

/-- ITS FALSE NEIGHBOUR: 'it returns false'. Refute it at one input. -/
def coreNilWrong : ChangeSpec := { name := "coreNil", fn := fun _ => fun
  | [d1, d2] => { results := [.lit (.bool false)], args := [d1, d2] }
  | _ => none }
def CoreNilWrongFalsely : Prop := coreNilRow.holds Tryd.pinned (OpenSpec.ofChange coreNilWrong)

/-- 'revenantlaw13.CoreEpochs': WHATEVER THE INPUT: true; the input reads as it did. -/
def coreEpochsSpec : ChangeSpec := { name := "coreEpochs", fn := fun _ => fun
  | [d] => { results := [.lit (.bool true)], args := [d] }
  | _ => none }
def coreEpochsRow : OpenClaim := { program := "ytlhhnaccigamjaadoor", sum := "de108e26cdb743dd98bcfe27bc574f62b73df7799c19483c0043547ae9fbbb79", func := "revenant/revenantlaw13.CoreEpochs", spec := "coreEpochs", unfollowed := true, recurses := true, named := ["revenant/link.versionPart", "revenant/link.slotPart", "revenant/link.markPart"], plainKeys := false, apart := false, laid := [("revenant/link.versionPart", laid_revenant_link_versionPart), ("revenant/link.slotPart", laid_revenant_link_slotPart), ("revenant/link.markPart", laid_revenant_link_markPart)] }
def CoreEpochsSaid : Prop := coreEpochsRow.holds Tryd.pinned (OpenSpec.ofChange coreEpochsSpec)

/-- ITS FALSE NEIGHBOUR: 'it returns false'. Refute it at one input. -/
def coreEpochsWrong : ChangeSpec := { name := "coreEpochs", fn := fun _ => fun
  | [d] => { results := [.lit (.bool false)], args := [d] }
  | _ => none }
def CoreEpochsWrongFalsely : Prop := coreEpochsRow.holds Tryd.pinned (OpenSpec.ofChange coreEpochsWrong)

/-- 'revenantlaw13.CoreLinks': WHATEVER THE INPUT: true; the input reads as it did. -/
def coreLinksSpec : ChangeSpec := { name := "coreLinks", fn := fun _ => fun
  | [d1, d2, d3, d4] => { results := [.lit (.bool true)], args := [d1, d2, d3, d4] }
  | _ => none }
def coreLinksRow : OpenClaim := { program := "ytlhhnaccigamjaadoor", sum := "de108e26cdb743dd98bcfe27bc574f62b73df7799c19483c0043547ae9fbbb79", func := "revenant/revenantlaw13.CoreLinks", spec := "coreLinks", unfollowed := true, recurses := true, named := ["revenant/link.versionPart", "revenant/link.slotPart", "revenant/link.markPart"], plainKeys := false, apart := false, laid := [("revenant/link.versionPart", laid_revenant_link_versionPart), ("revenant/link.slotPart", laid_revenant_link_slotPart), ("revenant/link.markPart", laid_revenant_link_markPart)] }
def CoreLinksSaid : Prop := coreLinksRow.holds Tryd.pinned (OpenSpec.ofChange coreLinksSpec)

/-- ITS FALSE NEIGHBOUR: 'it returns false'. Refute it at one input. -/
def coreLinksWrong : ChangeSpec := { name := "coreLinks", fn := fun _ => fun
  | [d1, d2, d3, d4] => { results := [.lit (.bool false)], args := [d1, d2, d3, d4] }
  | _ => none }
def CoreLinksWrongFalsely : Prop := coreLinksRow.holds Tryd.pinned (OpenSpec.ofChange coreLinksWrong)

/- THE SECOND FORM. 'bulk': how many values and letters a reading holds, each counted each time it is reached (what is shared counts as often as it is met; a slice's spare places count too). A statement '..UptoSaid' is the law's where the arguments, and the package variables that the reading takes, are together of bulk at most 1048576: NARROWER than '..Said'. Prove '..Said' where nothing that the law and all that it calls make is longer than what came in: it says more and counts as full. Else prove '..UptoSaid'. A law counts once. -/
mutual
def uptoBulk {H : Type} : DataW H → Nat
  | .lit (.string bytes) => bytes.length + 1
  | .lit _ => 1
  | .nil => 1
  | .ptr d => uptoBulk d + 1
  | .slice elems spare => uptoBulkAll elems + uptoBulkAll spare + 1
  | .agg parts => uptoBulkAll parts + 1
  | .iface _ d => uptoBulk d + 1
  | .map entries => uptoBulkEntries entries + 1
  | .held _ => 1
def uptoBulkAll {H : Type} : List (DataW H) → Nat
  | [] => 0
  | d :: r => uptoBulk d + uptoBulkAll r
def uptoBulkEntries {H : Type} : List (Lit × DataW H) → Nat
  | [] => 0
  | x :: r => uptoBulkEntry x + uptoBulkEntries r
def uptoBulkEntry {H : Type} : Lit × DataW H → Nat
  | (.string bytes, d) => bytes.length + uptoBulk d + 1
  | (_, d) => uptoBulk d + 1
 end
def uptoSmall : (H : Type) → List (DataW H) → Bool := fun _ ds => decide (uptoBulkAll ds ≤ 1048576)
def OpenSpec.upto (s : _root_.Go.ChangeSpec) : _root_.Go.OpenSpec := { _root_.Go.OpenSpec.ofChange s with cond := some uptoSmall }

/-- 'revenantlaw13.CoreExact', WHERE WHAT IT READS IS OF BULK AT MOST 1048576: true; the input reads as it did. -/
def coreExactUptoRow : OpenClaim := { program := "ytlhhnaccigamjaadoor", sum := "de108e26cdb743dd98bcfe27bc574f62b73df7799c19483c0043547ae9fbbb79", func := "revenant/revenantlaw13.CoreExact", spec := "coreExact", unfollowed := true, recurses := true, named := ["revenant/link.versionPart", "revenant/link.slotPart", "revenant/link.markPart"], plainKeys := false, apart := false, laid := [("revenant/link.versionPart", laid_revenant_link_versionPart), ("revenant/link.slotPart", laid_revenant_link_slotPart), ("revenant/link.markPart", laid_revenant_link_markPart)], narrowed := true }
def CoreExactUptoSaid : Prop := coreExactUptoRow.holds Tryd.pinned (OpenSpec.upto coreExactSpec)

/-- 'revenantlaw13.CoreNil', WHERE WHAT IT READS IS OF BULK AT MOST 1048576: true; the input reads as it did. -/
def coreNilUptoRow : OpenClaim := { program := "ytlhhnaccigamjaadoor", sum := "de108e26cdb743dd98bcfe27bc574f62b73df7799c19483c0043547ae9fbbb79", func := "revenant/revenantlaw13.CoreNil", spec := "coreNil", unfollowed := true, recurses := true, named := ["revenant/link.versionPart", "revenant/link.slotPart", "revenant/link.markPart"], plainKeys := false, apart := false, laid := [("revenant/link.versionPart", laid_revenant_link_versionPart), ("revenant/link.slotPart", laid_revenant_link_slotPart), ("revenant/link.markPart", laid_revenant_link_markPart)], narrowed := true }
def CoreNilUptoSaid : Prop := coreNilUptoRow.holds Tryd.pinned (OpenSpec.upto coreNilSpec)

/-- 'revenantlaw13.CoreEpochs', WHERE WHAT IT READS IS OF BULK AT MOST 1048576: true; the input reads as it did. -/
def coreEpochsUptoRow : OpenClaim := { program := "ytlhhnaccigamjaadoor", sum := "de108e26cdb743dd98bcfe27bc574f62b73df7799c19483c0043547ae9fbbb79", func := "revenant/revenantlaw13.CoreEpochs", spec := "coreEpochs", unfollowed := true, recurses := true, named := ["revenant/link.versionPart", "revenant/link.slotPart", "revenant/link.markPart"], plainKeys := false, apart := false, laid := [("revenant/link.versionPart", laid_revenant_link_versionPart), ("revenant/link.slotPart", laid_revenant_link_slotPart), ("revenant/link.markPart", laid_revenant_link_markPart)], narrowed := true }
def CoreEpochsUptoSaid : Prop := coreEpochsUptoRow.holds Tryd.pinned (OpenSpec.upto coreEpochsSpec)

/-- 'revenantlaw13.CoreLinks', WHERE WHAT IT READS IS OF BULK AT MOST 1048576: true; the input reads as it did. -/
def coreLinksUptoRow : OpenClaim := { program := "ytlhhnaccigamjaadoor", sum := "de108e26cdb743dd98bcfe27bc574f62b73df7799c19483c0043547ae9fbbb79", func := "revenant/revenantlaw13.CoreLinks", spec := "coreLinks", unfollowed := true, recurses := true, named := ["revenant/link.versionPart", "revenant/link.slotPart", "revenant/link.markPart"], plainKeys := false, apart := false, laid := [("revenant/link.versionPart", laid_revenant_link_versionPart), ("revenant/link.slotPart", laid_revenant_link_slotPart), ("revenant/link.markPart", laid_revenant_link_markPart)], narrowed := true }
def CoreLinksUptoSaid : Prop := coreLinksUptoRow.holds Tryd.pinned (OpenSpec.upto coreLinksSpec)

end Rows
end Go.Proofs.YtlhhnaccigamjaaDoor
