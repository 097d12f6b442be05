/-
  No cell of these rows narrows 'for every input' (looked for: loops, veiled, ifaces, maps, wideKeys, modest, calm, conditions, laid).
  DERIVED. THE GIVEN ROWS OF THIS SEAT. 4 by the template 'for every input the law returns true; each argument reads behind the call as it read before'; 0 by the template 'total and deterministic' (their statements: YtnopnnjkabkbaaaTotals.lean).
  GIVEN WITH THE SEED: the statements are not yours to turn. If you find one false, say at which input.
  Laid BY PROGRAM, IN A SANDBOX (cutbox-rows.mjs): the forced cells as the released guide's own fill.sh prints them over the translation c02b586613e066c1… (all of the seat's roots in one cut). By AI agents, Wed Nov 11 2026. No macro, syntax, notation, axiom, sorry.
-/
import Derived.Test.YtnopnnjkabkbaaaChecked
import GoSem.Claim
import GoSem.ClaimJoined
import GoSem.ClaimMapViews
import Derived.JoinedTies
import Derived.KernelRfl
namespace Go.Proofs.Ytnopnnjkabkbaaa
/- THE CELL 'sum', in the pinned program and in every row, IS THE sha256 OF THE DUMP (.gsa) THAT YtnopnnjkabkbaaaProg.lean LOADS. Nothing in Lean hashes anything: it is a label: what it is worth is what the hold of that sum in a sandbox is worth. -/
noncomputable def Try.pinned : Pinned := { name := "ytnopnnjkabkbaaa", sum := "c02b586613e066c1d7b3852c50beee702ae88de42e637645179682c06861dbc7", checked := Try.checked }
namespace Rows
def none {H : Type} : Left H := { results := [], args := [] }

/-- 'revenantlaw12.MixExact': WHATEVER THE INPUT: true; the input reads as it did. -/
def mixExactSpec : ChangeSpec := { name := "mixExact", fn := fun _ => fun
  | [d1, d2] => { results := [.lit (.bool true)], args := [d1, d2] }
  | _ => none }
def mixExactRow : OpenClaim := { program := "ytnopnnjkabkbaaa", sum := "c02b586613e066c1d7b3852c50beee702ae88de42e637645179682c06861dbc7", func := "revenant/revenantlaw12.MixExact", spec := "mixExact", apart := false }
def MixExactSaid : Prop := mixExactRow.holds Try.pinned (OpenSpec.ofChange mixExactSpec)

/-- ITS FALSE NEIGHBOUR: 'it returns false'. Refute it at one input. -/
def mixExactWrong : ChangeSpec := { name := "mixExact", fn := fun _ => fun
  | [d1, d2] => { results := [.lit (.bool false)], args := [d1, d2] }
  | _ => none }
def MixExactWrongFalsely : Prop := mixExactRow.holds Try.pinned (OpenSpec.ofChange mixExactWrong)

/-- 'revenantlaw12.MixSpreads': WHATEVER THE INPUT: true; the input reads as it did. -/
def mixSpreadsSpec : ChangeSpec := { name := "mixSpreads", fn := fun _ => fun
  | [d1, d2] => { results := [.lit (.bool true)], args := [d1, d2] }
  | _ => none }
def mixSpreadsRow : OpenClaim := { program := "ytnopnnjkabkbaaa", sum := "c02b586613e066c1d7b3852c50beee702ae88de42e637645179682c06861dbc7", func := "revenant/revenantlaw12.MixSpreads", spec := "mixSpreads", apart := false }
def MixSpreadsSaid : Prop := mixSpreadsRow.holds Try.pinned (OpenSpec.ofChange mixSpreadsSpec)

/-- ITS FALSE NEIGHBOUR: 'it returns false'. Refute it at one input. -/
def mixSpreadsWrong : ChangeSpec := { name := "mixSpreads", fn := fun _ => fun
  | [d1, d2] => { results := [.lit (.bool false)], args := [d1, d2] }
  | _ => none }
def MixSpreadsWrongFalsely : Prop := mixSpreadsRow.holds Try.pinned (OpenSpec.ofChange mixSpreadsWrong)

/-- 'revenantlaw12.MixBack': WHATEVER THE INPUT: true; the input reads as it did. -/
def mixBackSpec : ChangeSpec := { name := "mixBack", fn := fun _ => fun
  | [d1, d2] => { results := [.lit (.bool true)], args := [d1, d2] }
  | _ => none }
def mixBackRow : OpenClaim := { program := "ytnopnnjkabkbaaa", sum := "c02b586613e066c1d7b3852c50beee702ae88de42e637645179682c06861dbc7", func := "revenant/revenantlaw12.MixBack", spec := "mixBack", apart := false }
def MixBackSaid : Prop := mixBackRow.holds Try.pinned (OpenSpec.ofChange mixBackSpec)

/-- ITS FALSE NEIGHBOUR: 'it returns false'. Refute it at one input. -/
def mixBackWrong : ChangeSpec := { name := "mixBack", fn := fun _ => fun
  | [d1, d2] => { results := [.lit (.bool false)], args := [d1, d2] }
  | _ => none }
def MixBackWrongFalsely : Prop := mixBackRow.holds Try.pinned (OpenSpec.ofChange mixBackWrong)

/-- 'revenantlaw12.MixHalves': WHATEVER THE INPUT: true; the input reads as it did. -/
def mixHalvesSpec : ChangeSpec := { name := "mixHalves", fn := fun _ => fun
  | [d1, d2] => { results := [.lit (.bool true)], args := [d1, d2] }
  | _ => none }
def mixHalvesRow : OpenClaim := { program := "ytnopnnjkabkbaaa", sum := "c02b586613e066c1d7b3852c50beee702ae88de42e637645179682c06861dbc7", func := "revenant/revenantlaw12.MixHalves", spec := "mixHalves", apart := false }
def MixHalvesSaid : Prop := mixHalvesRow.holds Try.pinned (OpenSpec.ofChange mixHalvesSpec)

/-- ITS FALSE NEIGHBOUR: 'it returns false'. Refute it at one input. -/
def mixHalvesWrong : ChangeSpec := { name := "mixHalves", fn := fun _ => fun
  | [d1, d2] => { results := [.lit (.bool false)], args := [d1, d2] }
  | _ => none }
def MixHalvesWrongFalsely : Prop := mixHalvesRow.holds Try.pinned (OpenSpec.ofChange mixHalvesWrong)

/- THE SECOND FORM. 'bulk': how many values and letters a reading holds, each counted each time it is reached (what is shared counts as often as it is met; a slice's spare places count too). A statement '..UptoSaid' is the law's where the arguments, and the package variables that the reading takes, are together of bulk at most 1048576: NARROWER than '..Said'. Prove '..Said' where nothing that the law and all that it calls make is longer than what came in: it says more and counts as full. Else prove '..UptoSaid'. A law counts once. -/
mutual
def uptoBulk {H : Type} : DataW H → Nat
  | .lit (.string bytes) => bytes.length + 1
  | .lit _ => 1
  | .nil => 1
  | .ptr d => uptoBulk d + 1
  | .slice elems spare => uptoBulkAll elems + uptoBulkAll spare + 1
  | .agg parts => uptoBulkAll parts + 1
  | .iface _ d => uptoBulk d + 1
  | .map entries => uptoBulkEntries entries + 1
  | .held _ => 1
def uptoBulkAll {H : Type} : List (DataW H) → Nat
  | [] => 0
  | d :: r => uptoBulk d + uptoBulkAll r
def uptoBulkEntries {H : Type} : List (Lit × DataW H) → Nat
  | [] => 0
  | x :: r => uptoBulkEntry x + uptoBulkEntries r
def uptoBulkEntry {H : Type} : Lit × DataW H → Nat
  | (.string bytes, d) => bytes.length + uptoBulk d + 1
  | (_, d) => uptoBulk d + 1
 end
def uptoSmall : (H : Type) → List (DataW H) → Bool := fun _ ds => decide (uptoBulkAll ds ≤ 1048576)
def OpenSpec.upto (s : _root_.Go.ChangeSpec) : _root_.Go.OpenSpec := { _root_.Go.OpenSpec.ofChange s with cond := some uptoSmall }

/-- 'revenantlaw12.MixExact', WHERE WHAT IT READS IS OF BULK AT MOST 1048576: true; the input reads as it did. -/
def mixExactUptoRow : OpenClaim := { program := "ytnopnnjkabkbaaa", sum := "c02b586613e066c1d7b3852c50beee702ae88de42e637645179682c06861dbc7", func := "revenant/revenantlaw12.MixExact", spec := "mixExact", apart := false, narrowed := true }
def MixExactUptoSaid : Prop := mixExactUptoRow.holds Try.pinned (OpenSpec.upto mixExactSpec)

/-- 'revenantlaw12.MixSpreads', WHERE WHAT IT READS IS OF BULK AT MOST 1048576: true; the input reads as it did. -/
def mixSpreadsUptoRow : OpenClaim := { program := "ytnopnnjkabkbaaa", sum := "c02b586613e066c1d7b3852c50beee702ae88de42e637645179682c06861dbc7", func := "revenant/revenantlaw12.MixSpreads", spec := "mixSpreads", apart := false, narrowed := true }
def MixSpreadsUptoSaid : Prop := mixSpreadsUptoRow.holds Try.pinned (OpenSpec.upto mixSpreadsSpec)

/-- 'revenantlaw12.MixBack', WHERE WHAT IT READS IS OF BULK AT MOST 1048576: true; the input reads as it did. -/
def mixBackUptoRow : OpenClaim := { program := "ytnopnnjkabkbaaa", sum := "c02b586613e066c1d7b3852c50beee702ae88de42e637645179682c06861dbc7", func := "revenant/revenantlaw12.MixBack", spec := "mixBack", apart := false, narrowed := true }
def MixBackUptoSaid : Prop := mixBackUptoRow.holds Try.pinned (OpenSpec.upto mixBackSpec)

/-- 'revenantlaw12.MixHalves', WHERE WHAT IT READS IS OF BULK AT MOST 1048576: true; the input reads as it did. -/
def mixHalvesUptoRow : OpenClaim := { program := "ytnopnnjkabkbaaa", sum := "c02b586613e066c1d7b3852c50beee702ae88de42e637645179682c06861dbc7", func := "revenant/revenantlaw12.MixHalves", spec := "mixHalves", apart := false, narrowed := true }
def MixHalvesUptoSaid : Prop := mixHalvesUptoRow.holds Try.pinned (OpenSpec.upto mixHalvesSpec)

end Rows
end Go.Proofs.Ytnopnnjkabkbaaa
