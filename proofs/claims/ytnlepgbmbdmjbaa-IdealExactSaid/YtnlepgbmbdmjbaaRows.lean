/-
  No cell of these rows narrows 'for every input' (looked for: loops, veiled, ifaces, maps, wideKeys, modest, calm, conditions, laid).
  DERIVED. THE GIVEN ROWS OF THIS SEAT. 4 by the template 'for every input the law returns true; each argument reads behind the call as it read before'; 0 by the template 'total and deterministic' (their statements: YtnlepgbmbdmjbaaTotals.lean).
  GIVEN WITH THE SEED: the statements are not yours to turn. If you find one false, say at which input.
  Laid BY PROGRAM, IN A SANDBOX (cutbox-rows.mjs): the forced cells as the released guide's own fill.sh prints them over the translation 06b7ad1294f44ce6… (all of the seat's roots in one cut). By AI agents, Wed Nov 11 2026. No macro, syntax, notation, axiom, sorry.
-/
import Derived.Test.YtnlepgbmbdmjbaaChecked
import GoSem.Claim
import GoSem.ClaimJoined
import GoSem.ClaimMapViews
import Derived.JoinedTies
import Derived.KernelRfl
namespace Go.Proofs.Ytnlepgbmbdmjbaa
/- THE CELL 'sum', in the pinned program and in every row, IS THE sha256 OF THE DUMP (.gsa) THAT YtnlepgbmbdmjbaaProg.lean LOADS. Nothing in Lean hashes anything: it is a label: what it is worth is what the hold of that sum in a sandbox is worth. -/
noncomputable def Try.pinned : Pinned := { name := "ytnlepgbmbdmjbaa", sum := "06b7ad1294f44ce6d04bcfc79b408741a7b3f7efc582bd0327377a679cc133ad", checked := Try.checked }
namespace Rows
def none {H : Type} : Left H := { results := [], args := [] }

/-- 'revenantlaw09.IdealExact': WHATEVER THE INPUT: true; the input reads as it did. -/
def idealExactSpec : ChangeSpec := { name := "idealExact", fn := fun _ => fun
  | [d] => { results := [.lit (.bool true)], args := [d] }
  | _ => none }
def idealExactRow : OpenClaim := { program := "ytnlepgbmbdmjbaa", sum := "06b7ad1294f44ce6d04bcfc79b408741a7b3f7efc582bd0327377a679cc133ad", func := "revenant/revenantlaw09.IdealExact", spec := "idealExact", plainKeys := false, apart := false }
def IdealExactSaid : Prop := idealExactRow.holds Try.pinned (OpenSpec.ofChange idealExactSpec)

/-- ITS FALSE NEIGHBOUR: 'it returns false'. Refute it at one input. -/
def idealExactWrong : ChangeSpec := { name := "idealExact", fn := fun _ => fun
  | [d] => { results := [.lit (.bool false)], args := [d] }
  | _ => none }
def IdealExactWrongFalsely : Prop := idealExactRow.holds Try.pinned (OpenSpec.ofChange idealExactWrong)

/-- 'revenantlaw09.IdealNil': WHATEVER THE INPUT: true; the input reads as it did. -/
def idealNilSpec : ChangeSpec := { name := "idealNil", fn := fun _ => fun
  | [d1, d2] => { results := [.lit (.bool true)], args := [d1, d2] }
  | _ => none }
def idealNilRow : OpenClaim := { program := "ytnlepgbmbdmjbaa", sum := "06b7ad1294f44ce6d04bcfc79b408741a7b3f7efc582bd0327377a679cc133ad", func := "revenant/revenantlaw09.IdealNil", spec := "idealNil", plainKeys := false, apart := false }
def IdealNilSaid : Prop := idealNilRow.holds Try.pinned (OpenSpec.ofChange idealNilSpec)

/-- ITS FALSE NEIGHBOUR: 'it returns false'. Refute it at one input. -/
def idealNilWrong : ChangeSpec := { name := "idealNil", fn := fun _ => fun
  | [d1, d2] => { results := [.lit (.bool false)], args := [d1, d2] }
  | _ => none }
def IdealNilWrongFalsely : Prop := idealNilRow.holds Try.pinned (OpenSpec.ofChange idealNilWrong)

/-- 'revenantlaw09.IdealKeeps': WHATEVER THE INPUT: true; the input reads as it did. -/
def idealKeepsSpec : ChangeSpec := { name := "idealKeeps", fn := fun _ => fun
  | [d1, d2, d3, d4] => { results := [.lit (.bool true)], args := [d1, d2, d3, d4] }
  | _ => none }
def idealKeepsRow : OpenClaim := { program := "ytnlepgbmbdmjbaa", sum := "06b7ad1294f44ce6d04bcfc79b408741a7b3f7efc582bd0327377a679cc133ad", func := "revenant/revenantlaw09.IdealKeeps", spec := "idealKeeps", plainKeys := false, apart := false }
def IdealKeepsSaid : Prop := idealKeepsRow.holds Try.pinned (OpenSpec.ofChange idealKeepsSpec)

/-- ITS FALSE NEIGHBOUR: 'it returns false'. Refute it at one input. -/
def idealKeepsWrong : ChangeSpec := { name := "idealKeeps", fn := fun _ => fun
  | [d1, d2, d3, d4] => { results := [.lit (.bool false)], args := [d1, d2, d3, d4] }
  | _ => none }
def IdealKeepsWrongFalsely : Prop := idealKeepsRow.holds Try.pinned (OpenSpec.ofChange idealKeepsWrong)

/-- 'revenantlaw09.IdealPlain': WHATEVER THE INPUT: true; the input reads as it did. -/
def idealPlainSpec : ChangeSpec := { name := "idealPlain", fn := fun _ => fun
  | [d] => { results := [.lit (.bool true)], args := [d] }
  | _ => none }
def idealPlainRow : OpenClaim := { program := "ytnlepgbmbdmjbaa", sum := "06b7ad1294f44ce6d04bcfc79b408741a7b3f7efc582bd0327377a679cc133ad", func := "revenant/revenantlaw09.IdealPlain", spec := "idealPlain", plainKeys := false, apart := false }
def IdealPlainSaid : Prop := idealPlainRow.holds Try.pinned (OpenSpec.ofChange idealPlainSpec)

/-- ITS FALSE NEIGHBOUR: 'it returns false'. Refute it at one input. -/
def idealPlainWrong : ChangeSpec := { name := "idealPlain", fn := fun _ => fun
  | [d] => { results := [.lit (.bool false)], args := [d] }
  | _ => none }
def IdealPlainWrongFalsely : Prop := idealPlainRow.holds Try.pinned (OpenSpec.ofChange idealPlainWrong)

/- THE SECOND FORM. 'bulk': how many values and letters a reading holds, each counted each time it is reached (what is shared counts as often as it is met; a slice's spare places count too). A statement '..UptoSaid' is the law's where the arguments, and the package variables that the reading takes, are together of bulk at most 1048576: NARROWER than '..Said'. Prove '..Said' where nothing that the law and all that it calls make is longer than what came in: it says more and counts as full. Else prove '..UptoSaid'. A law counts once. -/
mutual
def uptoBulk {H : Type} : DataW H → Nat
  | .lit (.string bytes) => bytes.length + 1
  | .lit _ => 1
  | .nil => 1
  | .ptr d => uptoBulk d + 1
  | .slice elems spare => uptoBulkAll elems + uptoBulkAll spare + 1
  | .agg parts => uptoBulkAll parts + 1
  | .iface _ d => uptoBulk d + 1
  | .map entries => uptoBulkEntries entries + 1
  | .held _ => 1
def uptoBulkAll {H : Type} : List (DataW H) → Nat
  | [] => 0
  | d :: r => uptoBulk d + uptoBulkAll r
def uptoBulkEntries {H : Type} : List (Lit × DataW H) → Nat
  | [] => 0
  | x :: r => uptoBulkEntry x + uptoBulkEntries r
def uptoBulkEntry {H : Type} : Lit × DataW H → Nat
  | (.string bytes, d) => bytes.length + uptoBulk d + 1
  | (_, d) => uptoBulk d + 1
 end
def uptoSmall : (H : Type) → List (DataW H) → Bool := fun _ ds => decide (uptoBulkAll ds ≤ 1048576)
def OpenSpec.upto (s : _root_.Go.ChangeSpec) : _root_.Go.OpenSpec := { _root_.Go.OpenSpec.ofChange s with cond := some uptoSmall }

/-- 'revenantlaw09.IdealExact', WHERE WHAT IT READS IS OF BULK AT MOST 1048576: true; the input reads as it did. -/
def idealExactUptoRow : OpenClaim := { program := "ytnlepgbmbdmjbaa", sum := "06b7ad1294f44ce6d04bcfc79b408741a7b3f7efc582bd0327377a679cc133ad", func := "revenant/revenantlaw09.IdealExact", spec := "idealExact", plainKeys := false, apart := false, narrowed := true }
def IdealExactUptoSaid : Prop := idealExactUptoRow.holds Try.pinned (OpenSpec.upto idealExactSpec)

/-- 'revenantlaw09.IdealNil', WHERE WHAT IT READS IS OF BULK AT MOST 1048576: true; the input reads as it did. -/
def idealNilUptoRow : OpenClaim := { program := "ytnlepgbmbdmjbaa", sum := "06b7ad1294f44ce6d04bcfc79b408741a7b3f7efc582bd0327377a679cc133ad", func := "revenant/revenantlaw09.IdealNil", spec := "idealNil", plainKeys := false, apart := false, narrowed := true }
def IdealNilUptoSaid : Prop := idealNilUptoRow.holds Try.pinned (OpenSpec.upto idealNilSpec)

/-- 'revenantlaw09.IdealKeeps', WHERE WHAT IT READS IS OF BULK AT MOST 1048576: true; the input reads as it did. -/
def idealKeepsUptoRow : OpenClaim := { program := "ytnlepgbmbdmjbaa", sum := "06b7ad1294f44ce6d04bcfc79b408741a7b3f7efc582bd0327377a679cc133ad", func := "revenant/revenantlaw09.IdealKeeps", spec := "idealKeeps", plainKeys := false, apart := false, narrowed := true }
def IdealKeepsUptoSaid : Prop := idealKeepsUptoRow.holds Try.pinned (OpenSpec.upto idealKeepsSpec)

/-- 'revenantlaw09.IdealPlain', WHERE WHAT IT READS IS OF BULK AT MOST 1048576: true; the input reads as it did. -/
def idealPlainUptoRow : OpenClaim := { program := "ytnlepgbmbdmjbaa", sum := "06b7ad1294f44ce6d04bcfc79b408741a7b3f7efc582bd0327377a679cc133ad", func := "revenant/revenantlaw09.IdealPlain", spec := "idealPlain", plainKeys := false, apart := false, narrowed := true }
def IdealPlainUptoSaid : Prop := idealPlainUptoRow.holds Try.pinned (OpenSpec.upto idealPlainSpec)

end Rows
end Go.Proofs.Ytnlepgbmbdmjbaa
