/-
  No cell of these rows narrows 'for every input' (looked for: loops, veiled, ifaces, maps, wideKeys, modest, calm, conditions, laid).
  DERIVED. THE GIVEN ROWS OF THIS SEAT. 3 by the template 'for every input the law returns true; each argument reads behind the call as it read before'; 0 by the template 'total and deterministic' (their statements: YtnohfcikedhhgaaTotals.lean).
  GIVEN WITH THE SEED: the statements are not yours to turn. If you find one false, say at which input.
  Laid BY PROGRAM, IN A SANDBOX (cutbox-rows.mjs): the forced cells as the released guide's own fill.sh prints them over the translation 3a1adc4e75f09efd… (all of the seat's roots in one cut). By AI agents, Wed Nov 11 2026. No macro, syntax, notation, axiom, sorry.
-/
import Derived.Test.YtnohfcikedhhgaaChecked
import GoSem.Claim
import GoSem.ClaimJoined
import GoSem.ClaimMapViews
import Derived.JoinedTies
import Derived.KernelRfl
namespace Go.Proofs.Ytnohfcikedhhgaa
/- THE CELL 'sum', in the pinned program and in every row, IS THE sha256 OF THE DUMP (.gsa) THAT YtnohfcikedhhgaaProg.lean LOADS. Nothing in Lean hashes anything: it is a label: what it is worth is what the hold of that sum in a sandbox is worth. -/
noncomputable def Try.pinned : Pinned := { name := "ytnohfcikedhhgaa", sum := "3a1adc4e75f09efde5fd1eabf262db151ad68a298899150815b7bfa376529c2b", checked := Try.checked }
namespace Rows
def none {H : Type} : Left H := { results := [], args := [] }

/-- 'revenantlaw07.WorldExact': WHATEVER THE INPUT: true; the input reads as it did. -/
def worldExactSpec : ChangeSpec := { name := "worldExact", fn := fun _ => fun
  | [d1, d2] => { results := [.lit (.bool true)], args := [d1, d2] }
  | _ => none }
def worldExactRow : OpenClaim := { program := "ytnohfcikedhhgaa", sum := "3a1adc4e75f09efde5fd1eabf262db151ad68a298899150815b7bfa376529c2b", func := "revenant/revenantlaw07.WorldExact", spec := "worldExact", inPlace := ["maps.clone"], unfollowed := true, recurses := true, plainKeys := false, apart := false }
def WorldExactSaid : Prop := worldExactRow.holds Try.pinned (OpenSpec.ofChange worldExactSpec)

/-- ITS FALSE NEIGHBOUR: 'it returns false'. Refute it at one input. -/
def worldExactWrong : ChangeSpec := { name := "worldExact", fn := fun _ => fun
  | [d1, d2] => { results := [.lit (.bool false)], args := [d1, d2] }
  | _ => none }
def WorldExactWrongFalsely : Prop := worldExactRow.holds Try.pinned (OpenSpec.ofChange worldExactWrong)

/-- 'revenantlaw07.WorldNil': WHATEVER THE INPUT: true; the input reads as it did. -/
def worldNilSpec : ChangeSpec := { name := "worldNil", fn := fun _ => fun
  | [d1, d2] => { results := [.lit (.bool true)], args := [d1, d2] }
  | _ => none }
def worldNilRow : OpenClaim := { program := "ytnohfcikedhhgaa", sum := "3a1adc4e75f09efde5fd1eabf262db151ad68a298899150815b7bfa376529c2b", func := "revenant/revenantlaw07.WorldNil", spec := "worldNil", inPlace := ["maps.clone"], unfollowed := true, recurses := true, plainKeys := false, apart := false }
def WorldNilSaid : Prop := worldNilRow.holds Try.pinned (OpenSpec.ofChange worldNilSpec)

/-- ITS FALSE NEIGHBOUR: 'it returns false'. Refute it at one input. -/
def worldNilWrong : ChangeSpec := { name := "worldNil", fn := fun _ => fun
  | [d1, d2] => { results := [.lit (.bool false)], args := [d1, d2] }
  | _ => none }
def WorldNilWrongFalsely : Prop := worldNilRow.holds Try.pinned (OpenSpec.ofChange worldNilWrong)

/-- 'revenantlaw07.WorldBlind': WHATEVER THE INPUT: true; the input reads as it did. -/
def worldBlindSpec : ChangeSpec := { name := "worldBlind", fn := fun _ => fun
  | [d1, d2] => { results := [.lit (.bool true)], args := [d1, d2] }
  | _ => none }
def worldBlindRow : OpenClaim := { program := "ytnohfcikedhhgaa", sum := "3a1adc4e75f09efde5fd1eabf262db151ad68a298899150815b7bfa376529c2b", func := "revenant/revenantlaw07.WorldBlind", spec := "worldBlind", inPlace := ["maps.clone"], unfollowed := true, recurses := true, plainKeys := false, apart := false }
def WorldBlindSaid : Prop := worldBlindRow.holds Try.pinned (OpenSpec.ofChange worldBlindSpec)

/-- ITS FALSE NEIGHBOUR: 'it returns false'. Refute it at one input. -/
def worldBlindWrong : ChangeSpec := { name := "worldBlind", fn := fun _ => fun
  | [d1, d2] => { results := [.lit (.bool false)], args := [d1, d2] }
  | _ => none }
def WorldBlindWrongFalsely : Prop := worldBlindRow.holds Try.pinned (OpenSpec.ofChange worldBlindWrong)

/- THE SECOND FORM. 'bulk': how many values and letters a reading holds, each counted each time it is reached (what is shared counts as often as it is met; a slice's spare places count too). A statement '..UptoSaid' is the law's where the arguments, and the package variables that the reading takes, are together of bulk at most 1048576: NARROWER than '..Said'. Prove '..Said' where nothing that the law and all that it calls make is longer than what came in: it says more and counts as full. Else prove '..UptoSaid'. A law counts once. -/
mutual
def uptoBulk {H : Type} : DataW H → Nat
  | .lit (.string bytes) => bytes.length + 1
  | .lit _ => 1
  | .nil => 1
  | .ptr d => uptoBulk d + 1
  | .slice elems spare => uptoBulkAll elems + uptoBulkAll spare + 1
  | .agg parts => uptoBulkAll parts + 1
  | .iface _ d => uptoBulk d + 1
  | .map entries => uptoBulkEntries entries + 1
  | .held _ => 1
def uptoBulkAll {H : Type} : List (DataW H) → Nat
  | [] => 0
  | d :: r => uptoBulk d + uptoBulkAll r
def uptoBulkEntries {H : Type} : List (Lit × DataW H) → Nat
  | [] => 0
  | x :: r => uptoBulkEntry x + uptoBulkEntries r
def uptoBulkEntry {H : Type} : Lit × DataW H → Nat
  | (.string bytes, d) => bytes.length + uptoBulk d + 1
  | (_, d) => uptoBulk d + 1
 end
def uptoSmall : (H : Type) → List (DataW H) → Bool := fun _ ds => decide (uptoBulkAll ds ≤ 1048576)
def OpenSpec.upto (s : _root_.Go.ChangeSpec) : _root_.Go.OpenSpec := { _root_.Go.OpenSpec.ofChange s with cond := some uptoSmall }

/-- 'revenantlaw07.WorldExact', WHERE WHAT IT READS IS OF BULK AT MOST 1048576: true; the input reads as it did. -/
def worldExactUptoRow : OpenClaim := { program := "ytnohfcikedhhgaa", sum := "3a1adc4e75f09efde5fd1eabf262db151ad68a298899150815b7bfa376529c2b", func := "revenant/revenantlaw07.WorldExact", spec := "worldExact", inPlace := ["maps.clone"], unfollowed := true, recurses := true, plainKeys := false, apart := false, narrowed := true }
def WorldExactUptoSaid : Prop := worldExactUptoRow.holds Try.pinned (OpenSpec.upto worldExactSpec)

/-- 'revenantlaw07.WorldNil', WHERE WHAT IT READS IS OF BULK AT MOST 1048576: true; the input reads as it did. -/
def worldNilUptoRow : OpenClaim := { program := "ytnohfcikedhhgaa", sum := "3a1adc4e75f09efde5fd1eabf262db151ad68a298899150815b7bfa376529c2b", func := "revenant/revenantlaw07.WorldNil", spec := "worldNil", inPlace := ["maps.clone"], unfollowed := true, recurses := true, plainKeys := false, apart := false, narrowed := true }
def WorldNilUptoSaid : Prop := worldNilUptoRow.holds Try.pinned (OpenSpec.upto worldNilSpec)

/-- 'revenantlaw07.WorldBlind', WHERE WHAT IT READS IS OF BULK AT MOST 1048576: true; the input reads as it did. -/
def worldBlindUptoRow : OpenClaim := { program := "ytnohfcikedhhgaa", sum := "3a1adc4e75f09efde5fd1eabf262db151ad68a298899150815b7bfa376529c2b", func := "revenant/revenantlaw07.WorldBlind", spec := "worldBlind", inPlace := ["maps.clone"], unfollowed := true, recurses := true, plainKeys := false, apart := false, narrowed := true }
def WorldBlindUptoSaid : Prop := worldBlindUptoRow.holds Try.pinned (OpenSpec.upto worldBlindSpec)

end Rows
end Go.Proofs.Ytnohfcikedhhgaa
