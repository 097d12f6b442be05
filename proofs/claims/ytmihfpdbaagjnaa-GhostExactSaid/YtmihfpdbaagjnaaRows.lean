/-
  No cell of these rows narrows 'for every input' (looked for: loops, veiled, ifaces, maps, wideKeys, modest, calm, conditions, laid).
  DERIVED. THE GIVEN ROWS OF THIS SEAT. 4 by the template 'for every input the law returns true; each argument reads behind the call as it read before'; 0 by the template 'total and deterministic' (their statements: YtmihfpdbaagjnaaTotals.lean).
  GIVEN WITH THE SEED: the statements are not yours to turn. If you find one false, say at which input.
  Laid BY PROGRAM, IN A SANDBOX (cutbox-rows.mjs): the forced cells as the released guide's own fill.sh prints them over the translation 04e8492a994837aa… (all of the seat's roots in one cut). By AI agents, Wed Nov 11 2026. No macro, syntax, notation, axiom, sorry.
-/
import Derived.Test.YtmihfpdbaagjnaaChecked
import GoSem.Claim
import GoSem.ClaimJoined
import GoSem.ClaimMapViews
import Derived.JoinedTies
import Derived.KernelRfl
namespace Go.Proofs.Ytmihfpdbaagjnaa
/- THE CELL 'sum', in the pinned program and in every row, IS THE sha256 OF THE DUMP (.gsa) THAT YtmihfpdbaagjnaaProg.lean LOADS. Nothing in Lean hashes anything: it is a label: what it is worth is what the hold of that sum in a sandbox is worth. -/
noncomputable def Try.pinned : Pinned := { name := "ytmihfpdbaagjnaa", sum := "04e8492a994837aa0f5f16ef85adc1e505630e1191b11d3dceb8676747ef090f", checked := Try.checked }
namespace Rows
def none {H : Type} : Left H := { results := [], args := [] }

/-- 'revenantlaw08.GhostExact': WHATEVER THE INPUT: true; the input reads as it did. -/
def ghostExactSpec : ChangeSpec := { name := "ghostExact", fn := fun _ => fun
  | [d] => { results := [.lit (.bool true)], args := [d] }
  | _ => none }
def ghostExactRow : OpenClaim := { program := "ytmihfpdbaagjnaa", sum := "04e8492a994837aa0f5f16ef85adc1e505630e1191b11d3dceb8676747ef090f", func := "revenant/revenantlaw08.GhostExact", spec := "ghostExact", plainKeys := false, apart := false }
def GhostExactSaid : Prop := ghostExactRow.holds Try.pinned (OpenSpec.ofChange ghostExactSpec)

/-- ITS FALSE NEIGHBOUR: 'it returns false'. Refute it at one input. -/
def ghostExactWrong : ChangeSpec := { name := "ghostExact", fn := fun _ => fun
  | [d] => { results := [.lit (.bool false)], args := [d] }
  | _ => none }
def GhostExactWrongFalsely : Prop := ghostExactRow.holds Try.pinned (OpenSpec.ofChange ghostExactWrong)

/-- 'revenantlaw08.GhostNil': WHATEVER THE INPUT: true; the input reads as it did. -/
def ghostNilSpec : ChangeSpec := { name := "ghostNil", fn := fun _ => fun
  | [d1, d2] => { results := [.lit (.bool true)], args := [d1, d2] }
  | _ => none }
def ghostNilRow : OpenClaim := { program := "ytmihfpdbaagjnaa", sum := "04e8492a994837aa0f5f16ef85adc1e505630e1191b11d3dceb8676747ef090f", func := "revenant/revenantlaw08.GhostNil", spec := "ghostNil", inPlace := ["maps.clone"], plainKeys := false, apart := false }
def GhostNilSaid : Prop := ghostNilRow.holds Try.pinned (OpenSpec.ofChange ghostNilSpec)

/-- ITS FALSE NEIGHBOUR: 'it returns false'. Refute it at one input. -/
def ghostNilWrong : ChangeSpec := { name := "ghostNil", fn := fun _ => fun
  | [d1, d2] => { results := [.lit (.bool false)], args := [d1, d2] }
  | _ => none }
def GhostNilWrongFalsely : Prop := ghostNilRow.holds Try.pinned (OpenSpec.ofChange ghostNilWrong)

/-- 'revenantlaw08.GhostErased': WHATEVER THE INPUT: true; the input reads as it did. -/
def ghostErasedSpec : ChangeSpec := { name := "ghostErased", fn := fun _ => fun
  | [d] => { results := [.lit (.bool true)], args := [d] }
  | _ => none }
def ghostErasedRow : OpenClaim := { program := "ytmihfpdbaagjnaa", sum := "04e8492a994837aa0f5f16ef85adc1e505630e1191b11d3dceb8676747ef090f", func := "revenant/revenantlaw08.GhostErased", spec := "ghostErased", inPlace := ["maps.clone"], plainKeys := false, apart := false }
def GhostErasedSaid : Prop := ghostErasedRow.holds Try.pinned (OpenSpec.ofChange ghostErasedSpec)

/-- ITS FALSE NEIGHBOUR: 'it returns false'. Refute it at one input. -/
def ghostErasedWrong : ChangeSpec := { name := "ghostErased", fn := fun _ => fun
  | [d] => { results := [.lit (.bool false)], args := [d] }
  | _ => none }
def GhostErasedWrongFalsely : Prop := ghostErasedRow.holds Try.pinned (OpenSpec.ofChange ghostErasedWrong)

/-- 'revenantlaw08.GhostFresh': WHATEVER THE INPUT: true; the input reads as it did. -/
def ghostFreshSpec : ChangeSpec := { name := "ghostFresh", fn := fun _ => fun
  | [d1, d2, d3] => { results := [.lit (.bool true)], args := [d1, d2, d3] }
  | _ => none }
def ghostFreshRow : OpenClaim := { program := "ytmihfpdbaagjnaa", sum := "04e8492a994837aa0f5f16ef85adc1e505630e1191b11d3dceb8676747ef090f", func := "revenant/revenantlaw08.GhostFresh", spec := "ghostFresh", plainKeys := false, apart := false }
def GhostFreshSaid : Prop := ghostFreshRow.holds Try.pinned (OpenSpec.ofChange ghostFreshSpec)

/-- ITS FALSE NEIGHBOUR: 'it returns false'. Refute it at one input. -/
def ghostFreshWrong : ChangeSpec := { name := "ghostFresh", fn := fun _ => fun
  | [d1, d2, d3] => { results := [.lit (.bool false)], args := [d1, d2, d3] }
  | _ => none }
def GhostFreshWrongFalsely : Prop := ghostFreshRow.holds Try.pinned (OpenSpec.ofChange ghostFreshWrong)

/- THE SECOND FORM. 'bulk': how many values and letters a reading holds, each counted each time it is reached (what is shared counts as often as it is met; a slice's spare places count too). A statement '..UptoSaid' is the law's where the arguments, and the package variables that the reading takes, are together of bulk at most 1048576: NARROWER than '..Said'. Prove '..Said' where nothing that the law and all that it calls make is longer than what came in: it says more and counts as full. Else prove '..UptoSaid'. A law counts once. -/
mutual
def uptoBulk {H : Type} : DataW H → Nat
  | .lit (.string bytes) => bytes.length + 1
  | .lit _ => 1
  | .nil => 1
  | .ptr d => uptoBulk d + 1
  | .slice elems spare => uptoBulkAll elems + uptoBulkAll spare + 1
  | .agg parts => uptoBulkAll parts + 1
  | .iface _ d => uptoBulk d + 1
  | .map entries => uptoBulkEntries entries + 1
  | .held _ => 1
def uptoBulkAll {H : Type} : List (DataW H) → Nat
  | [] => 0
  | d :: r => uptoBulk d + uptoBulkAll r
def uptoBulkEntries {H : Type} : List (Lit × DataW H) → Nat
  | [] => 0
  | x :: r => uptoBulkEntry x + uptoBulkEntries r
def uptoBulkEntry {H : Type} : Lit × DataW H → Nat
  | (.string bytes, d) => bytes.length + uptoBulk d + 1
  | (_, d) => uptoBulk d + 1
 end
def uptoSmall : (H : Type) → List (DataW H) → Bool := fun _ ds => decide (uptoBulkAll ds ≤ 1048576)
def OpenSpec.upto (s : _root_.Go.ChangeSpec) : _root_.Go.OpenSpec := { _root_.Go.OpenSpec.ofChange s with cond := some uptoSmall }

/-- 'revenantlaw08.GhostExact', WHERE WHAT IT READS IS OF BULK AT MOST 1048576: true; the input reads as it did. -/
def ghostExactUptoRow : OpenClaim := { program := "ytmihfpdbaagjnaa", sum := "04e8492a994837aa0f5f16ef85adc1e505630e1191b11d3dceb8676747ef090f", func := "revenant/revenantlaw08.GhostExact", spec := "ghostExact", plainKeys := false, apart := false, narrowed := true }
def GhostExactUptoSaid : Prop := ghostExactUptoRow.holds Try.pinned (OpenSpec.upto ghostExactSpec)

/-- 'revenantlaw08.GhostNil', WHERE WHAT IT READS IS OF BULK AT MOST 1048576: true; the input reads as it did. -/
def ghostNilUptoRow : OpenClaim := { program := "ytmihfpdbaagjnaa", sum := "04e8492a994837aa0f5f16ef85adc1e505630e1191b11d3dceb8676747ef090f", func := "revenant/revenantlaw08.GhostNil", spec := "ghostNil", inPlace := ["maps.clone"], plainKeys := false, apart := false, narrowed := true }
def GhostNilUptoSaid : Prop := ghostNilUptoRow.holds Try.pinned (OpenSpec.upto ghostNilSpec)

/-- 'revenantlaw08.GhostErased', WHERE WHAT IT READS IS OF BULK AT MOST 1048576: true; the input reads as it did. -/
def ghostErasedUptoRow : OpenClaim := { program := "ytmihfpdbaagjnaa", sum := "04e8492a994837aa0f5f16ef85adc1e505630e1191b11d3dceb8676747ef090f", func := "revenant/revenantlaw08.GhostErased", spec := "ghostErased", inPlace := ["maps.clone"], plainKeys := false, apart := false, narrowed := true }
def GhostErasedUptoSaid : Prop := ghostErasedUptoRow.holds Try.pinned (OpenSpec.upto ghostErasedSpec)

/-- 'revenantlaw08.GhostFresh', WHERE WHAT IT READS IS OF BULK AT MOST 1048576: true; the input reads as it did. -/
def ghostFreshUptoRow : OpenClaim := { program := "ytmihfpdbaagjnaa", sum := "04e8492a994837aa0f5f16ef85adc1e505630e1191b11d3dceb8676747ef090f", func := "revenant/revenantlaw08.GhostFresh", spec := "ghostFresh", plainKeys := false, apart := false, narrowed := true }
def GhostFreshUptoSaid : Prop := ghostFreshUptoRow.holds Try.pinned (OpenSpec.upto ghostFreshSpec)

end Rows
end Go.Proofs.Ytmihfpdbaagjnaa
