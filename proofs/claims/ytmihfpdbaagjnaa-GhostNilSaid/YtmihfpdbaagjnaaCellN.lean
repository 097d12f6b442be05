/- Cells that aren't there: the contracts. -/
import Derived.Test.YtmihfpdbaagjnaaChecked
import Derived.WalkKit
namespace Go.Proofs.Ytmihfpdbaagjnaa
open Go.RowKit
set_option maxRecDepth 100000

section
variable (a b d v o : Int) (w : World)
theorem box_below (w : World) (vs : List Value) (t : TypeId) : Below w.heap.size w (w.alloc (.cells vs.toArray t)) := (Below.refl _ w).alloc (Nat.le_refl _) _

theorem storeNil : Calls Try.prog 48 #[.pointer none, .agg #[.int .i64 a, .int .i64 b, .int .i64 d], .int .u64 v] w fun e w' => e = .returned (.tuple #[]) ∧ Below w.heap.size w w' := by
  go_enter Try.func48, Try.ntmps48
  go_wp2
  refine bodyPost_ret (results_none rfl _ _ _) rfl ?_
  exact ⟨rfl, box_below w [.int .i64 a, .int .i64 b, .int .i64 d] _⟩
theorem loadNil : Calls Try.prog 47 #[.pointer none, .agg #[.int .i64 a, .int .i64 b, .int .i64 d]] w fun e w' => e = .returned (.int .u64 0) ∧ Below w.heap.size w w' := by
  go_enter Try.func47, Try.ntmps47
  go_wp2
  go_ret
  exact ⟨rfl, box_below w [.int .i64 a, .int .i64 b, .int .i64 d] _⟩
theorem peekNil : Calls Try.prog 57 #[.pointer none, .agg #[.int .i64 a, .int .i64 b, .int .i64 d]] w fun e w' => e = .returned (.int .u64 0) ∧ Below w.heap.size w w' := by
  go_enter Try.func57, Try.ntmps57
  go_wp2
  go_ret
  exact ⟨rfl, box_below w [.int .i64 a, .int .i64 b, .int .i64 d] _⟩
theorem addNil : Calls Try.prog 50 #[.pointer none, .agg #[.int .i64 a, .int .i64 b, .int .i64 d], .int .u64 v] w fun e w' => e = .returned (.int .u64 0) ∧ Below w.heap.size w w' := by
  go_enter Try.func50, Try.ntmps50
  go_wp2
  go_ret
  exact ⟨rfl, box_below w [.int .i64 a, .int .i64 b, .int .i64 d] _⟩
theorem swapNil : Calls Try.prog 49 #[.pointer none, .agg #[.int .i64 a, .int .i64 b, .int .i64 d], .int .u64 o, .int .u64 v] w fun e w' => e = .returned (.bool false) ∧ Below w.heap.size w w' := by
  go_enter Try.func49, Try.ntmps49
  go_wp2
  go_ret
  exact ⟨rfl, box_below w [.int .i64 a, .int .i64 b, .int .i64 d] _⟩
theorem countNil : Calls Try.prog 53 #[.pointer none] w fun e w' => e = .returned (.agg #[.int .i64 0, .int .i64 0, .int .i64 0, .int .i64 0, .int .i64 0]) ∧ Below w.heap.size w w' := by
  go_enter Try.func53, Try.ntmps53
  go_wp2
  refine bodyPost_ret (v := .agg #[.int .i64 0, .int .i64 0, .int .i64 0, .int .i64 0, .int .i64 0]) (by simp [results, Try.results53, go_sem]) rfl ⟨rfl, ?_⟩
  exact (Below.refl _ _).alloc (Nat.le_refl _) _
theorem copyNil : Calls Try.prog 52 #[.pointer none] w fun e w' => e = .returned (.pointer none) ∧ Below w.heap.size w w' := by
  go_enter Try.func52, Try.ntmps52
  go_wp2
  go_ret
  exact ⟨rfl, Below.refl _ _⟩
end
end Go.Proofs.Ytmihfpdbaagjnaa
