/- Cells that aren't there: the contracts. -/
import Derived.Test.YtnohfcikedhhgaaChecked
import Derived.WalkKit
namespace Go.Proofs.Ytnohfcikedhhgaa
open Go.RowKit
set_option maxRecDepth 100000

section
variable (a b d v o : Int) (w : World)
theorem box_below (w : World) (vs : List Value) (t : TypeId) : Below w.heap.size w (w.alloc (.cells vs.toArray t)) := (Below.refl _ w).alloc (Nat.le_refl _) _

theorem storeNil : Calls Try.prog 29 #[.pointer none, .agg #[.int .i64 a, .int .i64 b, .int .i64 d], .int .u64 v] w fun e w' => e = .returned (.tuple #[]) ∧ Below w.heap.size w w' := by
  go_enter Try.func29, Try.ntmps29
  go_wp2
  refine bodyPost_ret (results_none rfl _ _ _) rfl ?_
  exact ⟨rfl, box_below w [.int .i64 a, .int .i64 b, .int .i64 d] _⟩
theorem loadNil : Calls Try.prog 28 #[.pointer none, .agg #[.int .i64 a, .int .i64 b, .int .i64 d]] w fun e w' => e = .returned (.int .u64 0) ∧ Below w.heap.size w w' := by
  go_enter Try.func28, Try.ntmps28
  go_wp2
  go_ret
  exact ⟨rfl, box_below w [.int .i64 a, .int .i64 b, .int .i64 d] _⟩
theorem peekNil : Calls Try.prog 32 #[.pointer none, .agg #[.int .i64 a, .int .i64 b, .int .i64 d]] w fun e w' => e = .returned (.int .u64 0) ∧ Below w.heap.size w w' := by
  go_enter Try.func32, Try.ntmps32
  go_wp2
  go_ret
  exact ⟨rfl, box_below w [.int .i64 a, .int .i64 b, .int .i64 d] _⟩
theorem addNil : Calls Try.prog 31 #[.pointer none, .agg #[.int .i64 a, .int .i64 b, .int .i64 d], .int .u64 v] w fun e w' => e = .returned (.int .u64 0) ∧ Below w.heap.size w w' := by
  go_enter Try.func31, Try.ntmps31
  go_wp2
  go_ret
  exact ⟨rfl, box_below w [.int .i64 a, .int .i64 b, .int .i64 d] _⟩
theorem swapNil : Calls Try.prog 30 #[.pointer none, .agg #[.int .i64 a, .int .i64 b, .int .i64 d], .int .u64 o, .int .u64 v] w fun e w' => e = .returned (.bool false) ∧ Below w.heap.size w w' := by
  go_enter Try.func30, Try.ntmps30
  go_wp2
  go_ret
  exact ⟨rfl, box_below w [.int .i64 a, .int .i64 b, .int .i64 d] _⟩
theorem countNil : Calls Try.prog 33 #[.pointer none] w fun e w' => e = .returned (.agg #[.int .i64 0, .int .i64 0, .int .i64 0, .int .i64 0, .int .i64 0]) ∧ Below w.heap.size w w' := by
  go_enter Try.func33, Try.ntmps33
  go_wp2
  refine bodyPost_ret (v := .agg #[.int .i64 0, .int .i64 0, .int .i64 0, .int .i64 0, .int .i64 0]) (by simp [results, Try.results33, go_sem]) rfl ⟨rfl, ?_⟩
  exact (Below.refl _ _).alloc (Nat.le_refl _) _
theorem copyNil : Calls Try.prog 34 #[.pointer none] w fun e w' => e = .returned (.pointer none) ∧ Below w.heap.size w w' := by
  go_enter Try.func34, Try.ntmps34
  go_wp2
  go_ret
  exact ⟨rfl, Below.refl _ _⟩
end
end Go.Proofs.Ytnohfcikedhhgaa
