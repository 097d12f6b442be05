/- Contracts of layer 5: a slot's place. -/
import Derived.Test.YtnlepgbmbdmjbaaChecked
import Derived.Test.YtnlepgbmbdmjbaaFr
namespace Go.Proofs.Ytnlepgbmbdmjbaa
open Go.RowKit
set_option maxRecDepth 100000

set_option maxHeartbeats 400000 in
theorem placeOf_any (y z : Int) (w : World) : Calls Try.prog 20 #[.int .i64 y, .int .i64 z] w fun e w' => e = .returned (.agg #[.int .i64 5, .int .i64 y, .int .i64 z]) ∧ Below w.heap.size w w' := by
  go_enter Try.func20, Try.ntmps20
  go_wp2
  exact bodyPost_ret (v := .agg #[.int .i64 5, .int .i64 y, .int .i64 z]) (by simp [results, Try.results20, go_sem]) rfl ⟨rfl, (Below.refl _ _).alloc (Nat.le_refl _) _⟩
end Go.Proofs.Ytnlepgbmbdmjbaa
