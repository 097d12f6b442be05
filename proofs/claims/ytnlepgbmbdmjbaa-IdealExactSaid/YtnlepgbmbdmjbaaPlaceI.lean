/- Contracts of layer 5: what is content. -/
import Derived.Test.YtnlepgbmbdmjbaaChecked
import Derived.Test.YtnlepgbmbdmjbaaPlaceM
import Derived.Deep.Light
import Derived.Test.YtnlepgbmbdmjbaaFr
namespace Go.Proofs.Ytnlepgbmbdmjbaa
open Go.RowKit
set_option maxRecDepth 100000

set_option maxHeartbeats 400000 in
theorem isContent_any (x y z : Int) (w : World) : Calls Try.prog 21 #[.agg #[.int .i64 x, .int .i64 y, .int .i64 z]] w fun e w' => e = .returned (.bool (contB x z)) ∧ Below w.heap.size w w' := by
  have hF := (Fr.start w).push w.heap.size rfl [.int .i64 x, .int .i64 y, .int .i64 z] 39
  go_enter Try.func21, Try.ntmps21
  go_wp2
  all_goals
    go_ret
    (try go_light)
    (try simp only [bne_iff_ne, ne_eq, bne_eq_false_iff_eq, beq_iff_eq, beq_eq_false_iff_ne, Bool.or_eq_true, Bool.and_eq_true, decide_eq_true_eq, decide_eq_false_iff_not, Bool.or_eq_false_iff, Bool.not_eq_true', Bool.not_eq_false'] at *)
    (try subst_vars)
    refine ⟨ret_bool ?_, hF.below⟩
    rw [Bool.eq_iff_iff]
    (try simp [contB])
    (try omega)
end Go.Proofs.Ytnlepgbmbdmjbaa
