/- Contracts of layer 3: the reference's functions that later layers call. -/
import Derived.Test.YtfajhblmjdjkbaaDoorConfC
namespace Go.Proofs.YtfajhblmjdjkbaaDoor
open Go.RowKit

set_option maxHeartbeats 800000 in
theorem refCheck_any (k s b h l : Int) (w : World) : Calls Tryd.prog 13 #[.agg #[.int .i64 k, .int .i64 s, .int .i64 b, .int .i64 h, .int .i64 l]] w fun e w' => e = .returned (.int .i64 (chkI k s b h l)) ∧ Below w.heap.size w w' := by
  have hF := (Fr.start w).push w.heap.size rfl [.int .i64 k, .int .i64 s, .int .i64 b, .int .i64 h, .int .i64 l] 23
  go_enter Tryd.func13, Tryd.ntmps13
  go_wp2
  all_goals
    go_ret
    (try go_light)
    (try simp only [bne_iff_ne, ne_eq, bne_eq_false_iff_eq, beq_iff_eq, beq_eq_false_iff_ne, Bool.or_eq_true, Bool.and_eq_true, decide_eq_true_eq, decide_eq_false_iff_not, Bool.or_eq_false_iff, Bool.not_eq_true', Bool.not_eq_false'] at *)
    (try subst_vars)
    refine ⟨ret_int ?_, hF.below⟩
    first
      | exact (chk_eight (by omega)).symm
      | exact (chk_zero (by omega) (by unfold Cfg; omega)).symm
      | exact (chk_three (by omega) (by unfold Cfg; omega)).symm

set_option maxHeartbeats 400000 in
theorem refRoots_any (k s b h l : Int) (w : World) : Calls Tryd.prog 14 #[.agg #[.int .i64 k, .int .i64 s, .int .i64 b, .int .i64 h, .int .i64 l]] w fun e w' => e = .returned (.int .i64 (rootsI k s b h l)) ∧ Below w.heap.size w w' := by
  have hF := (Fr.start w).push w.heap.size rfl [.int .i64 k, .int .i64 s, .int .i64 b, .int .i64 h, .int .i64 l] 23
  have r := hF.rule 0 rfl
  go_enter Tryd.func14, Tryd.ntmps14
  go_wp2_with
    (with_reducible refine (refCheck_any _ _ _ _ _ _).mono ?_; rintro e w1 ⟨rfl, hb⟩; replace hF := hF.over hb; clear hb r; have r := hF.rule 0 rfl)
  all_goals
    go_ret
    (try go_light)
    (try simp only [bne_iff_ne, ne_eq, bne_eq_false_iff_eq, beq_iff_eq, beq_eq_false_iff_ne, Bool.or_eq_true, Bool.and_eq_true, decide_eq_true_eq, decide_eq_false_iff_not, Bool.or_eq_false_iff, Bool.not_eq_true', Bool.not_eq_false'] at *)
    refine ⟨ret_int ?_, hF.below⟩
    simp_all [rootsI]
end Go.Proofs.YtfajhblmjdjkbaaDoor
