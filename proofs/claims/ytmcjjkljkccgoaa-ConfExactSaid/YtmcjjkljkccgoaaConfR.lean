/- Contracts of layer 3: the reference's functions. -/
import Derived.Test.YtmcjjkljkccgoaaConfA
namespace Go.Proofs.Ytmcjjkljkccgoaa
open Go.RowKit

set_option maxHeartbeats 800000 in
theorem refCheck_any (k s b h l : Int) (w : World) : Calls Try.prog 7 #[.agg #[.int .i64 k, .int .i64 s, .int .i64 b, .int .i64 h, .int .i64 l]] w fun e w' => e = .returned (.int .i64 (chkI k s b h l)) ∧ Below w.heap.size w w' := by
  have hF := (Fr.start w).push w.heap.size rfl [.int .i64 k, .int .i64 s, .int .i64 b, .int .i64 h, .int .i64 l] 23
  go_enter Try.func7, Try.ntmps7
  go_wp2
  all_goals
    go_ret
    (try go_light)
    (try simp only [bne_iff_ne, ne_eq, bne_eq_false_iff_eq, beq_iff_eq, beq_eq_false_iff_ne, Bool.or_eq_true, Bool.and_eq_true, decide_eq_true_eq, decide_eq_false_iff_not, Bool.or_eq_false_iff, Bool.not_eq_true', Bool.not_eq_false'] at *)
    (try subst_vars)
    refine ⟨ret_int ?_, hF.below⟩
    first
      | exact (chk_eight (by omega)).symm
      | exact (chk_zero (by omega) (by unfold Cfg; omega)).symm
      | exact (chk_three (by omega) (by unfold Cfg; omega)).symm

set_option maxHeartbeats 400000 in
theorem refRoots_any (k s b h l : Int) (w : World) : Calls Try.prog 10 #[.agg #[.int .i64 k, .int .i64 s, .int .i64 b, .int .i64 h, .int .i64 l]] w fun e w' => e = .returned (.int .i64 (rootsI k s b h l)) ∧ Below w.heap.size w w' := by
  have hF := (Fr.start w).push w.heap.size rfl [.int .i64 k, .int .i64 s, .int .i64 b, .int .i64 h, .int .i64 l] 23
  have r := hF.rule 0 rfl
  go_enter Try.func10, Try.ntmps10
  go_wp2_with
    (with_reducible refine (refCheck_any _ _ _ _ _ _).mono ?_; rintro e w1 ⟨rfl, hb⟩; replace hF := hF.over hb; clear hb r; have r := hF.rule 0 rfl)
  all_goals
    go_ret
    (try go_light)
    (try simp only [bne_iff_ne, ne_eq, bne_eq_false_iff_eq, beq_iff_eq, beq_eq_false_iff_ne, Bool.or_eq_true, Bool.and_eq_true, decide_eq_true_eq, decide_eq_false_iff_not, Bool.or_eq_false_iff, Bool.not_eq_true', Bool.not_eq_false'] at *)
    refine ⟨ret_int ?_, hF.below⟩
    simp_all [rootsI]

set_option maxHeartbeats 3200000 in
theorem refOp_any (k s b h l o x v y : Int) (w : World) : Calls Try.prog 12 #[.agg #[.int .i64 k, .int .i64 s, .int .i64 b, .int .i64 h, .int .i64 l], .agg #[.int .i64 o, .int .u64 x, .int .u64 v, .int .i64 y]] w fun e w' => e = .returned (.int .i64 (opI k s b h l o x v y)) ∧ Below w.heap.size w w' := by
  by_cases hc : chkI k s b h l = 0
  · have hk := (chk_yes hc).1
    have hh := (chk_yes hc).2.2.2.2
    have HC := Lib.hid hc
    clear hc
    have hF := ((Fr.start w).push w.heap.size rfl [.int .i64 k, .int .i64 s, .int .i64 b, .int .i64 h, .int .i64 l] 23).push (w.heap.size + 1) (by simp) [.int .i64 o, .int .u64 x, .int .u64 v, .int .i64 y] 26
    obtain rfl | rfl | rfl : k = 1 ∨ k = 2 ∨ k = 3 := by omega
    all_goals
      clear hk
      have r := hF.rule 0 rfl
      have q := hF.rule 1 rfl
      go_enter Try.func12, Try.ntmps12
      go_wp2_with (with_reducible refine (refCheck_any _ _ _ _ _ _).mono ?_; rintro e w1 ⟨rfl, hb⟩; rw [HC.out]; replace hF := hF.over hb; clear hb r q; have r := hF.rule 0 rfl; have q := hF.rule 1 rfl)
      all_goals
        go_ret
        (try go_light)
        (try simp only [bne_iff_ne, ne_eq, bne_eq_false_iff_eq, beq_iff_eq, beq_eq_false_iff_ne, Bool.or_eq_true, Bool.and_eq_true, decide_eq_true_eq, decide_eq_false_iff_not, Bool.or_eq_false_iff, Bool.not_eq_true', Bool.not_eq_false'] at *)
        refine ⟨ret_int ?_, hF.below⟩
        have hc := HC.out
        clear HC hF r q
        simp only [opI, hc, if_true, askB, lvlB, argB, inB, decide_eq_true_eq]
        repeat' (first | omega | (simp only [decide_eq_true_eq] at *; omega) | (exfalso; simp at *; done) | (exfalso; simp at *; omega) | split)
  · have HO := Lib.hid (show opI k s b h l o x v y = chkI k s b h l by simp [opI, hc])
    have hF := ((Fr.start w).push w.heap.size rfl [.int .i64 k, .int .i64 s, .int .i64 b, .int .i64 h, .int .i64 l] 23).push (w.heap.size + 1) (by simp) [.int .i64 o, .int .u64 x, .int .u64 v, .int .i64 y] 26
    have r := hF.rule 0 rfl
    have q := hF.rule 1 rfl
    go_enter Try.func12, Try.ntmps12
    go_wp2_with
      (with_reducible refine (refCheck_any _ _ _ _ _ _).mono ?_; rintro e w1 ⟨rfl, hb⟩; replace hF := hF.over hb; clear hb r q; have r := hF.rule 0 rfl; have q := hF.rule 1 rfl)
    go_ret
    exact ⟨ret_int HO.out.symm, hF.below⟩
end Go.Proofs.Ytmcjjkljkccgoaa
