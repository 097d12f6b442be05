/- Contracts of the functions of layer 3. -/
import Derived.Test.YtmcjjkljkccgoaaChecked
import Derived.Test.YtmcjjkljkccgoaaConfM
import Derived.Test.YtmcjjkljkccgoaaFr
import Derived.Deep.Light
namespace Go.Proofs.Ytmcjjkljkccgoaa
open Go.RowKit

set_option maxHeartbeats 400000 in
theorem within_any (n lo hi : Int) (w : World) : Calls Try.prog 18 #[.int .i64 n, .int .i64 lo, .int .i64 hi] w fun e w' => e = .returned (.bool (inB n lo hi)) ∧ w = w' := by
  go_enter Try.func18, Try.ntmps18
  go_wp2
  all_goals
    go_ret
    exact ⟨ret_bool (by simp [inB]; try omega), rfl⟩

set_option maxHeartbeats 400000 in
theorem isKind_any (k : Int) (w : World) : Calls Try.prog 17 #[.int .i64 k] w fun e w' => e = .returned (.bool (kindB k)) ∧ w = w' := by
  go_enter Try.func17, Try.ntmps17
  go_wp2
  all_goals
    go_ret
    exact ⟨ret_bool (by rw [Bool.eq_iff_iff]; simp [kindB]; try omega), rfl⟩

set_option maxHeartbeats 400000 in
theorem hasBuckets_any (k s b h l : Int) (w : World) : Calls Try.prog 19 #[.agg #[.int .i64 k, .int .i64 s, .int .i64 b, .int .i64 h, .int .i64 l]] w fun e w' => e = .returned (.bool (buckB k b)) ∧ Below w.heap.size w w' := by
  have hF := (Fr.start w).push w.heap.size rfl [.int .i64 k, .int .i64 s, .int .i64 b, .int .i64 h, .int .i64 l] 23
  go_enter Try.func19, Try.ntmps19
  go_wp2_with
    (with_reducible refine (within_any _ _ _ _).mono ?_; rintro e w1 ⟨rfl, rfl⟩)
  all_goals
    go_ret
    (try go_light)
    (try simp only [bne_iff_ne, ne_eq, bne_eq_false_iff_eq, beq_iff_eq, beq_eq_false_iff_ne, Bool.or_eq_true, Bool.and_eq_true, decide_eq_true_eq, decide_eq_false_iff_not, Bool.or_eq_false_iff, Bool.not_eq_true', Bool.not_eq_false'] at *)
    refine ⟨ret_bool ?_, hF.below⟩
    rw [Bool.eq_iff_iff, buckB_iff]
    (try simp [inB])
    (try omega)

set_option maxHeartbeats 400000 in
theorem hasHeight_any (k s b h l : Int) (w : World) : Calls Try.prog 20 #[.agg #[.int .i64 k, .int .i64 s, .int .i64 b, .int .i64 h, .int .i64 l]] w fun e w' => e = .returned (.bool (highB k h)) ∧ Below w.heap.size w w' := by
  have hF := (Fr.start w).push w.heap.size rfl [.int .i64 k, .int .i64 s, .int .i64 b, .int .i64 h, .int .i64 l] 23
  go_enter Try.func20, Try.ntmps20
  go_wp2_with
    (with_reducible refine (within_any _ _ _ _).mono ?_; rintro e w1 ⟨rfl, rfl⟩)
  all_goals
    go_ret
    (try go_light)
    (try simp only [bne_iff_ne, ne_eq, bne_eq_false_iff_eq, beq_iff_eq, beq_eq_false_iff_ne, Bool.or_eq_true, Bool.and_eq_true, decide_eq_true_eq, decide_eq_false_iff_not, Bool.or_eq_false_iff, Bool.not_eq_true', Bool.not_eq_false'] at *)
    refine ⟨ret_bool ?_, hF.below⟩
    rw [Bool.eq_iff_iff, highB_iff]
    (try simp [inB])
    (try omega)

set_option maxHeartbeats 400000 in
theorem check_any (k s b h l : Int) (w : World) : Calls Try.prog 8 #[.agg #[.int .i64 k, .int .i64 s, .int .i64 b, .int .i64 h, .int .i64 l]] w fun e w' => e = .returned (.int .i64 (chkI k s b h l)) ∧ Below w.heap.size w w' := by
  have hF := (Fr.start w).push w.heap.size rfl [.int .i64 k, .int .i64 s, .int .i64 b, .int .i64 h, .int .i64 l] 23
  have r := hF.rule 0 rfl
  go_enter Try.func8, Try.ntmps8
  go_wp2_with (first
    |
      (with_reducible refine (within_any _ _ _ _).mono ?_; rintro e w1 ⟨rfl, rfl⟩)
    |
      (with_reducible refine (isKind_any _ _).mono ?_; rintro e w1 ⟨rfl, rfl⟩)
    |
      (with_reducible refine (hasBuckets_any _ _ _ _ _ _).mono ?_; rintro e w1 ⟨rfl, hb⟩; replace hF := hF.over hb; clear hb r; have r := hF.rule 0 rfl)
    |
      (with_reducible refine (hasHeight_any _ _ _ _ _ _).mono ?_; rintro e w1 ⟨rfl, hb⟩; replace hF := hF.over hb; clear hb r; have r := hF.rule 0 rfl)
    )
  all_goals
    go_ret
    (try go_light)
    (try simp only [bne_iff_ne, ne_eq, bne_eq_false_iff_eq, beq_iff_eq, beq_eq_false_iff_ne, Bool.or_eq_true, Bool.and_eq_true, decide_eq_true_eq, decide_eq_false_iff_not, Bool.or_eq_false_iff, Bool.not_eq_true', Bool.not_eq_false'] at *)
    refine ⟨ret_int ?_, hF.below⟩
    simp [chkI, *]

set_option maxHeartbeats 400000 in
theorem roots_any (k s b h l : Int) (w : World) : Calls Try.prog 9 #[.agg #[.int .i64 k, .int .i64 s, .int .i64 b, .int .i64 h, .int .i64 l]] w fun e w' => e = .returned (.int .i64 (rootsI k s b h l)) ∧ Below w.heap.size w w' := by
  have hF := (Fr.start w).push w.heap.size rfl [.int .i64 k, .int .i64 s, .int .i64 b, .int .i64 h, .int .i64 l] 23
  have r := hF.rule 0 rfl
  go_enter Try.func9, Try.ntmps9
  go_wp2_with
    (with_reducible refine (check_any _ _ _ _ _ _).mono ?_; rintro e w1 ⟨rfl, hb⟩; replace hF := hF.over hb; clear hb r; have r := hF.rule 0 rfl)
  all_goals
    go_ret
    (try go_light)
    (try simp only [bne_iff_ne, ne_eq, bne_eq_false_iff_eq, beq_iff_eq, beq_eq_false_iff_ne, Bool.or_eq_true, Bool.and_eq_true, decide_eq_true_eq, decide_eq_false_iff_not, Bool.or_eq_false_iff, Bool.not_eq_true', Bool.not_eq_false'] at *)
    refine ⟨ret_int ?_, hF.below⟩
    by_cases hc : chkI k s b h l = 0
    · have hy := chk_yes hc
      simp only [rootsI, hc, if_true]
      (try (split <;> omega))
    · simp only [rootsI, hc, if_false]
      (try (first | rfl | omega))

set_option maxHeartbeats 400000 in
theorem cells_any (k s b h l : Int) (w : World) : Calls Try.prog 14 #[.agg #[.int .i64 k, .int .i64 s, .int .i64 b, .int .i64 h, .int .i64 l]] w fun e w' => e = .returned (.int .i64 (cellsI k s b h l)) ∧ Below w.heap.size w w' := by
  have hF := (Fr.start w).push w.heap.size rfl [.int .i64 k, .int .i64 s, .int .i64 b, .int .i64 h, .int .i64 l] 23
  have r := hF.rule 0 rfl
  go_enter Try.func14, Try.ntmps14
  go_wp2_with
    (with_reducible refine (check_any _ _ _ _ _ _).mono ?_; rintro e w1 ⟨rfl, hb⟩; replace hF := hF.over hb; clear hb r; have r := hF.rule 0 rfl)
  all_goals
    go_ret
    (try go_light)
    (try simp only [bne_iff_ne, ne_eq, bne_eq_false_iff_eq, beq_iff_eq, beq_eq_false_iff_ne, Bool.or_eq_true, Bool.and_eq_true, decide_eq_true_eq, decide_eq_false_iff_not, Bool.or_eq_false_iff, Bool.not_eq_true', Bool.not_eq_false'] at *)
    refine ⟨ret_int ?_, hF.below⟩
    by_cases hc : chkI k s b h l = 0
    · have hy := chk_yes hc
      simp only [cellsI, hc, if_true]
      first | exact cell_wrap (by omega) | omega
    · simp only [cellsI, hc, if_false]
      (try (first | rfl | omega))

set_option maxHeartbeats 400000 in
theorem alone_any (k s b h l : Int) (w : World) : Calls Try.prog 15 #[.agg #[.int .i64 k, .int .i64 s, .int .i64 b, .int .i64 h, .int .i64 l]] w fun e w' => e = .returned (.int .i64 (aloneI k s b h l)) ∧ Below w.heap.size w w' := by
  have hF := (Fr.start w).push w.heap.size rfl [.int .i64 k, .int .i64 s, .int .i64 b, .int .i64 h, .int .i64 l] 23
  have r := hF.rule 0 rfl
  go_enter Try.func15, Try.ntmps15
  go_wp2_with
    (with_reducible refine (check_any _ _ _ _ _ _).mono ?_; rintro e w1 ⟨rfl, hb⟩; replace hF := hF.over hb; clear hb r; have r := hF.rule 0 rfl)
  all_goals
    go_ret
    (try go_light)
    (try simp only [bne_iff_ne, ne_eq, bne_eq_false_iff_eq, beq_iff_eq, beq_eq_false_iff_ne, Bool.or_eq_true, Bool.and_eq_true, decide_eq_true_eq, decide_eq_false_iff_not, Bool.or_eq_false_iff, Bool.not_eq_true', Bool.not_eq_false'] at *)
    refine ⟨ret_int ?_, hF.below⟩
    by_cases hc : chkI k s b h l = 0
    · have hy := chk_yes hc
      simp only [aloneI, hc, if_true]
      first | exact alone_wrap (by omega) (by omega) | omega
    · simp only [aloneI, hc, if_false]
      (try (first | rfl | omega))

set_option maxHeartbeats 400000 in
theorem isAsked_any (k o : Int) (w : World) : Calls Try.prog 21 #[.int .i64 k, .int .i64 o] w fun e w' => e = .returned (.bool (askB k o)) ∧ w = w' := by
  go_enter Try.func21, Try.ntmps21
  go_wp2
  all_goals
    go_ret
    (try go_light)
    (try simp only [bne_iff_ne, ne_eq, bne_eq_false_iff_eq, beq_iff_eq, beq_eq_false_iff_ne, Bool.or_eq_true, Bool.and_eq_true, decide_eq_true_eq, decide_eq_false_iff_not, Bool.or_eq_false_iff, Bool.not_eq_true', Bool.not_eq_false'] at *)
    refine ⟨ret_bool ?_, (by first | rfl | trivial)⟩
    rw [Bool.eq_iff_iff]
    unfold askB
    split
    · simp; try omega
    · split
      · simp; try omega
      · simp; try omega

set_option maxHeartbeats 400000 in
theorem hasVal_any (o : Int) (w : World) : Calls Try.prog 23 #[.int .i64 o] w fun e w' => e = .returned (.bool (putB o)) ∧ w = w' := by
  go_enter Try.func23, Try.ntmps23
  go_wp2
  all_goals
    go_ret
    refine ⟨ret_bool (by rw [Bool.eq_iff_iff]; simp [putB]; try omega), rfl⟩

set_option maxHeartbeats 400000 in
theorem isLevel_any (k s b h l o x v y : Int) (w : World) : Calls Try.prog 22 #[.agg #[.int .i64 k, .int .i64 s, .int .i64 b, .int .i64 h, .int .i64 l], .agg #[.int .i64 o, .int .u64 x, .int .u64 v, .int .i64 y]] w fun e w' => e = .returned (.bool (lvlB k h o y)) ∧ Below w.heap.size w w' := by
  have hF := ((Fr.start w).push w.heap.size rfl [.int .i64 k, .int .i64 s, .int .i64 b, .int .i64 h, .int .i64 l] 23).push (w.heap.size + 1) (by simp) [.int .i64 o, .int .u64 x, .int .u64 v, .int .i64 y] 26
  go_enter Try.func22, Try.ntmps22
  go_wp2_with
    (with_reducible refine (within_any _ _ _ _).mono ?_; rintro e w1 ⟨rfl, rfl⟩)
  all_goals
    go_ret
    (try go_light)
    (try simp only [bne_iff_ne, ne_eq, bne_eq_false_iff_eq, beq_iff_eq, beq_eq_false_iff_ne, Bool.or_eq_true, Bool.and_eq_true, decide_eq_true_eq, decide_eq_false_iff_not, Bool.or_eq_false_iff, Bool.not_eq_true', Bool.not_eq_false'] at *)
    (try subst_vars)
    refine ⟨ret_bool ?_, hF.below⟩
    unfold lvlB
    split
    · first | rfl | (exfalso; omega)
    · rw [Bool.eq_iff_iff]; simp; try omega

set_option maxHeartbeats 800000 in
theorem isOp_any (k s b h l o x v y : Int) (w : World) : Calls Try.prog 11 #[.agg #[.int .i64 k, .int .i64 s, .int .i64 b, .int .i64 h, .int .i64 l], .agg #[.int .i64 o, .int .u64 x, .int .u64 v, .int .i64 y]] w fun e w' => e = .returned (.int .i64 (opI k s b h l o x v y)) ∧ Below w.heap.size w w' := by
  have hF := ((Fr.start w).push w.heap.size rfl [.int .i64 k, .int .i64 s, .int .i64 b, .int .i64 h, .int .i64 l] 23).push (w.heap.size + 1) (by simp) [.int .i64 o, .int .u64 x, .int .u64 v, .int .i64 y] 26
  have r := hF.rule 0 rfl
  have q := hF.rule 1 rfl
  go_enter Try.func11, Try.ntmps11
  go_wp2_with (first
    |
      (with_reducible refine (isAsked_any _ _ _).mono ?_; rintro e w1 ⟨rfl, rfl⟩)
    |
      (with_reducible refine (hasVal_any _ _).mono ?_; rintro e w1 ⟨rfl, rfl⟩)
    |
      (with_reducible refine (check_any _ _ _ _ _ _).mono ?_; rintro e w1 ⟨rfl, hb⟩; replace hF := hF.over hb; clear hb r q; have r := hF.rule 0 rfl; have q := hF.rule 1 rfl)
    |
      (with_reducible refine (isLevel_any _ _ _ _ _ _ _ _ _ _).mono ?_; rintro e w1 ⟨rfl, hb⟩; replace hF := hF.over hb; clear hb r q; have r := hF.rule 0 rfl; have q := hF.rule 1 rfl)
    )
  all_goals
    go_ret
    (try go_light)
    (try simp only [bne_iff_ne, ne_eq, bne_eq_false_iff_eq, beq_iff_eq, beq_eq_false_iff_ne, Bool.or_eq_true, Bool.and_eq_true, decide_eq_true_eq, decide_eq_false_iff_not, Bool.or_eq_false_iff, Bool.not_eq_true', Bool.not_eq_false'] at *)
    refine ⟨ret_int ?_, hF.below⟩
    (try simp only [putB, decide_eq_true_eq] at *)
    by_cases h8 : o = 8
    · subst h8
      simp_all [opI, argB]
    · simp [opI, argB, *]
      (try omega)
end Go.Proofs.Ytmcjjkljkccgoaa
