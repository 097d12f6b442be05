/- Contracts of layer 5: numbers and places both ways. -/
import Derived.Test.YtfajhblmjdjkbaaDoorPlaceA
namespace Go.Proofs.YtfajhblmjdjkbaaDoor
open Go.RowKit

set_option maxRecDepth 100000 in
set_option maxHeartbeats 800000 in
theorem count_any (k s b h l : Int) (w : World) : Calls Tryd.prog 16 #[.agg #[.int .i64 k, .int .i64 s, .int .i64 b, .int .i64 h, .int .i64 l]] w fun e w' => e = .returned (.int .i64 (countI k s b h l)) ∧ Below w.heap.size w w' := by
  have hF := (Fr.start w).push w.heap.size rfl [.int .i64 k, .int .i64 s, .int .i64 b, .int .i64 h, .int .i64 l] 23
  have r := hF.rule 0 rfl
  by_cases hc : chkI k s b h l = 0
  · obtain ⟨d, hC, h0, h1⟩ := dim_of hc
    have HI := Lib.hid (show IntKind.i64.wrap (IntKind.i64.wrap (3 + rootsI k s b h l) + IntKind.i64.wrap (s * cellsI k s b h l)) = countI k s b h l by simp only [wrap_i]; rw [count_wrap d]; simp [countI, hc])
    have c1 : Hid (∀ v, Calls Tryd.prog 26 #[.agg #[.int .i64 k, .int .i64 s, .int .i64 b, .int .i64 h, .int .i64 l]] v fun e w' => e = .returned (.int .i64 (rootsI k s b h l)) ∧ Below v.heap.size v w') := Lib.hid fun v => roots_any k s b h l v
    have c2 : Hid (∀ v, Calls Tryd.prog 27 #[.agg #[.int .i64 k, .int .i64 s, .int .i64 b, .int .i64 h, .int .i64 l]] v fun e w' => e = .returned (.int .i64 (cellsI k s b h l)) ∧ Below v.heap.size v w') := Lib.hid fun v => cells_any k s b h l v
    have HC := Lib.hid hc
    clear hc d hC
    generalize rootsI k s b h l = R at *
    generalize cellsI k s b h l = C at *
    generalize countI k s b h l = N at *
    go_enter Tryd.func16, Tryd.ntmps16
    go_wp2_with fail
    refine (check_any _ _ _ _ _ _).mono ?_
    rintro e w1 ⟨rfl, hb⟩
    rw [HC.out]
    replace hF := hF.over hb
    clear hb r
    go_wp2_with fail
    refine wp_text (S := Fr w [(w.heap.size, [.int .i64 k, .int .i64 s, .int .i64 b, .int .i64 h, .int .i64 l])]) (by kernel_rfl) (by kernel_rfl) ?hS (fun hT => ?_)
    case hS => exact Fr.drew hF
    have hT9 := Lib.hid hT
    clear hT hF
    repeat (first
      | (refine text_value (v := ?_) hT9.out (by rfl) ?_ ?_; rotate_left; (focus (intro w5 hS; have r := hS.rule 0 rfl; go_simp <;> with_reducible rfl)); (try simp only [Act.put, List.setIfInBounds_toArray, List.set_cons_zero, List.set_cons_succ]))
      | (refine text_off hT9.out (by rfl) ?_; (try simp only [Act.put, List.setIfInBounds_toArray, List.set_cons_zero, List.set_cons_succ]))
      | (refine text_call (v := ?_) (f := ?_) (args := ?_) hT9.out (by rfl) ?_ ?_ ?_; rotate_left 3; (focus (intro w5 hS; have r := hS.rule 0 rfl; go_simp; constructor <;> with_reducible rfl)); (focus (intro w5 hS; (first | (with_reducible refine (c1.out _).mono ?_; rintro e w6 ⟨rfl, hb5⟩; constructor; with_reducible rfl; exact hS.over hb5) | (with_reducible refine (c2.out _).mono ?_; rintro e w6 ⟨rfl, hb5⟩; constructor; with_reducible rfl; exact hS.over hb5)))); (try simp only [Act.put, List.setIfInBounds_toArray, List.set_cons_zero, List.set_cons_succ])))
    refine InText.nil fun w5 hF => ?_
    clear hT9
    go_wp2_with fail
    go_ret
    exact ⟨ret_int HI.out, hF.below⟩
  · have HI := Lib.hid (show countI k s b h l = 0 by simp [countI, hc])
    have c0 : Hid (∀ v, Calls Tryd.prog 25 #[.agg #[.int .i64 k, .int .i64 s, .int .i64 b, .int .i64 h, .int .i64 l]] v fun e w' => e = .returned (.int .i64 (chkI k s b h l)) ∧ Below v.heap.size v w') := Lib.hid fun v => check_any k s b h l v
    generalize chkI k s b h l = e at *
    go_enter Tryd.func16, Tryd.ntmps16
    go_wp2_with
      (with_reducible refine (c0.out _).mono ?_; rintro e w1 ⟨rfl, hb⟩; replace hF := hF.over hb; clear hb r; have r := hF.rule 0 rfl)
    go_ret
    exact ⟨ret_int HI.out.symm, hF.below⟩

theorem placeB_no {k s b h l x y z : Int} (hc : ¬ chkI k s b h l = 0) : placeB k s b h l x y z = false ∧ placeI k s b h l x y z = 0 := by
  have e : placeB k s b h l x y z = false := by simp [placeB, hc]
  exact ⟨e, by simp [placeI, e]⟩
theorem placeB_ok {k s b h l x y z : Int} (hc : chkI k s b h l = 0) : placeB k s b h l x y z = isB (rootsI k s b h l) (cellsI k s b h l) s x y z := by simp [placeB, hc]

set_option maxRecDepth 100000 in
set_option maxHeartbeats 1600000 in
theorem number_any (k s b h l x y z : Int) (w : World) : Calls Tryd.prog 9 #[.agg #[.int .i64 k, .int .i64 s, .int .i64 b, .int .i64 h, .int .i64 l], .agg #[.int .i64 x, .int .i64 y, .int .i64 z]] w fun e w' => e = .returned (.tuple #[.int .i64 (placeI k s b h l x y z), .bool (placeB k s b h l x y z)]) ∧ Below w.heap.size w w' := by
  have hF := ((Fr.start w).push w.heap.size rfl [.int .i64 k, .int .i64 s, .int .i64 b, .int .i64 h, .int .i64 l] 23).push (w.heap.size + 1) (by simp) [.int .i64 x, .int .i64 y, .int .i64 z] 25
  have r := hF.rule 0 rfl
  have q := hF.rule 1 rfl
  by_cases hc : chkI k s b h l = 0
  · obtain ⟨d, hC, h0, h1⟩ := dim_of hc
    have HB := Lib.hid (placeB_ok (x := x) (y := y) (z := z) hc)
    have HI := Lib.hid (show placeI k s b h l x y z = if isB (rootsI k s b h l) (cellsI k s b h l) s x y z then numI (rootsI k s b h l) (cellsI k s b h l) x y z else 0 by unfold placeI; rw [placeB_ok hc])
    have c1 : Hid (∀ v, Calls Tryd.prog 26 #[.agg #[.int .i64 k, .int .i64 s, .int .i64 b, .int .i64 h, .int .i64 l]] v fun e w' => e = .returned (.int .i64 (rootsI k s b h l)) ∧ Below v.heap.size v w') := Lib.hid fun v => roots_any k s b h l v
    have c2 : Hid (∀ v, Calls Tryd.prog 27 #[.agg #[.int .i64 k, .int .i64 s, .int .i64 b, .int .i64 h, .int .i64 l]] v fun e w' => e = .returned (.int .i64 (cellsI k s b h l)) ∧ Below v.heap.size v w') := Lib.hid fun v => cells_any k s b h l v
    have HC := Lib.hid hc
    have HD := Lib.hid d
    clear hc d hC
    generalize placeI k s b h l x y z = PI at *
    generalize placeB k s b h l x y z = PB at *
    generalize rootsI k s b h l = R at *
    generalize cellsI k s b h l = C at *
    go_enter Tryd.func9, Tryd.ntmps9
    go_wp2_with fail
    refine (check_any _ _ _ _ _ _).mono ?_
    rintro e w1 ⟨rfl, hb⟩
    rw [HC.out]
    replace hF := hF.over hb
    clear hb r q
    go_wp2_with fail
    refine wp_text (S := Fr w [(w.heap.size + 1, [.int .i64 x, .int .i64 y, .int .i64 z]), (w.heap.size, [.int .i64 k, .int .i64 s, .int .i64 b, .int .i64 h, .int .i64 l])]) (by kernel_rfl) (by kernel_rfl) ?hS (fun hT => ?_)
    case hS => exact Fr.drew hF
    have hT9 := Lib.hid hT
    clear hT hF
    repeat (first
      | (refine text_value (v := ?_) hT9.out (by rfl) ?_ ?_; rotate_left; (focus (intro w5 hS; have r := hS.rule 0 rfl; have q := hS.rule 1 rfl; go_simp <;> with_reducible rfl)); (try simp only [Act.put, List.setIfInBounds_toArray, List.set_cons_zero, List.set_cons_succ]))
      | (refine text_off hT9.out (by rfl) ?_; (try simp only [Act.put, List.setIfInBounds_toArray, List.set_cons_zero, List.set_cons_succ]))
      | (refine text_call (v := ?_) (f := ?_) (args := ?_) hT9.out (by rfl) ?_ ?_ ?_; rotate_left 3; (focus (intro w5 hS; have r := hS.rule 0 rfl; have q := hS.rule 1 rfl; go_simp; constructor <;> with_reducible rfl)); (focus (intro w5 hS; (first | (with_reducible refine (c1.out _).mono ?_; rintro e w6 ⟨rfl, hb5⟩; constructor; with_reducible rfl; exact hS.over hb5) | (with_reducible refine (c2.out _).mono ?_; rintro e w6 ⟨rfl, hb5⟩; constructor; with_reducible rfl; exact hS.over hb5)))); (try simp only [Act.put, List.setIfInBounds_toArray, List.set_cons_zero, List.set_cons_succ])))
    refine InText.nil fun w5 hF => ?_
    clear hT9
    clear c1 c2
    have r := hF.rule 0 rfl
    have q := hF.rule 1 rfl
    go_wp2_with (first
      |
        (with_reducible refine (isSingle_any _ _ _ _).mono ?_; rintro e w1 ⟨rfl, hb⟩; replace hF := hF.over hb; clear hb r q; have r := hF.rule 0 rfl; have q := hF.rule 1 rfl)
      |
        (with_reducible refine (isRoot_any _ _ _ _).mono ?_; rintro e w1 ⟨rfl, hb⟩; replace hF := hF.over hb; clear hb r q; have r := hF.rule 0 rfl; have q := hF.rule 1 rfl)
      |
        (with_reducible refine (isCell_any _ _ _ _).mono ?_; rintro e w1 ⟨rfl, hb⟩; replace hF := hF.over hb; clear hb r q; have r := hF.rule 0 rfl; have q := hF.rule 1 rfl)
      )
    all_goals
      go_ret2
      (try go_light)
      (try simp only [bne_iff_ne, ne_eq, bne_eq_false_iff_eq, beq_iff_eq, beq_eq_false_iff_ne, Bool.or_eq_true, Bool.and_eq_true, decide_eq_true_eq, decide_eq_false_iff_not, Bool.or_eq_false_iff, Bool.not_eq_true', Bool.not_eq_false'] at *)
      have hd := HD.out
      have hb := hF.below
      rw [HI.out, HB.out]
      clear HI HB HC HD hF r q
      first
        | (obtain ⟨e1, e2⟩ := is_sing (R := R) (C := C) (S := s) (show singB x y z = true by assumption); rw [e1, if_pos rfl]; exact ⟨ret_pair e2 rfl, hb⟩)
        | (obtain ⟨e1, e2⟩ := is_root hd (show rootB x y z = true by assumption) (by assumption); rw [e1, if_pos rfl]; exact ⟨ret_pair e2 rfl, hb⟩)
        | (obtain ⟨e1, e2⟩ := is_cell hd (show cellB x y z = true by assumption) (by assumption) (by assumption); rw [e1, if_pos rfl]; exact ⟨ret_pair e2 rfl, hb⟩)
        | (have e1 := is_none (R := R) (C := C) (S := s) (show singB x y z = false by assumption) (by first | exact .inl (by assumption) | exact .inl (Bool.eq_false_iff.2 (by assumption)) | exact .inr (by assumption)) (by first | exact .inl (by assumption) | exact .inl (Bool.eq_false_iff.2 (by assumption)) | exact .inr (.inl (by assumption)) | exact .inr (.inr (by assumption))); rw [e1, if_neg (by simp)]; exact ⟨rfl, hb⟩)
  · obtain ⟨e1, e2⟩ := placeB_no (x := x) (y := y) (z := z) hc
    rw [e1, e2]
    clear e1 e2
    have c0 : Hid (∀ v, Calls Tryd.prog 25 #[.agg #[.int .i64 k, .int .i64 s, .int .i64 b, .int .i64 h, .int .i64 l]] v fun e w' => e = .returned (.int .i64 (chkI k s b h l)) ∧ Below v.heap.size v w') := Lib.hid fun v => check_any k s b h l v
    generalize chkI k s b h l = e at *
    go_enter Tryd.func9, Tryd.ntmps9
    go_wp2_with
      (with_reducible refine (c0.out _).mono ?_; rintro e w1 ⟨rfl, hb⟩; replace hF := hF.over hb; clear hb r q; have r := hF.rule 0 rfl; have q := hF.rule 1 rfl)
    go_ret2
    exact ⟨rfl, hF.below⟩

set_option maxHeartbeats 400000 in
theorem is_any (k s b h l x y z : Int) (w : World) : Calls Tryd.prog 10 #[.agg #[.int .i64 k, .int .i64 s, .int .i64 b, .int .i64 h, .int .i64 l], .agg #[.int .i64 x, .int .i64 y, .int .i64 z]] w fun e w' => e = .returned (.bool (placeB k s b h l x y z)) ∧ Below w.heap.size w w' := by
  have hF := ((Fr.start w).push w.heap.size rfl [.int .i64 k, .int .i64 s, .int .i64 b, .int .i64 h, .int .i64 l] 23).push (w.heap.size + 1) (by simp) [.int .i64 x, .int .i64 y, .int .i64 z] 25
  have r := hF.rule 0 rfl
  have q := hF.rule 1 rfl
  go_enter Tryd.func10, Tryd.ntmps10
  go_wp2_with
    (with_reducible refine (number_any _ _ _ _ _ _ _ _ _).mono ?_; rintro e w1 ⟨rfl, hb⟩; replace hF := hF.over hb; clear hb r q; have r := hF.rule 0 rfl; have q := hF.rule 1 rfl)
  go_ret
  exact ⟨rfl, hF.below⟩
end Go.Proofs.YtfajhblmjdjkbaaDoor
