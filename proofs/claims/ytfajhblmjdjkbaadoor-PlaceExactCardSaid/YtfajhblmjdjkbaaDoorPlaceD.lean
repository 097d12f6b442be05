/- Contracts of layer 5: the reference's functions. -/
import Derived.Test.YtfajhblmjdjkbaaDoorPlaceC
import Derived.Test.YtfajhblmjdjkbaaDoorConfD
namespace Go.Proofs.YtfajhblmjdjkbaaDoor
open Go.RowKit

set_option maxRecDepth 100000 in
set_option maxHeartbeats 1600000 in
theorem refIs_any (k s b h l x y z : Int) (w : World) : Calls Tryd.prog 8 #[.agg #[.int .i64 k, .int .i64 s, .int .i64 b, .int .i64 h, .int .i64 l], .agg #[.int .i64 x, .int .i64 y, .int .i64 z]] w fun e w' => e = .returned (.bool (placeB k s b h l x y z)) ∧ Below w.heap.size w w' := by
  have hF := ((Fr.start w).push w.heap.size rfl [.int .i64 k, .int .i64 s, .int .i64 b, .int .i64 h, .int .i64 l] 23).push (w.heap.size + 1) (by simp) [.int .i64 x, .int .i64 y, .int .i64 z] 25
  have r := hF.rule 0 rfl
  have q := hF.rule 1 rfl
  by_cases hc : chkI k s b h l = 0
  · obtain ⟨d, hC, h0, h1⟩ := dim_of hc
    rw [placeB_ok hc]
    have c1 : Hid (∀ v, Calls Tryd.prog 14 #[.agg #[.int .i64 k, .int .i64 s, .int .i64 b, .int .i64 h, .int .i64 l]] v fun e w' => e = .returned (.int .i64 (rootsI k s b h l)) ∧ Below v.heap.size v w') := Lib.hid fun v => refRoots_any k s b h l v
    have HC := Lib.hid hc
    rw [hC]
    clear hc d hC
    generalize rootsI k s b h l = R at *
    by_cases hx : x = 4
    · subst hx
      by_cases hy : y = 0
      · subst hy
        by_cases hz : 0 ≤ z
        · have hdz : decide (0 ≤ z) = true := by simpa using hz
          have HB := Lib.hid (show isB R (7 + h) s 4 0 z = decide (z < R) by rw [Bool.eq_iff_iff, isB_iff, decide_eq_true_iff]; omega)
          go_enter Tryd.func8, Tryd.ntmps8
          go_wp2_with fail
          refine (refCheck_any _ _ _ _ _ _).mono ?_
          rintro e w1 ⟨rfl, hb⟩
          rw [HC.out]
          replace hF := hF.over hb
          clear hb r q
          have r := hF.rule 0 rfl
          go_wp2_with fail
          clear r
          refine wp_text (S := Fr w [(w.heap.size + 1, [.int .i64 4, .int .i64 0, .int .i64 z]), (w.heap.size, [.int .i64 k, .int .i64 s, .int .i64 b, .int .i64 h, .int .i64 l])]) (by kernel_rfl) (by kernel_rfl) ?hS (fun hT => ?_)
          case hS => exact Fr.drew hF
          have hT9 := Lib.hid hT
          clear hT hF
          repeat (first
            | (refine text_value (v := ?_) hT9.out (by rfl) ?_ ?_; rotate_left; (focus (intro w5 hS; have r := hS.rule 0 rfl; have q := hS.rule 1 rfl; go_simp <;> with_reducible rfl)); (try simp only [Act.put, List.setIfInBounds_toArray, List.set_cons_zero, List.set_cons_succ]))
            | (refine text_off hT9.out (by rfl) ?_; (try simp only [Act.put, List.setIfInBounds_toArray, List.set_cons_zero, List.set_cons_succ]))
            | (refine text_call (v := ?_) (f := ?_) (args := ?_) hT9.out (by rfl) ?_ ?_ ?_; rotate_left 3; (focus (intro w5 hS; have r := hS.rule 0 rfl; have q := hS.rule 1 rfl; go_simp; constructor <;> with_reducible rfl)); (focus (intro w5 hS; (first | (with_reducible refine (c1.out _).mono ?_; rintro e w6 ⟨rfl, hb5⟩; constructor; with_reducible rfl; exact hS.over hb5)))); (try simp only [Act.put, List.setIfInBounds_toArray, List.set_cons_zero, List.set_cons_succ])))
          refine InText.nil fun w5 hF => ?_
          clear hT9
          go_wp2_with fail
          go_ret
          exact ⟨ret_bool HB.out.symm, hF.below⟩
        · have hdz : decide (0 ≤ z) = false := by simpa using hz
          have HB := Lib.hid (show isB R (7 + h) s 4 0 z = false by rw [Bool.eq_false_iff, ne_eq, isB_iff]; omega)
          go_enter Tryd.func8, Tryd.ntmps8
          go_wp2_with fail
          refine (refCheck_any _ _ _ _ _ _).mono ?_
          rintro e w1 ⟨rfl, hb⟩
          rw [HC.out]
          replace hF := hF.over hb
          clear hb r q
          have r := hF.rule 0 rfl
          go_wp2_with fail
          clear r
          refine wp_text (S := Fr w [(w.heap.size + 1, [.int .i64 4, .int .i64 0, .int .i64 z]), (w.heap.size, [.int .i64 k, .int .i64 s, .int .i64 b, .int .i64 h, .int .i64 l])]) (by kernel_rfl) (by kernel_rfl) ?hS (fun hT => ?_)
          case hS => exact Fr.drew hF
          have hT9 := Lib.hid hT
          clear hT hF
          repeat (first
            | (refine text_value (v := ?_) hT9.out (by rfl) ?_ ?_; rotate_left; (focus (intro w5 hS; have r := hS.rule 0 rfl; have q := hS.rule 1 rfl; go_simp <;> with_reducible rfl)); (try simp only [Act.put, List.setIfInBounds_toArray, List.set_cons_zero, List.set_cons_succ]))
            | (refine text_off hT9.out (by rfl) ?_; (try simp only [Act.put, List.setIfInBounds_toArray, List.set_cons_zero, List.set_cons_succ]))
            | (refine text_call (v := ?_) (f := ?_) (args := ?_) hT9.out (by rfl) ?_ ?_ ?_; rotate_left 3; (focus (intro w5 hS; have r := hS.rule 0 rfl; have q := hS.rule 1 rfl; go_simp; constructor <;> with_reducible rfl)); (focus (intro w5 hS; (first | (with_reducible refine (c1.out _).mono ?_; rintro e w6 ⟨rfl, hb5⟩; constructor; with_reducible rfl; exact hS.over hb5)))); (try simp only [Act.put, List.setIfInBounds_toArray, List.set_cons_zero, List.set_cons_succ])))
          refine InText.nil fun w5 hF => ?_
          clear hT9
          go_wp2_with fail
          go_ret
          exact ⟨ret_bool HB.out.symm, hF.below⟩
      · have hdy : (y == 0) = false := by simpa using hy
        have HB := Lib.hid (show isB R (7 + h) s 4 y z = false by rw [Bool.eq_false_iff, ne_eq, isB_iff]; omega)
        go_enter Tryd.func8, Tryd.ntmps8
        go_wp2_with fail
        refine (refCheck_any _ _ _ _ _ _).mono ?_
        rintro e w1 ⟨rfl, hb⟩
        rw [HC.out]
        replace hF := hF.over hb
        clear hb r q
        have r := hF.rule 0 rfl
        go_wp2_with fail
        clear r
        refine wp_text (S := Fr w [(w.heap.size + 1, [.int .i64 4, .int .i64 y, .int .i64 z]), (w.heap.size, [.int .i64 k, .int .i64 s, .int .i64 b, .int .i64 h, .int .i64 l])]) (by kernel_rfl) (by kernel_rfl) ?hS (fun hT => ?_)
        case hS => exact Fr.drew hF
        have hT9 := Lib.hid hT
        clear hT hF
        repeat (first
          | (refine text_value (v := ?_) hT9.out (by rfl) ?_ ?_; rotate_left; (focus (intro w5 hS; have r := hS.rule 0 rfl; have q := hS.rule 1 rfl; go_simp <;> with_reducible rfl)); (try simp only [Act.put, List.setIfInBounds_toArray, List.set_cons_zero, List.set_cons_succ]))
          | (refine text_off hT9.out (by rfl) ?_; (try simp only [Act.put, List.setIfInBounds_toArray, List.set_cons_zero, List.set_cons_succ]))
          | (refine text_call (v := ?_) (f := ?_) (args := ?_) hT9.out (by rfl) ?_ ?_ ?_; rotate_left 3; (focus (intro w5 hS; have r := hS.rule 0 rfl; have q := hS.rule 1 rfl; go_simp; constructor <;> with_reducible rfl)); (focus (intro w5 hS; (first | (with_reducible refine (c1.out _).mono ?_; rintro e w6 ⟨rfl, hb5⟩; constructor; with_reducible rfl; exact hS.over hb5)))); (try simp only [Act.put, List.setIfInBounds_toArray, List.set_cons_zero, List.set_cons_succ])))
        refine InText.nil fun w5 hF => ?_
        clear hT9
        go_wp2_with fail
        go_ret
        exact ⟨ret_bool HB.out.symm, hF.below⟩
    · have hd4 : decide (x = 4) = false := by simpa using hx
      have HW := Lib.hid (cell_wrap (h := h) (by omega))
      clear c1
      go_enter Tryd.func8, Tryd.ntmps8
      go_wp2_with (with_reducible refine (refCheck_any _ _ _ _ _ _).mono ?_; rintro e w1 ⟨rfl, hb⟩; rw [HC.out]; replace hF := hF.over hb; clear hb r q; have r := hF.rule 0 rfl; have q := hF.rule 1 rfl)
      all_goals
        go_ret
        (try go_light)
        (try simp only [bne_iff_ne, ne_eq, bne_eq_false_iff_eq, beq_iff_eq, beq_eq_false_iff_ne, Bool.or_eq_true, Bool.and_eq_true, decide_eq_true_eq, decide_eq_false_iff_not, Bool.or_eq_false_iff, Bool.not_eq_true', Bool.not_eq_false'] at *)
        refine ⟨ret_bool ?_, (by first | exact hF.below | (subst_vars; exact hF.below))⟩
        (try rw [HW.out])
        clear HC HW hF r q
        (try subst_vars)
        rw [Bool.eq_iff_iff, isB_iff]
        (try simp)
        (try omega)
  · obtain ⟨e1, e2⟩ := placeB_no (x := x) (y := y) (z := z) hc
    rw [e1]
    clear e1 e2
    have c0 : Hid (∀ v, Calls Tryd.prog 13 #[.agg #[.int .i64 k, .int .i64 s, .int .i64 b, .int .i64 h, .int .i64 l]] v fun e w' => e = .returned (.int .i64 (chkI k s b h l)) ∧ Below v.heap.size v w') := Lib.hid fun v => refCheck_any k s b h l v
    generalize chkI k s b h l = e at *
    go_enter Tryd.func8, Tryd.ntmps8
    go_wp2_with
      (with_reducible refine (c0.out _).mono ?_; rintro e w1 ⟨rfl, hb⟩; replace hF := hF.over hb; clear hb r q; have r := hF.rule 0 rfl; have q := hF.rule 1 rfl)
    go_ret
    exact ⟨rfl, hF.below⟩

set_option maxRecDepth 100000 in
set_option maxHeartbeats 1600000 in
theorem refNumber_any (k s b h l x y z : Int) (hp : placeB k s b h l x y z = true) (w : World) : Calls Tryd.prog 11 #[.agg #[.int .i64 k, .int .i64 s, .int .i64 b, .int .i64 h, .int .i64 l], .agg #[.int .i64 x, .int .i64 y, .int .i64 z]] w fun e w' => e = .returned (.int .i64 (placeI k s b h l x y z)) ∧ Below w.heap.size w w' := by
  have hF := ((Fr.start w).push w.heap.size rfl [.int .i64 k, .int .i64 s, .int .i64 b, .int .i64 h, .int .i64 l] 23).push (w.heap.size + 1) (by simp) [.int .i64 x, .int .i64 y, .int .i64 z] 25
  have hc : chkI k s b h l = 0 := by
    by_cases hc : chkI k s b h l = 0
    · exact hc
    · rw [(placeB_no hc).1] at hp; cases hp
  obtain ⟨d, hC, h0, h1⟩ := dim_of hc
  have hI : placeI k s b h l x y z = numI (rootsI k s b h l) (cellsI k s b h l) x y z := by unfold placeI; rw [hp]; rfl
  rw [hI]
  rw [placeB_ok hc, isB_iff] at hp
  have c1 : Hid (∀ v, Calls Tryd.prog 14 #[.agg #[.int .i64 k, .int .i64 s, .int .i64 b, .int .i64 h, .int .i64 l]] v fun e w' => e = .returned (.int .i64 (rootsI k s b h l)) ∧ Below v.heap.size v w') := Lib.hid fun v => refRoots_any k s b h l v
  clear hc hI
  generalize rootsI k s b h l = R at *
  rw [hC] at hp d ⊢
  clear hC
  rcases hp with ⟨h2, h3, rfl, rfl⟩ | ⟨rfl, rfl, h2, h3⟩ | ⟨rfl, h2, h3, h4, h5⟩
  · have HI := Lib.hid (show wrap64 (x - 1) = numI R (7 + h) x 0 0 by unfold numI; rw [if_pos h3]; exact w64 _ (by omega))
    have hd4 : decide (x < 4) = true := by simp; omega
    have hlt : x < 4 := by omega
    clear c1 d
    go_enter Tryd.func11, Tryd.ntmps11
    go_wp2
    go_ret
    exact ⟨ret_int (by rw [← HI.out, w64 _ (by omega)]), hF.below⟩
  · have HI := Lib.hid (show wrap64 (3 + z) = numI R (7 + h) 4 0 z by unfold numI; rw [if_neg (by omega), if_pos rfl]; exact w64 _ (by have := d.r1; omega))
    clear c1 d
    go_enter Tryd.func11, Tryd.ntmps11
    go_wp2
    go_ret
    exact ⟨ret_int HI.out, hF.below⟩
  · have HI := Lib.hid (show IntKind.i64.wrap (IntKind.i64.wrap (IntKind.i64.wrap (3 + R) + IntKind.i64.wrap (IntKind.i64.wrap (y - 1) * IntKind.i64.wrap (7 + h))) + z) = numI R (7 + h) 5 y z by
      simp only [wrap_i]
      rw [cell_wrap (by omega), num_wrap d h2 h3 h4 h5]
      unfold numI
      rw [if_neg (by omega), if_neg (by omega)])
    have r := hF.rule 0 rfl
    have q := hF.rule 1 rfl
    clear d
    go_enter Tryd.func11, Tryd.ntmps11
    go_wp2_with fail
    clear r q
    refine wp_text (S := Fr w [(w.heap.size + 1, [.int .i64 5, .int .i64 y, .int .i64 z]), (w.heap.size, [.int .i64 k, .int .i64 s, .int .i64 b, .int .i64 h, .int .i64 l])]) (by kernel_rfl) (by kernel_rfl) ?hS (fun hT => ?_)
    case hS => exact Fr.drew hF
    have hT9 := Lib.hid hT
    clear hT hF
    repeat (first
      | (refine text_value (v := ?_) hT9.out (by rfl) ?_ ?_; rotate_left; (focus (intro w5 hS; have r := hS.rule 0 rfl; have q := hS.rule 1 rfl; go_simp <;> with_reducible rfl)); (try simp only [Act.put, List.setIfInBounds_toArray, List.set_cons_zero, List.set_cons_succ]))
      | (refine text_off hT9.out (by rfl) ?_; (try simp only [Act.put, List.setIfInBounds_toArray, List.set_cons_zero, List.set_cons_succ]))
      | (refine text_call (v := ?_) (f := ?_) (args := ?_) hT9.out (by rfl) ?_ ?_ ?_; rotate_left 3; (focus (intro w5 hS; have r := hS.rule 0 rfl; have q := hS.rule 1 rfl; go_simp; constructor <;> with_reducible rfl)); (focus (intro w5 hS; (first | (with_reducible refine (c1.out _).mono ?_; rintro e w6 ⟨rfl, hb5⟩; constructor; with_reducible rfl; exact hS.over hb5)))); (try simp only [Act.put, List.setIfInBounds_toArray, List.set_cons_zero, List.set_cons_succ])))
    refine InText.nil fun w5 hF => ?_
    clear hT9
    go_wp2_with fail
    go_ret
    exact ⟨ret_int HI.out, hF.below⟩
end Go.Proofs.YtfajhblmjdjkbaaDoor
