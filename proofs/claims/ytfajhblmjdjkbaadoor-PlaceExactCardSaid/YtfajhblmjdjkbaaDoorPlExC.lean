/- PlaceExact: a cell whose part is below 0, or is Retire. -/
import Derived.Test.YtfajhblmjdjkbaaDoorPlExA
namespace Go.Proofs.YtfajhblmjdjkbaaDoor.placeExact
open Go.ChangeShapes Go.WideShapes Go.ChangeAt Go.RowKit

set_option maxRecDepth 100000 in
set_option maxHeartbeats 6400000 in
theorem walk2 (k s b h l y z n : Int) (hz : z < 0) (w : World) (hg : Glo w) :
    Calls Tryd.prog 3 #[.agg #[.int .i64 k, .int .i64 s, .int .i64 b, .int .i64 h, .int .i64 l], .agg #[.int .i64 5, .int .i64 y, .int .i64 z], .int .i64 n] w fun e w' => e = .returned (.bool true) ∧ Below w.heap.size w w' := by
  have b0 : decide (0 ≤ z) = false := by simpa using hz
  have hcb : contB 5 z = false := by unfold contB; rw [decide_eq_false_iff_not]; omega
  have hF := ((Fr.start w).push w.heap.size rfl [.int .i64 k, .int .i64 s, .int .i64 b, .int .i64 h, .int .i64 l] 23).push (w.heap.size + 1) (by simp) [.int .i64 5, .int .i64 y, .int .i64 z] 25
  have r := hF.rule 0 rfl
  have q := hF.rule 1 rfl
  have HG := Lib.hid hg
  have cC : Hid (∀ v, Calls Tryd.prog 12 #[.agg #[.int .i64 5, .int .i64 y, .int .i64 z]] v fun e w' => e = .returned (.bool false) ∧ Below v.heap.size v w') := Lib.hid fun v => by have := isContent_any 5 y z v; rwa [hcb] at this
  clear hg hcb
  cases hp : placeB k s b h l 5 y z
  · have cI : Hid (∀ v, Calls Tryd.prog 8 #[.agg #[.int .i64 k, .int .i64 s, .int .i64 b, .int .i64 h, .int .i64 l], .agg #[.int .i64 5, .int .i64 y, .int .i64 z]] v fun e w' => e = .returned (.bool false) ∧ Below v.heap.size v w') := Lib.hid fun v => by have := refIs_any k s b h l 5 y z v; rwa [hp] at this
    have cN : Hid (∀ v, Calls Tryd.prog 9 #[.agg #[.int .i64 k, .int .i64 s, .int .i64 b, .int .i64 h, .int .i64 l], .agg #[.int .i64 5, .int .i64 y, .int .i64 z]] v fun e w' => e = .returned (.tuple #[.int .i64 0, .bool false]) ∧ Below v.heap.size v w') := Lib.hid fun v => by have := number_any k s b h l 5 y z v; rwa [show placeI k s b h l 5 y z = 0 by unfold placeI; rw [hp]; rfl, hp] at this
    have cJ : Hid (∀ v, Calls Tryd.prog 10 #[.agg #[.int .i64 k, .int .i64 s, .int .i64 b, .int .i64 h, .int .i64 l], .agg #[.int .i64 5, .int .i64 y, .int .i64 z]] v fun e w' => e = .returned (.bool false) ∧ Below v.heap.size v w') := Lib.hid fun v => by have := is_any k s b h l 5 y z v; rwa [hp] at this
    have cR := cJ
    clear hp
    go_enter Tryd.func3, Tryd.ntmps3
    go_wp2_with (first
      |
        (with_reducible refine (awake5 _ (HG.out.keep hF.below (Nat.le_refl _))).mono ?_; rintro e w1 ⟨rfl, hb⟩; replace hF := hF.over hb; clear hb r q; have r := hF.rule 0 rfl; have q := hF.rule 1 rfl)
      |
        (with_reducible refine (cI.out _).mono ?_; rintro e w1 ⟨rfl, hb⟩; replace hF := hF.over hb; clear hb r q; have r := hF.rule 0 rfl; have q := hF.rule 1 rfl)
      |
        (with_reducible refine (cN.out _).mono ?_; rintro e w1 ⟨rfl, hb⟩; replace hF := hF.over hb; clear hb r q; have r := hF.rule 0 rfl; have q := hF.rule 1 rfl)
      |
        (with_reducible refine (cJ.out _).mono ?_; rintro e w1 ⟨rfl, hb⟩; replace hF := hF.over hb; clear hb r q; have r := hF.rule 0 rfl; have q := hF.rule 1 rfl)
      |
        (with_reducible refine (cR.out _).mono ?_; rintro e w1 ⟨rfl, hb⟩; replace hF := hF.over hb; clear hb r q; have r := hF.rule 0 rfl; have q := hF.rule 1 rfl)
      )
    clear r q cI cN cJ cR HG
    refine wp_text (S := Fr w [(w.heap.size + 1, [.int .i64 5, .int .i64 y, .int .i64 z]), (w.heap.size, [.int .i64 k, .int .i64 s, .int .i64 b, .int .i64 h, .int .i64 l])]) (by kernel_rfl) (by kernel_rfl) ?hS (fun hT => ?_)
    case hS => exact Fr.drew hF
    have hT9 := Lib.hid hT
    clear hT hF
    repeat (first
      | (refine text_value (v := ?_) hT9.out (by rfl) ?_ ?_; rotate_left; (focus (intro w5 hS; have r := hS.rule 0 rfl; have q := hS.rule 1 rfl; go_simp <;> with_reducible rfl)); (try simp only [Act.put, List.setIfInBounds_toArray, List.set_cons_zero, List.set_cons_succ]))
      | (refine text_off hT9.out (by rfl) ?_; (try simp only [Act.put, List.setIfInBounds_toArray, List.set_cons_zero, List.set_cons_succ]))
      | (refine text_call (v := ?_) (f := ?_) (args := ?_) hT9.out (by rfl) ?_ ?_ ?_; rotate_left 3; (focus (intro w5 hS; have r := hS.rule 0 rfl; have q := hS.rule 1 rfl; go_simp; constructor <;> with_reducible rfl)); (focus (intro w5 hS; (first | (with_reducible refine (cC.out _).mono ?_; rintro e w6 ⟨rfl, hb5⟩; constructor; with_reducible rfl; exact hS.over hb5)))); (try simp only [Act.put, List.setIfInBounds_toArray, List.set_cons_zero, List.set_cons_succ])))
    refine InText.nil fun w5 hF => ?_
    clear hT9
    clear cC
    replace hF := hF.tail
    have r := hF.rule 0 rfl
    go_wp2_with fail
    by_cases hc : chkI k s b h l = 0
    · obtain ⟨d, hC, hh0, hh1⟩ := dim_of hc
      have HI := Lib.hid (show IntKind.i64.wrap (IntKind.i64.wrap (3 + rootsI k s b h l) + IntKind.i64.wrap (s * IntKind.i64.wrap (7 + h))) = countI k s b h l by simp only [wrap_i]; rw [cell_wrap (by omega), ← hC, count_wrap d]; unfold countI; rw [if_pos hc])
      have c1 : Hid (∀ v, Calls Tryd.prog 14 #[.agg #[.int .i64 k, .int .i64 s, .int .i64 b, .int .i64 h, .int .i64 l]] v fun e w' => e = .returned (.int .i64 (rootsI k s b h l)) ∧ Below v.heap.size v w') := Lib.hid fun v => refRoots_any k s b h l v
      have HC := Lib.hid hc
      clear hc d hC hh0 hh1
      refine (refCheck_any _ _ _ _ _ _).mono ?_
      rintro e w2 ⟨rfl, hb⟩
      rw [HC.out]
      replace hF := hF.over hb
      clear hb r HC
      generalize rootsI k s b h l = R at *
      go_wp2_with fail
      refine wp_text (S := Fr w [(w.heap.size, [.int .i64 k, .int .i64 s, .int .i64 b, .int .i64 h, .int .i64 l])]) (by kernel_rfl) (by kernel_rfl) ?hS (fun hT => ?_)
      case hS => exact Fr.drew hF
      have hT9 := Lib.hid hT
      clear hT hF
      repeat (first
        | (refine text_value (v := ?_) hT9.out (by rfl) ?_ ?_; rotate_left; (focus (intro w5 hS; have r := hS.rule 0 rfl; go_simp <;> with_reducible rfl)); (try simp only [Act.put, List.setIfInBounds_toArray, List.set_cons_zero, List.set_cons_succ]))
        | (refine text_off hT9.out (by rfl) ?_; (try simp only [Act.put, List.setIfInBounds_toArray, List.set_cons_zero, List.set_cons_succ]))
        | (refine text_call (v := ?_) (f := ?_) (args := ?_) hT9.out (by rfl) ?_ ?_ ?_; rotate_left 3; (focus (intro w5 hS; have r := hS.rule 0 rfl; go_simp; constructor <;> with_reducible rfl)); (focus (intro w5 hS; (first | (with_reducible refine (c1.out _).mono ?_; rintro e w6 ⟨rfl, hb5⟩; constructor; with_reducible rfl; exact hS.over hb5)))); (try simp only [Act.put, List.setIfInBounds_toArray, List.set_cons_zero, List.set_cons_succ])))
      refine InText.nil fun w5 hF => ?_
      clear hT9
      rw [HI.out]
      clear c1 HI
      have r := hF.rule 0 rfl
      have c0 : Hid (∀ v, Calls Tryd.prog 16 #[.agg #[.int .i64 k, .int .i64 s, .int .i64 b, .int .i64 h, .int .i64 l]] v fun e w' => e = .returned (.int .i64 (countI k s b h l)) ∧ Below v.heap.size v w') := Lib.hid fun v => count_any k s b h l v
      cases hh : hasB k s b h l n
      · have hn := has_no hh
        have cA := Lib.hid (at_none hh)
        clear hh
        generalize countI k s b h l = N at *
        go_wp2_with fail
        refine (cA.out _).mono ?_
        rintro e w3 ⟨rfl, hb⟩
        replace hF := (hF.over hb).push w3.heap.size rfl [.int .i64 0, .int .i64 0, .int .i64 0] 25
        clear hb r cA
        have r := hF.rule 0 rfl
        have q := hF.rule 1 rfl
        rcases hn with hn | ⟨hn0, hn⟩
        · have b1 : decide (n < 0) = true := by simpa using hn
          go_wp2_with
            (with_reducible refine (c0.out _).mono ?_; rintro e w1 ⟨rfl, hb⟩; replace hF := hF.over hb; clear hb r q; have r := hF.rule 0 rfl; have q := hF.rule 1 rfl)
          go_ret
          exact ⟨ret_bool (by simp), hF.below⟩
        · have b1 : decide (n < 0) = false := by simpa using hn0
          go_wp2_with
            (with_reducible refine (c0.out _).mono ?_; rintro e w1 ⟨rfl, hb⟩; replace hF := hF.over hb; clear hb r q; have r := hF.rule 0 rfl; have q := hF.rule 1 rfl)
          go_ret
          exact ⟨ret_bool (by simp), hF.below⟩
      · have hn := has_in hh
        obtain ⟨q1, q2, q3, d1, d2, d3⟩ := at_some hh
        have cA := Lib.hid d1
        have cB := Lib.hid d2
        have cD := Lib.hid d3
        clear hh d1 d2 d3
        generalize countI k s b h l = N at *
        have b1 : decide (n < 0) = false := by simp; omega
        have b2 : decide (N ≤ n) = false := by simp; omega
        go_wp2_with fail
        refine (cA.out _).mono ?_
        rintro e w3 ⟨rfl, hb⟩
        replace hF := (hF.over hb).push w3.heap.size rfl [.int .i64 q1, .int .i64 q2, .int .i64 q3] 25
        clear hb r cA
        have r := hF.rule 0 rfl
        have q := hF.rule 1 rfl
        go_wp2_with (first
          |
            (with_reducible refine (c0.out _).mono ?_; rintro e w1 ⟨rfl, hb⟩; replace hF := hF.over hb; clear hb r q; have r := hF.rule 0 rfl; have q := hF.rule 1 rfl)
          |
            (with_reducible refine (cB.out _).mono ?_; rintro e w1 ⟨rfl, hb⟩; replace hF := hF.over hb; clear hb r q; have r := hF.rule 0 rfl; have q := hF.rule 1 rfl)
          |
            (with_reducible refine (cD.out _).mono ?_; rintro e w1 ⟨rfl, hb⟩; replace hF := hF.over hb; clear hb r q; have r := hF.rule 0 rfl; have q := hF.rule 1 rfl)
          )
        go_ret
        exact ⟨ret_bool (by simp), hF.below⟩
    · have c0 : Hid (∀ v, Calls Tryd.prog 16 #[.agg #[.int .i64 k, .int .i64 s, .int .i64 b, .int .i64 h, .int .i64 l]] v fun e w' => e = .returned (.int .i64 0) ∧ Below v.heap.size v w') := Lib.hid fun v => by have := count_any k s b h l v; rwa [show countI k s b h l = 0 by unfold countI; rw [if_neg hc]] at this
      have hh : hasB k s b h l n = false := by unfold hasB countI; rw [if_neg hc, decide_eq_false_iff_not]; omega
      have hn : n < 0 ∨ (¬ n < 0 ∧ (0 : Int) ≤ n) := by omega
      have cA := Lib.hid (at_none hh)
      have cK : Hid (∀ v, Calls Tryd.prog 13 #[.agg #[.int .i64 k, .int .i64 s, .int .i64 b, .int .i64 h, .int .i64 l]] v fun e w' => e = .returned (.int .i64 (chkI k s b h l)) ∧ Below v.heap.size v w') := Lib.hid fun v => refCheck_any k s b h l v
      have hc' : (chkI k s b h l == 0) = false := by simpa using hc
      clear hh
      generalize chkI k s b h l = E at *
      refine (cK.out _).mono ?_
      rintro e w2 ⟨rfl, hb⟩
      replace hF := hF.over hb
      clear hb r cK
      have r := hF.rule 0 rfl
      go_wp2_with fail
      refine (cA.out _).mono ?_
      rintro e w3 ⟨rfl, hb⟩
      replace hF := (hF.over hb).push w3.heap.size rfl [.int .i64 0, .int .i64 0, .int .i64 0] 25
      clear hb r cA
      have r := hF.rule 0 rfl
      have q := hF.rule 1 rfl
      rcases hn with hn | ⟨hn0, hn⟩
      · have b1 : decide (n < 0) = true := by simpa using hn
        go_wp2_with
          (with_reducible refine (c0.out _).mono ?_; rintro e w1 ⟨rfl, hb⟩; replace hF := hF.over hb; clear hb r q; have r := hF.rule 0 rfl; have q := hF.rule 1 rfl)
        go_ret
        exact ⟨ret_bool (by simp), hF.below⟩
      · have b1 : decide (n < 0) = false := by simpa using hn0
        go_wp2_with
          (with_reducible refine (c0.out _).mono ?_; rintro e w1 ⟨rfl, hb⟩; replace hF := hF.over hb; clear hb r q; have r := hF.rule 0 rfl; have q := hF.rule 1 rfl)
        go_ret
        exact ⟨ret_bool (by simp), hF.below⟩
  · have cI : Hid (∀ v, Calls Tryd.prog 8 #[.agg #[.int .i64 k, .int .i64 s, .int .i64 b, .int .i64 h, .int .i64 l], .agg #[.int .i64 5, .int .i64 y, .int .i64 z]] v fun e w' => e = .returned (.bool true) ∧ Below v.heap.size v w') := Lib.hid fun v => by have := refIs_any k s b h l 5 y z v; rwa [hp] at this
    have cN : Hid (∀ v, Calls Tryd.prog 9 #[.agg #[.int .i64 k, .int .i64 s, .int .i64 b, .int .i64 h, .int .i64 l], .agg #[.int .i64 5, .int .i64 y, .int .i64 z]] v fun e w' => e = .returned (.tuple #[.int .i64 (placeI k s b h l 5 y z), .bool true]) ∧ Below v.heap.size v w') := Lib.hid fun v => by have := number_any k s b h l 5 y z v; rwa [hp] at this
    have cJ : Hid (∀ v, Calls Tryd.prog 10 #[.agg #[.int .i64 k, .int .i64 s, .int .i64 b, .int .i64 h, .int .i64 l], .agg #[.int .i64 5, .int .i64 y, .int .i64 z]] v fun e w' => e = .returned (.bool true) ∧ Below v.heap.size v w') := Lib.hid fun v => by have := is_any k s b h l 5 y z v; rwa [hp] at this
    have cR : Hid (∀ v, Calls Tryd.prog 11 #[.agg #[.int .i64 k, .int .i64 s, .int .i64 b, .int .i64 h, .int .i64 l], .agg #[.int .i64 5, .int .i64 y, .int .i64 z]] v fun e w' => e = .returned (.int .i64 (placeI k s b h l 5 y z)) ∧ Below v.heap.size v w') := Lib.hid fun v => refNumber_any k s b h l 5 y z hp v
    clear hp
    generalize placeI k s b h l 5 y z = PI at *
    go_enter Tryd.func3, Tryd.ntmps3
    go_wp2_with (first
      |
        (with_reducible refine (awake5 _ (HG.out.keep hF.below (Nat.le_refl _))).mono ?_; rintro e w1 ⟨rfl, hb⟩; replace hF := hF.over hb; clear hb r q; have r := hF.rule 0 rfl; have q := hF.rule 1 rfl)
      |
        (with_reducible refine (cI.out _).mono ?_; rintro e w1 ⟨rfl, hb⟩; replace hF := hF.over hb; clear hb r q; have r := hF.rule 0 rfl; have q := hF.rule 1 rfl)
      |
        (with_reducible refine (cN.out _).mono ?_; rintro e w1 ⟨rfl, hb⟩; replace hF := hF.over hb; clear hb r q; have r := hF.rule 0 rfl; have q := hF.rule 1 rfl)
      |
        (with_reducible refine (cJ.out _).mono ?_; rintro e w1 ⟨rfl, hb⟩; replace hF := hF.over hb; clear hb r q; have r := hF.rule 0 rfl; have q := hF.rule 1 rfl)
      |
        (with_reducible refine (cR.out _).mono ?_; rintro e w1 ⟨rfl, hb⟩; replace hF := hF.over hb; clear hb r q; have r := hF.rule 0 rfl; have q := hF.rule 1 rfl)
      )
    clear r q cI cN cJ cR HG
    refine wp_text (S := Fr w [(w.heap.size + 1, [.int .i64 5, .int .i64 y, .int .i64 z]), (w.heap.size, [.int .i64 k, .int .i64 s, .int .i64 b, .int .i64 h, .int .i64 l])]) (by kernel_rfl) (by kernel_rfl) ?hS (fun hT => ?_)
    case hS => exact Fr.drew hF
    have hT9 := Lib.hid hT
    clear hT hF
    repeat (first
      | (refine text_value (v := ?_) hT9.out (by rfl) ?_ ?_; rotate_left; (focus (intro w5 hS; have r := hS.rule 0 rfl; have q := hS.rule 1 rfl; go_simp <;> with_reducible rfl)); (try simp only [Act.put, List.setIfInBounds_toArray, List.set_cons_zero, List.set_cons_succ]))
      | (refine text_off hT9.out (by rfl) ?_; (try simp only [Act.put, List.setIfInBounds_toArray, List.set_cons_zero, List.set_cons_succ]))
      | (refine text_call (v := ?_) (f := ?_) (args := ?_) hT9.out (by rfl) ?_ ?_ ?_; rotate_left 3; (focus (intro w5 hS; have r := hS.rule 0 rfl; have q := hS.rule 1 rfl; go_simp; constructor <;> with_reducible rfl)); (focus (intro w5 hS; (first | (with_reducible refine (cC.out _).mono ?_; rintro e w6 ⟨rfl, hb5⟩; constructor; with_reducible rfl; exact hS.over hb5)))); (try simp only [Act.put, List.setIfInBounds_toArray, List.set_cons_zero, List.set_cons_succ])))
    refine InText.nil fun w5 hF => ?_
    clear hT9
    clear cC
    replace hF := hF.tail
    have r := hF.rule 0 rfl
    go_wp2_with fail
    by_cases hc : chkI k s b h l = 0
    · obtain ⟨d, hC, hh0, hh1⟩ := dim_of hc
      have HI := Lib.hid (show IntKind.i64.wrap (IntKind.i64.wrap (3 + rootsI k s b h l) + IntKind.i64.wrap (s * IntKind.i64.wrap (7 + h))) = countI k s b h l by simp only [wrap_i]; rw [cell_wrap (by omega), ← hC, count_wrap d]; unfold countI; rw [if_pos hc])
      have c1 : Hid (∀ v, Calls Tryd.prog 14 #[.agg #[.int .i64 k, .int .i64 s, .int .i64 b, .int .i64 h, .int .i64 l]] v fun e w' => e = .returned (.int .i64 (rootsI k s b h l)) ∧ Below v.heap.size v w') := Lib.hid fun v => refRoots_any k s b h l v
      have HC := Lib.hid hc
      clear hc d hC hh0 hh1
      refine (refCheck_any _ _ _ _ _ _).mono ?_
      rintro e w2 ⟨rfl, hb⟩
      rw [HC.out]
      replace hF := hF.over hb
      clear hb r HC
      generalize rootsI k s b h l = R at *
      go_wp2_with fail
      refine wp_text (S := Fr w [(w.heap.size, [.int .i64 k, .int .i64 s, .int .i64 b, .int .i64 h, .int .i64 l])]) (by kernel_rfl) (by kernel_rfl) ?hS (fun hT => ?_)
      case hS => exact Fr.drew hF
      have hT9 := Lib.hid hT
      clear hT hF
      repeat (first
        | (refine text_value (v := ?_) hT9.out (by rfl) ?_ ?_; rotate_left; (focus (intro w5 hS; have r := hS.rule 0 rfl; go_simp <;> with_reducible rfl)); (try simp only [Act.put, List.setIfInBounds_toArray, List.set_cons_zero, List.set_cons_succ]))
        | (refine text_off hT9.out (by rfl) ?_; (try simp only [Act.put, List.setIfInBounds_toArray, List.set_cons_zero, List.set_cons_succ]))
        | (refine text_call (v := ?_) (f := ?_) (args := ?_) hT9.out (by rfl) ?_ ?_ ?_; rotate_left 3; (focus (intro w5 hS; have r := hS.rule 0 rfl; go_simp; constructor <;> with_reducible rfl)); (focus (intro w5 hS; (first | (with_reducible refine (c1.out _).mono ?_; rintro e w6 ⟨rfl, hb5⟩; constructor; with_reducible rfl; exact hS.over hb5)))); (try simp only [Act.put, List.setIfInBounds_toArray, List.set_cons_zero, List.set_cons_succ])))
      refine InText.nil fun w5 hF => ?_
      clear hT9
      rw [HI.out]
      clear c1 HI
      have r := hF.rule 0 rfl
      have c0 : Hid (∀ v, Calls Tryd.prog 16 #[.agg #[.int .i64 k, .int .i64 s, .int .i64 b, .int .i64 h, .int .i64 l]] v fun e w' => e = .returned (.int .i64 (countI k s b h l)) ∧ Below v.heap.size v w') := Lib.hid fun v => count_any k s b h l v
      cases hh : hasB k s b h l n
      · have hn := has_no hh
        have cA := Lib.hid (at_none hh)
        clear hh
        generalize countI k s b h l = N at *
        go_wp2_with fail
        refine (cA.out _).mono ?_
        rintro e w3 ⟨rfl, hb⟩
        replace hF := (hF.over hb).push w3.heap.size rfl [.int .i64 0, .int .i64 0, .int .i64 0] 25
        clear hb r cA
        have r := hF.rule 0 rfl
        have q := hF.rule 1 rfl
        rcases hn with hn | ⟨hn0, hn⟩
        · have b1 : decide (n < 0) = true := by simpa using hn
          go_wp2_with
            (with_reducible refine (c0.out _).mono ?_; rintro e w1 ⟨rfl, hb⟩; replace hF := hF.over hb; clear hb r q; have r := hF.rule 0 rfl; have q := hF.rule 1 rfl)
          go_ret
          exact ⟨ret_bool (by simp), hF.below⟩
        · have b1 : decide (n < 0) = false := by simpa using hn0
          go_wp2_with
            (with_reducible refine (c0.out _).mono ?_; rintro e w1 ⟨rfl, hb⟩; replace hF := hF.over hb; clear hb r q; have r := hF.rule 0 rfl; have q := hF.rule 1 rfl)
          go_ret
          exact ⟨ret_bool (by simp), hF.below⟩
      · have hn := has_in hh
        obtain ⟨q1, q2, q3, d1, d2, d3⟩ := at_some hh
        have cA := Lib.hid d1
        have cB := Lib.hid d2
        have cD := Lib.hid d3
        clear hh d1 d2 d3
        generalize countI k s b h l = N at *
        have b1 : decide (n < 0) = false := by simp; omega
        have b2 : decide (N ≤ n) = false := by simp; omega
        go_wp2_with fail
        refine (cA.out _).mono ?_
        rintro e w3 ⟨rfl, hb⟩
        replace hF := (hF.over hb).push w3.heap.size rfl [.int .i64 q1, .int .i64 q2, .int .i64 q3] 25
        clear hb r cA
        have r := hF.rule 0 rfl
        have q := hF.rule 1 rfl
        go_wp2_with (first
          |
            (with_reducible refine (c0.out _).mono ?_; rintro e w1 ⟨rfl, hb⟩; replace hF := hF.over hb; clear hb r q; have r := hF.rule 0 rfl; have q := hF.rule 1 rfl)
          |
            (with_reducible refine (cB.out _).mono ?_; rintro e w1 ⟨rfl, hb⟩; replace hF := hF.over hb; clear hb r q; have r := hF.rule 0 rfl; have q := hF.rule 1 rfl)
          |
            (with_reducible refine (cD.out _).mono ?_; rintro e w1 ⟨rfl, hb⟩; replace hF := hF.over hb; clear hb r q; have r := hF.rule 0 rfl; have q := hF.rule 1 rfl)
          )
        go_ret
        exact ⟨ret_bool (by simp), hF.below⟩
    · have c0 : Hid (∀ v, Calls Tryd.prog 16 #[.agg #[.int .i64 k, .int .i64 s, .int .i64 b, .int .i64 h, .int .i64 l]] v fun e w' => e = .returned (.int .i64 0) ∧ Below v.heap.size v w') := Lib.hid fun v => by have := count_any k s b h l v; rwa [show countI k s b h l = 0 by unfold countI; rw [if_neg hc]] at this
      have hh : hasB k s b h l n = false := by unfold hasB countI; rw [if_neg hc, decide_eq_false_iff_not]; omega
      have hn : n < 0 ∨ (¬ n < 0 ∧ (0 : Int) ≤ n) := by omega
      have cA := Lib.hid (at_none hh)
      have cK : Hid (∀ v, Calls Tryd.prog 13 #[.agg #[.int .i64 k, .int .i64 s, .int .i64 b, .int .i64 h, .int .i64 l]] v fun e w' => e = .returned (.int .i64 (chkI k s b h l)) ∧ Below v.heap.size v w') := Lib.hid fun v => refCheck_any k s b h l v
      have hc' : (chkI k s b h l == 0) = false := by simpa using hc
      clear hh
      generalize chkI k s b h l = E at *
      refine (cK.out _).mono ?_
      rintro e w2 ⟨rfl, hb⟩
      replace hF := hF.over hb
      clear hb r cK
      have r := hF.rule 0 rfl
      go_wp2_with fail
      refine (cA.out _).mono ?_
      rintro e w3 ⟨rfl, hb⟩
      replace hF := (hF.over hb).push w3.heap.size rfl [.int .i64 0, .int .i64 0, .int .i64 0] 25
      clear hb r cA
      have r := hF.rule 0 rfl
      have q := hF.rule 1 rfl
      rcases hn with hn | ⟨hn0, hn⟩
      · have b1 : decide (n < 0) = true := by simpa using hn
        go_wp2_with
          (with_reducible refine (c0.out _).mono ?_; rintro e w1 ⟨rfl, hb⟩; replace hF := hF.over hb; clear hb r q; have r := hF.rule 0 rfl; have q := hF.rule 1 rfl)
        go_ret
        exact ⟨ret_bool (by simp), hF.below⟩
      · have b1 : decide (n < 0) = false := by simpa using hn0
        go_wp2_with
          (with_reducible refine (c0.out _).mono ?_; rintro e w1 ⟨rfl, hb⟩; replace hF := hF.over hb; clear hb r q; have r := hF.rule 0 rfl; have q := hF.rule 1 rfl)
        go_ret
        exact ⟨ret_bool (by simp), hF.below⟩

set_option maxRecDepth 100000 in
set_option maxHeartbeats 6400000 in
theorem walk3 (k s b h l y n : Int)  (w : World) (hg : Glo w) :
    Calls Tryd.prog 3 #[.agg #[.int .i64 k, .int .i64 s, .int .i64 b, .int .i64 h, .int .i64 l], .agg #[.int .i64 5, .int .i64 y, .int .i64 1], .int .i64 n] w fun e w' => e = .returned (.bool true) ∧ Below w.heap.size w w' := by
  have hcb : contB 5 1 = false := rfl
  have hF := ((Fr.start w).push w.heap.size rfl [.int .i64 k, .int .i64 s, .int .i64 b, .int .i64 h, .int .i64 l] 23).push (w.heap.size + 1) (by simp) [.int .i64 5, .int .i64 y, .int .i64 1] 25
  have r := hF.rule 0 rfl
  have q := hF.rule 1 rfl
  have HG := Lib.hid hg
  have cC : Hid (∀ v, Calls Tryd.prog 12 #[.agg #[.int .i64 5, .int .i64 y, .int .i64 1]] v fun e w' => e = .returned (.bool false) ∧ Below v.heap.size v w') := Lib.hid fun v => by have := isContent_any 5 y 1 v; rwa [hcb] at this
  clear hg hcb
  cases hp : placeB k s b h l 5 y 1
  · have cI : Hid (∀ v, Calls Tryd.prog 8 #[.agg #[.int .i64 k, .int .i64 s, .int .i64 b, .int .i64 h, .int .i64 l], .agg #[.int .i64 5, .int .i64 y, .int .i64 1]] v fun e w' => e = .returned (.bool false) ∧ Below v.heap.size v w') := Lib.hid fun v => by have := refIs_any k s b h l 5 y 1 v; rwa [hp] at this
    have cN : Hid (∀ v, Calls Tryd.prog 9 #[.agg #[.int .i64 k, .int .i64 s, .int .i64 b, .int .i64 h, .int .i64 l], .agg #[.int .i64 5, .int .i64 y, .int .i64 1]] v fun e w' => e = .returned (.tuple #[.int .i64 0, .bool false]) ∧ Below v.heap.size v w') := Lib.hid fun v => by have := number_any k s b h l 5 y 1 v; rwa [show placeI k s b h l 5 y 1 = 0 by unfold placeI; rw [hp]; rfl, hp] at this
    have cJ : Hid (∀ v, Calls Tryd.prog 10 #[.agg #[.int .i64 k, .int .i64 s, .int .i64 b, .int .i64 h, .int .i64 l], .agg #[.int .i64 5, .int .i64 y, .int .i64 1]] v fun e w' => e = .returned (.bool false) ∧ Below v.heap.size v w') := Lib.hid fun v => by have := is_any k s b h l 5 y 1 v; rwa [hp] at this
    have cR := cJ
    clear hp
    go_enter Tryd.func3, Tryd.ntmps3
    go_wp2_with (first
      |
        (with_reducible refine (awake5 _ (HG.out.keep hF.below (Nat.le_refl _))).mono ?_; rintro e w1 ⟨rfl, hb⟩; replace hF := hF.over hb; clear hb r q; have r := hF.rule 0 rfl; have q := hF.rule 1 rfl)
      |
        (with_reducible refine (cI.out _).mono ?_; rintro e w1 ⟨rfl, hb⟩; replace hF := hF.over hb; clear hb r q; have r := hF.rule 0 rfl; have q := hF.rule 1 rfl)
      |
        (with_reducible refine (cN.out _).mono ?_; rintro e w1 ⟨rfl, hb⟩; replace hF := hF.over hb; clear hb r q; have r := hF.rule 0 rfl; have q := hF.rule 1 rfl)
      |
        (with_reducible refine (cJ.out _).mono ?_; rintro e w1 ⟨rfl, hb⟩; replace hF := hF.over hb; clear hb r q; have r := hF.rule 0 rfl; have q := hF.rule 1 rfl)
      |
        (with_reducible refine (cR.out _).mono ?_; rintro e w1 ⟨rfl, hb⟩; replace hF := hF.over hb; clear hb r q; have r := hF.rule 0 rfl; have q := hF.rule 1 rfl)
      )
    clear r q cI cN cJ cR HG
    refine wp_text (S := Fr w [(w.heap.size + 1, [.int .i64 5, .int .i64 y, .int .i64 1]), (w.heap.size, [.int .i64 k, .int .i64 s, .int .i64 b, .int .i64 h, .int .i64 l])]) (by kernel_rfl) (by kernel_rfl) ?hS (fun hT => ?_)
    case hS => exact Fr.drew hF
    have hT9 := Lib.hid hT
    clear hT hF
    repeat (first
      | (refine text_value (v := ?_) hT9.out (by rfl) ?_ ?_; rotate_left; (focus (intro w5 hS; have r := hS.rule 0 rfl; have q := hS.rule 1 rfl; go_simp <;> with_reducible rfl)); (try simp only [Act.put, List.setIfInBounds_toArray, List.set_cons_zero, List.set_cons_succ]))
      | (refine text_off hT9.out (by rfl) ?_; (try simp only [Act.put, List.setIfInBounds_toArray, List.set_cons_zero, List.set_cons_succ]))
      | (refine text_call (v := ?_) (f := ?_) (args := ?_) hT9.out (by rfl) ?_ ?_ ?_; rotate_left 3; (focus (intro w5 hS; have r := hS.rule 0 rfl; have q := hS.rule 1 rfl; go_simp; constructor <;> with_reducible rfl)); (focus (intro w5 hS; (first | (with_reducible refine (cC.out _).mono ?_; rintro e w6 ⟨rfl, hb5⟩; constructor; with_reducible rfl; exact hS.over hb5)))); (try simp only [Act.put, List.setIfInBounds_toArray, List.set_cons_zero, List.set_cons_succ])))
    refine InText.nil fun w5 hF => ?_
    clear hT9
    clear cC
    replace hF := hF.tail
    have r := hF.rule 0 rfl
    go_wp2_with fail
    by_cases hc : chkI k s b h l = 0
    · obtain ⟨d, hC, hh0, hh1⟩ := dim_of hc
      have HI := Lib.hid (show IntKind.i64.wrap (IntKind.i64.wrap (3 + rootsI k s b h l) + IntKind.i64.wrap (s * IntKind.i64.wrap (7 + h))) = countI k s b h l by simp only [wrap_i]; rw [cell_wrap (by omega), ← hC, count_wrap d]; unfold countI; rw [if_pos hc])
      have c1 : Hid (∀ v, Calls Tryd.prog 14 #[.agg #[.int .i64 k, .int .i64 s, .int .i64 b, .int .i64 h, .int .i64 l]] v fun e w' => e = .returned (.int .i64 (rootsI k s b h l)) ∧ Below v.heap.size v w') := Lib.hid fun v => refRoots_any k s b h l v
      have HC := Lib.hid hc
      clear hc d hC hh0 hh1
      refine (refCheck_any _ _ _ _ _ _).mono ?_
      rintro e w2 ⟨rfl, hb⟩
      rw [HC.out]
      replace hF := hF.over hb
      clear hb r HC
      generalize rootsI k s b h l = R at *
      go_wp2_with fail
      refine wp_text (S := Fr w [(w.heap.size, [.int .i64 k, .int .i64 s, .int .i64 b, .int .i64 h, .int .i64 l])]) (by kernel_rfl) (by kernel_rfl) ?hS (fun hT => ?_)
      case hS => exact Fr.drew hF
      have hT9 := Lib.hid hT
      clear hT hF
      repeat (first
        | (refine text_value (v := ?_) hT9.out (by rfl) ?_ ?_; rotate_left; (focus (intro w5 hS; have r := hS.rule 0 rfl; go_simp <;> with_reducible rfl)); (try simp only [Act.put, List.setIfInBounds_toArray, List.set_cons_zero, List.set_cons_succ]))
        | (refine text_off hT9.out (by rfl) ?_; (try simp only [Act.put, List.setIfInBounds_toArray, List.set_cons_zero, List.set_cons_succ]))
        | (refine text_call (v := ?_) (f := ?_) (args := ?_) hT9.out (by rfl) ?_ ?_ ?_; rotate_left 3; (focus (intro w5 hS; have r := hS.rule 0 rfl; go_simp; constructor <;> with_reducible rfl)); (focus (intro w5 hS; (first | (with_reducible refine (c1.out _).mono ?_; rintro e w6 ⟨rfl, hb5⟩; constructor; with_reducible rfl; exact hS.over hb5)))); (try simp only [Act.put, List.setIfInBounds_toArray, List.set_cons_zero, List.set_cons_succ])))
      refine InText.nil fun w5 hF => ?_
      clear hT9
      rw [HI.out]
      clear c1 HI
      have r := hF.rule 0 rfl
      have c0 : Hid (∀ v, Calls Tryd.prog 16 #[.agg #[.int .i64 k, .int .i64 s, .int .i64 b, .int .i64 h, .int .i64 l]] v fun e w' => e = .returned (.int .i64 (countI k s b h l)) ∧ Below v.heap.size v w') := Lib.hid fun v => count_any k s b h l v
      cases hh : hasB k s b h l n
      · have hn := has_no hh
        have cA := Lib.hid (at_none hh)
        clear hh
        generalize countI k s b h l = N at *
        go_wp2_with fail
        refine (cA.out _).mono ?_
        rintro e w3 ⟨rfl, hb⟩
        replace hF := (hF.over hb).push w3.heap.size rfl [.int .i64 0, .int .i64 0, .int .i64 0] 25
        clear hb r cA
        have r := hF.rule 0 rfl
        have q := hF.rule 1 rfl
        rcases hn with hn | ⟨hn0, hn⟩
        · have b1 : decide (n < 0) = true := by simpa using hn
          go_wp2_with
            (with_reducible refine (c0.out _).mono ?_; rintro e w1 ⟨rfl, hb⟩; replace hF := hF.over hb; clear hb r q; have r := hF.rule 0 rfl; have q := hF.rule 1 rfl)
          go_ret
          exact ⟨ret_bool (by simp), hF.below⟩
        · have b1 : decide (n < 0) = false := by simpa using hn0
          go_wp2_with
            (with_reducible refine (c0.out _).mono ?_; rintro e w1 ⟨rfl, hb⟩; replace hF := hF.over hb; clear hb r q; have r := hF.rule 0 rfl; have q := hF.rule 1 rfl)
          go_ret
          exact ⟨ret_bool (by simp), hF.below⟩
      · have hn := has_in hh
        obtain ⟨q1, q2, q3, d1, d2, d3⟩ := at_some hh
        have cA := Lib.hid d1
        have cB := Lib.hid d2
        have cD := Lib.hid d3
        clear hh d1 d2 d3
        generalize countI k s b h l = N at *
        have b1 : decide (n < 0) = false := by simp; omega
        have b2 : decide (N ≤ n) = false := by simp; omega
        go_wp2_with fail
        refine (cA.out _).mono ?_
        rintro e w3 ⟨rfl, hb⟩
        replace hF := (hF.over hb).push w3.heap.size rfl [.int .i64 q1, .int .i64 q2, .int .i64 q3] 25
        clear hb r cA
        have r := hF.rule 0 rfl
        have q := hF.rule 1 rfl
        go_wp2_with (first
          |
            (with_reducible refine (c0.out _).mono ?_; rintro e w1 ⟨rfl, hb⟩; replace hF := hF.over hb; clear hb r q; have r := hF.rule 0 rfl; have q := hF.rule 1 rfl)
          |
            (with_reducible refine (cB.out _).mono ?_; rintro e w1 ⟨rfl, hb⟩; replace hF := hF.over hb; clear hb r q; have r := hF.rule 0 rfl; have q := hF.rule 1 rfl)
          |
            (with_reducible refine (cD.out _).mono ?_; rintro e w1 ⟨rfl, hb⟩; replace hF := hF.over hb; clear hb r q; have r := hF.rule 0 rfl; have q := hF.rule 1 rfl)
          )
        go_ret
        exact ⟨ret_bool (by simp), hF.below⟩
    · have c0 : Hid (∀ v, Calls Tryd.prog 16 #[.agg #[.int .i64 k, .int .i64 s, .int .i64 b, .int .i64 h, .int .i64 l]] v fun e w' => e = .returned (.int .i64 0) ∧ Below v.heap.size v w') := Lib.hid fun v => by have := count_any k s b h l v; rwa [show countI k s b h l = 0 by unfold countI; rw [if_neg hc]] at this
      have hh : hasB k s b h l n = false := by unfold hasB countI; rw [if_neg hc, decide_eq_false_iff_not]; omega
      have hn : n < 0 ∨ (¬ n < 0 ∧ (0 : Int) ≤ n) := by omega
      have cA := Lib.hid (at_none hh)
      have cK : Hid (∀ v, Calls Tryd.prog 13 #[.agg #[.int .i64 k, .int .i64 s, .int .i64 b, .int .i64 h, .int .i64 l]] v fun e w' => e = .returned (.int .i64 (chkI k s b h l)) ∧ Below v.heap.size v w') := Lib.hid fun v => refCheck_any k s b h l v
      have hc' : (chkI k s b h l == 0) = false := by simpa using hc
      clear hh
      generalize chkI k s b h l = E at *
      refine (cK.out _).mono ?_
      rintro e w2 ⟨rfl, hb⟩
      replace hF := hF.over hb
      clear hb r cK
      have r := hF.rule 0 rfl
      go_wp2_with fail
      refine (cA.out _).mono ?_
      rintro e w3 ⟨rfl, hb⟩
      replace hF := (hF.over hb).push w3.heap.size rfl [.int .i64 0, .int .i64 0, .int .i64 0] 25
      clear hb r cA
      have r := hF.rule 0 rfl
      have q := hF.rule 1 rfl
      rcases hn with hn | ⟨hn0, hn⟩
      · have b1 : decide (n < 0) = true := by simpa using hn
        go_wp2_with
          (with_reducible refine (c0.out _).mono ?_; rintro e w1 ⟨rfl, hb⟩; replace hF := hF.over hb; clear hb r q; have r := hF.rule 0 rfl; have q := hF.rule 1 rfl)
        go_ret
        exact ⟨ret_bool (by simp), hF.below⟩
      · have b1 : decide (n < 0) = false := by simpa using hn0
        go_wp2_with
          (with_reducible refine (c0.out _).mono ?_; rintro e w1 ⟨rfl, hb⟩; replace hF := hF.over hb; clear hb r q; have r := hF.rule 0 rfl; have q := hF.rule 1 rfl)
        go_ret
        exact ⟨ret_bool (by simp), hF.below⟩
  · have cI : Hid (∀ v, Calls Tryd.prog 8 #[.agg #[.int .i64 k, .int .i64 s, .int .i64 b, .int .i64 h, .int .i64 l], .agg #[.int .i64 5, .int .i64 y, .int .i64 1]] v fun e w' => e = .returned (.bool true) ∧ Below v.heap.size v w') := Lib.hid fun v => by have := refIs_any k s b h l 5 y 1 v; rwa [hp] at this
    have cN : Hid (∀ v, Calls Tryd.prog 9 #[.agg #[.int .i64 k, .int .i64 s, .int .i64 b, .int .i64 h, .int .i64 l], .agg #[.int .i64 5, .int .i64 y, .int .i64 1]] v fun e w' => e = .returned (.tuple #[.int .i64 (placeI k s b h l 5 y 1), .bool true]) ∧ Below v.heap.size v w') := Lib.hid fun v => by have := number_any k s b h l 5 y 1 v; rwa [hp] at this
    have cJ : Hid (∀ v, Calls Tryd.prog 10 #[.agg #[.int .i64 k, .int .i64 s, .int .i64 b, .int .i64 h, .int .i64 l], .agg #[.int .i64 5, .int .i64 y, .int .i64 1]] v fun e w' => e = .returned (.bool true) ∧ Below v.heap.size v w') := Lib.hid fun v => by have := is_any k s b h l 5 y 1 v; rwa [hp] at this
    have cR : Hid (∀ v, Calls Tryd.prog 11 #[.agg #[.int .i64 k, .int .i64 s, .int .i64 b, .int .i64 h, .int .i64 l], .agg #[.int .i64 5, .int .i64 y, .int .i64 1]] v fun e w' => e = .returned (.int .i64 (placeI k s b h l 5 y 1)) ∧ Below v.heap.size v w') := Lib.hid fun v => refNumber_any k s b h l 5 y 1 hp v
    clear hp
    generalize placeI k s b h l 5 y 1 = PI at *
    go_enter Tryd.func3, Tryd.ntmps3
    go_wp2_with (first
      |
        (with_reducible refine (awake5 _ (HG.out.keep hF.below (Nat.le_refl _))).mono ?_; rintro e w1 ⟨rfl, hb⟩; replace hF := hF.over hb; clear hb r q; have r := hF.rule 0 rfl; have q := hF.rule 1 rfl)
      |
        (with_reducible refine (cI.out _).mono ?_; rintro e w1 ⟨rfl, hb⟩; replace hF := hF.over hb; clear hb r q; have r := hF.rule 0 rfl; have q := hF.rule 1 rfl)
      |
        (with_reducible refine (cN.out _).mono ?_; rintro e w1 ⟨rfl, hb⟩; replace hF := hF.over hb; clear hb r q; have r := hF.rule 0 rfl; have q := hF.rule 1 rfl)
      |
        (with_reducible refine (cJ.out _).mono ?_; rintro e w1 ⟨rfl, hb⟩; replace hF := hF.over hb; clear hb r q; have r := hF.rule 0 rfl; have q := hF.rule 1 rfl)
      |
        (with_reducible refine (cR.out _).mono ?_; rintro e w1 ⟨rfl, hb⟩; replace hF := hF.over hb; clear hb r q; have r := hF.rule 0 rfl; have q := hF.rule 1 rfl)
      )
    clear r q cI cN cJ cR HG
    refine wp_text (S := Fr w [(w.heap.size + 1, [.int .i64 5, .int .i64 y, .int .i64 1]), (w.heap.size, [.int .i64 k, .int .i64 s, .int .i64 b, .int .i64 h, .int .i64 l])]) (by kernel_rfl) (by kernel_rfl) ?hS (fun hT => ?_)
    case hS => exact Fr.drew hF
    have hT9 := Lib.hid hT
    clear hT hF
    repeat (first
      | (refine text_value (v := ?_) hT9.out (by rfl) ?_ ?_; rotate_left; (focus (intro w5 hS; have r := hS.rule 0 rfl; have q := hS.rule 1 rfl; go_simp <;> with_reducible rfl)); (try simp only [Act.put, List.setIfInBounds_toArray, List.set_cons_zero, List.set_cons_succ]))
      | (refine text_off hT9.out (by rfl) ?_; (try simp only [Act.put, List.setIfInBounds_toArray, List.set_cons_zero, List.set_cons_succ]))
      | (refine text_call (v := ?_) (f := ?_) (args := ?_) hT9.out (by rfl) ?_ ?_ ?_; rotate_left 3; (focus (intro w5 hS; have r := hS.rule 0 rfl; have q := hS.rule 1 rfl; go_simp; constructor <;> with_reducible rfl)); (focus (intro w5 hS; (first | (with_reducible refine (cC.out _).mono ?_; rintro e w6 ⟨rfl, hb5⟩; constructor; with_reducible rfl; exact hS.over hb5)))); (try simp only [Act.put, List.setIfInBounds_toArray, List.set_cons_zero, List.set_cons_succ])))
    refine InText.nil fun w5 hF => ?_
    clear hT9
    clear cC
    replace hF := hF.tail
    have r := hF.rule 0 rfl
    go_wp2_with fail
    by_cases hc : chkI k s b h l = 0
    · obtain ⟨d, hC, hh0, hh1⟩ := dim_of hc
      have HI := Lib.hid (show IntKind.i64.wrap (IntKind.i64.wrap (3 + rootsI k s b h l) + IntKind.i64.wrap (s * IntKind.i64.wrap (7 + h))) = countI k s b h l by simp only [wrap_i]; rw [cell_wrap (by omega), ← hC, count_wrap d]; unfold countI; rw [if_pos hc])
      have c1 : Hid (∀ v, Calls Tryd.prog 14 #[.agg #[.int .i64 k, .int .i64 s, .int .i64 b, .int .i64 h, .int .i64 l]] v fun e w' => e = .returned (.int .i64 (rootsI k s b h l)) ∧ Below v.heap.size v w') := Lib.hid fun v => refRoots_any k s b h l v
      have HC := Lib.hid hc
      clear hc d hC hh0 hh1
      refine (refCheck_any _ _ _ _ _ _).mono ?_
      rintro e w2 ⟨rfl, hb⟩
      rw [HC.out]
      replace hF := hF.over hb
      clear hb r HC
      generalize rootsI k s b h l = R at *
      go_wp2_with fail
      refine wp_text (S := Fr w [(w.heap.size, [.int .i64 k, .int .i64 s, .int .i64 b, .int .i64 h, .int .i64 l])]) (by kernel_rfl) (by kernel_rfl) ?hS (fun hT => ?_)
      case hS => exact Fr.drew hF
      have hT9 := Lib.hid hT
      clear hT hF
      repeat (first
        | (refine text_value (v := ?_) hT9.out (by rfl) ?_ ?_; rotate_left; (focus (intro w5 hS; have r := hS.rule 0 rfl; go_simp <;> with_reducible rfl)); (try simp only [Act.put, List.setIfInBounds_toArray, List.set_cons_zero, List.set_cons_succ]))
        | (refine text_off hT9.out (by rfl) ?_; (try simp only [Act.put, List.setIfInBounds_toArray, List.set_cons_zero, List.set_cons_succ]))
        | (refine text_call (v := ?_) (f := ?_) (args := ?_) hT9.out (by rfl) ?_ ?_ ?_; rotate_left 3; (focus (intro w5 hS; have r := hS.rule 0 rfl; go_simp; constructor <;> with_reducible rfl)); (focus (intro w5 hS; (first | (with_reducible refine (c1.out _).mono ?_; rintro e w6 ⟨rfl, hb5⟩; constructor; with_reducible rfl; exact hS.over hb5)))); (try simp only [Act.put, List.setIfInBounds_toArray, List.set_cons_zero, List.set_cons_succ])))
      refine InText.nil fun w5 hF => ?_
      clear hT9
      rw [HI.out]
      clear c1 HI
      have r := hF.rule 0 rfl
      have c0 : Hid (∀ v, Calls Tryd.prog 16 #[.agg #[.int .i64 k, .int .i64 s, .int .i64 b, .int .i64 h, .int .i64 l]] v fun e w' => e = .returned (.int .i64 (countI k s b h l)) ∧ Below v.heap.size v w') := Lib.hid fun v => count_any k s b h l v
      cases hh : hasB k s b h l n
      · have hn := has_no hh
        have cA := Lib.hid (at_none hh)
        clear hh
        generalize countI k s b h l = N at *
        go_wp2_with fail
        refine (cA.out _).mono ?_
        rintro e w3 ⟨rfl, hb⟩
        replace hF := (hF.over hb).push w3.heap.size rfl [.int .i64 0, .int .i64 0, .int .i64 0] 25
        clear hb r cA
        have r := hF.rule 0 rfl
        have q := hF.rule 1 rfl
        rcases hn with hn | ⟨hn0, hn⟩
        · have b1 : decide (n < 0) = true := by simpa using hn
          go_wp2_with
            (with_reducible refine (c0.out _).mono ?_; rintro e w1 ⟨rfl, hb⟩; replace hF := hF.over hb; clear hb r q; have r := hF.rule 0 rfl; have q := hF.rule 1 rfl)
          go_ret
          exact ⟨ret_bool (by simp), hF.below⟩
        · have b1 : decide (n < 0) = false := by simpa using hn0
          go_wp2_with
            (with_reducible refine (c0.out _).mono ?_; rintro e w1 ⟨rfl, hb⟩; replace hF := hF.over hb; clear hb r q; have r := hF.rule 0 rfl; have q := hF.rule 1 rfl)
          go_ret
          exact ⟨ret_bool (by simp), hF.below⟩
      · have hn := has_in hh
        obtain ⟨q1, q2, q3, d1, d2, d3⟩ := at_some hh
        have cA := Lib.hid d1
        have cB := Lib.hid d2
        have cD := Lib.hid d3
        clear hh d1 d2 d3
        generalize countI k s b h l = N at *
        have b1 : decide (n < 0) = false := by simp; omega
        have b2 : decide (N ≤ n) = false := by simp; omega
        go_wp2_with fail
        refine (cA.out _).mono ?_
        rintro e w3 ⟨rfl, hb⟩
        replace hF := (hF.over hb).push w3.heap.size rfl [.int .i64 q1, .int .i64 q2, .int .i64 q3] 25
        clear hb r cA
        have r := hF.rule 0 rfl
        have q := hF.rule 1 rfl
        go_wp2_with (first
          |
            (with_reducible refine (c0.out _).mono ?_; rintro e w1 ⟨rfl, hb⟩; replace hF := hF.over hb; clear hb r q; have r := hF.rule 0 rfl; have q := hF.rule 1 rfl)
          |
            (with_reducible refine (cB.out _).mono ?_; rintro e w1 ⟨rfl, hb⟩; replace hF := hF.over hb; clear hb r q; have r := hF.rule 0 rfl; have q := hF.rule 1 rfl)
          |
            (with_reducible refine (cD.out _).mono ?_; rintro e w1 ⟨rfl, hb⟩; replace hF := hF.over hb; clear hb r q; have r := hF.rule 0 rfl; have q := hF.rule 1 rfl)
          )
        go_ret
        exact ⟨ret_bool (by simp), hF.below⟩
    · have c0 : Hid (∀ v, Calls Tryd.prog 16 #[.agg #[.int .i64 k, .int .i64 s, .int .i64 b, .int .i64 h, .int .i64 l]] v fun e w' => e = .returned (.int .i64 0) ∧ Below v.heap.size v w') := Lib.hid fun v => by have := count_any k s b h l v; rwa [show countI k s b h l = 0 by unfold countI; rw [if_neg hc]] at this
      have hh : hasB k s b h l n = false := by unfold hasB countI; rw [if_neg hc, decide_eq_false_iff_not]; omega
      have hn : n < 0 ∨ (¬ n < 0 ∧ (0 : Int) ≤ n) := by omega
      have cA := Lib.hid (at_none hh)
      have cK : Hid (∀ v, Calls Tryd.prog 13 #[.agg #[.int .i64 k, .int .i64 s, .int .i64 b, .int .i64 h, .int .i64 l]] v fun e w' => e = .returned (.int .i64 (chkI k s b h l)) ∧ Below v.heap.size v w') := Lib.hid fun v => refCheck_any k s b h l v
      have hc' : (chkI k s b h l == 0) = false := by simpa using hc
      clear hh
      generalize chkI k s b h l = E at *
      refine (cK.out _).mono ?_
      rintro e w2 ⟨rfl, hb⟩
      replace hF := hF.over hb
      clear hb r cK
      have r := hF.rule 0 rfl
      go_wp2_with fail
      refine (cA.out _).mono ?_
      rintro e w3 ⟨rfl, hb⟩
      replace hF := (hF.over hb).push w3.heap.size rfl [.int .i64 0, .int .i64 0, .int .i64 0] 25
      clear hb r cA
      have r := hF.rule 0 rfl
      have q := hF.rule 1 rfl
      rcases hn with hn | ⟨hn0, hn⟩
      · have b1 : decide (n < 0) = true := by simpa using hn
        go_wp2_with
          (with_reducible refine (c0.out _).mono ?_; rintro e w1 ⟨rfl, hb⟩; replace hF := hF.over hb; clear hb r q; have r := hF.rule 0 rfl; have q := hF.rule 1 rfl)
        go_ret
        exact ⟨ret_bool (by simp), hF.below⟩
      · have b1 : decide (n < 0) = false := by simpa using hn0
        go_wp2_with
          (with_reducible refine (c0.out _).mono ?_; rintro e w1 ⟨rfl, hb⟩; replace hF := hF.over hb; clear hb r q; have r := hF.rule 0 rfl; have q := hF.rule 1 rfl)
        go_ret
        exact ⟨ret_bool (by simp), hF.below⟩
end Go.Proofs.YtfajhblmjdjkbaaDoor.placeExact
