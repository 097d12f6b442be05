/- Layer 5: the anchor of the statements. -/
import Derived.Test.YtfajhblmjdjkbaaDoorPlaceC
import Derived.Test.YtfajhblmjdjkbaaDoorPlaceS
namespace Go.Proofs.YtfajhblmjdjkbaaDoor
open Go.RowKit

theorem aw5_nums : chkI 3 4 0 3 9 = 0 ∧ placeI 3 4 0 3 9 5 2 8 = 24 ∧ placeB 3 4 0 3 9 5 2 8 = true ∧ atI 3 4 0 3 9 24 = (5, 2, 8) ∧ hasB 3 4 0 3 9 24 = true ∧ countI 3 4 0 3 9 = 46 ∧ placeB 3 4 0 3 9 4 0 2 = true ∧ placeB 3 4 0 3 9 4 0 3 = false ∧ contB 5 8 = true ∧ contB 5 2 = false := by decide +kernel
theorem aw_link (w : World) : Calls Tryd.prog 22 #[.int .i64 2, .int .i64 1] w fun e w' => e = .returned (.agg #[.int .i64 5, .int .i64 2, .int .i64 8]) ∧ Below w.heap.size w w' := by
  have := link_any 2 1 w
  rwa [w64 (7 + 1) (by decide)] at this
theorem aw_number (w : World) : Calls Tryd.prog 9 #[.agg #[.int .i64 3, .int .i64 4, .int .i64 0, .int .i64 3, .int .i64 9], .agg #[.int .i64 5, .int .i64 2, .int .i64 8]] w fun e w' => e = .returned (.tuple #[.int .i64 24, .bool true]) ∧ Below w.heap.size w w' := by
  have := number_any 3 4 0 3 9 5 2 8 w
  rwa [aw5_nums.2.1, aw5_nums.2.2.1] at this
theorem aw_at (w : World) : Calls Tryd.prog 15 #[.agg #[.int .i64 3, .int .i64 4, .int .i64 0, .int .i64 3, .int .i64 9], .int .i64 24] w fun e w' => e = .returned (.tuple #[.agg #[.int .i64 5, .int .i64 2, .int .i64 8], .bool true]) ∧ Below w.heap.size w w' := by
  have := at_any 3 4 0 3 9 24 w
  rwa [aw5_nums.2.2.2.1, aw5_nums.2.2.2.2.1] at this
theorem aw_count (w : World) : Calls Tryd.prog 16 #[.agg #[.int .i64 3, .int .i64 4, .int .i64 0, .int .i64 3, .int .i64 9]] w fun e w' => e = .returned (.int .i64 46) ∧ Below w.heap.size w w' := by
  have := count_any 3 4 0 3 9 w
  rwa [aw5_nums.2.2.2.2.2.1] at this
theorem aw_is2 (w : World) : Calls Tryd.prog 10 #[.agg #[.int .i64 3, .int .i64 4, .int .i64 0, .int .i64 3, .int .i64 9], .agg #[.int .i64 4, .int .i64 0, .int .i64 2]] w fun e w' => e = .returned (.bool true) ∧ Below w.heap.size w w' := by
  have := is_any 3 4 0 3 9 4 0 2 w
  rwa [aw5_nums.2.2.2.2.2.2.1] at this
theorem aw_is3 (w : World) : Calls Tryd.prog 10 #[.agg #[.int .i64 3, .int .i64 4, .int .i64 0, .int .i64 3, .int .i64 9], .agg #[.int .i64 4, .int .i64 0, .int .i64 3]] w fun e w' => e = .returned (.bool false) ∧ Below w.heap.size w w' := by
  have := is_any 3 4 0 3 9 4 0 3 w
  rwa [aw5_nums.2.2.2.2.2.2.2.1] at this
theorem aw_cont1 (w : World) : Calls Tryd.prog 12 #[.agg #[.int .i64 5, .int .i64 2, .int .i64 8]] w fun e w' => e = .returned (.bool true) ∧ Below w.heap.size w w' := by
  have := isContent_any 5 2 8 w
  rwa [aw5_nums.2.2.2.2.2.2.2.2.1] at this
theorem aw_cont2 (w : World) : Calls Tryd.prog 12 #[.agg #[.int .i64 5, .int .i64 1, .int .i64 2]] w fun e w' => e = .returned (.bool false) ∧ Below w.heap.size w w' := by
  have := isContent_any 5 1 2 w
  rwa [aw5_nums.2.2.2.2.2.2.2.2.2] at this
theorem aw_name_nums : nameL 5 2 8 = [115, 108, 111, 116, 32, 50, 32, 110, 101, 120, 116, 32, 49] ∧ nameL 1 0 0 = [101, 112, 111, 99, 104] := by
  have e2 : Lib.itoa 2 = [50] := by rw [show (2 : Int) = ((2 : Nat) : Int) from rfl, Lib.itoa_nonneg, Lib.decDigits_one (by decide)]; rfl
  have e1 : Lib.itoa 1 = [49] := by rw [show (1 : Int) = ((1 : Nat) : Int) from rfl, Lib.itoa_nonneg, Lib.decDigits_one (by decide)]; rfl
  refine ⟨?_, rfl⟩
  show [115, 108, 111, 116, 32] ++ Lib.itoa 2 ++ [32] ++ ([110, 101, 120, 116, 32] ++ Lib.itoa 1) = _
  rw [e1, e2]
  rfl
theorem aw_name1 (w : World) (hg : Glo w) : Calls Tryd.prog 23 #[.agg #[.int .i64 5, .int .i64 2, .int .i64 8]] w fun e w' => e = .returned (.string ⟨#[115, 108, 111, 116, 32, 50, 32, 110, 101, 120, 116, 32, 49]⟩) ∧ Below w.heap.size w w' := by
  have := name_any 5 2 8 (by decide) (by decide) w hg
  rw [aw_name_nums.1] at this
  exact this
theorem aw_name2 (w : World) (hg : Glo w) : Calls Tryd.prog 23 #[.agg #[.int .i64 1, .int .i64 0, .int .i64 0]] w fun e w' => e = .returned (.string ⟨#[101, 112, 111, 99, 104]⟩) ∧ Below w.heap.size w w' := by
  have := name_any 1 0 0 (by decide) (by decide) w hg
  rw [aw_name_nums.2] at this
  exact this

set_option maxRecDepth 100000 in
set_option maxHeartbeats 6400000 in
theorem awake5 (w : World) (hg : Glo w) : Calls Tryd.prog 7 #[] w fun e w' => e = .returned (.bool true) ∧ Below w.heap.size w w' := by
  have hF := (Fr.start w).push w.heap.size rfl [.int .i64 3, .int .i64 4, .int .i64 0, .int .i64 3, .int .i64 9] 23
  have r := hF.rule 0 rfl
  have HG := Lib.hid hg
  clear hg
  go_enter Tryd.func7, Tryd.ntmps7
  go_wp2_with fail
  clear r
  refine wp_text (S := Fr w [(w.heap.size, [.int .i64 3, .int .i64 4, .int .i64 0, .int .i64 3, .int .i64 9])]) (by kernel_rfl) (by kernel_rfl) ?hS (fun hT => ?_)
  case hS => exact Fr.drew hF
  have hT9 := Lib.hid hT
  clear hT hF
  repeat (first
    | (refine text_value (v := ?_) hT9.out (by rfl) ?_ ?_; rotate_left; (focus (intro w5 hS; have r := hS.rule 0 rfl; go_simp <;> with_reducible rfl)); (try simp only [Act.put, List.setIfInBounds_toArray, List.set_cons_zero, List.set_cons_succ]))
    | (refine text_off hT9.out (by rfl) ?_; (try simp only [Act.put, List.setIfInBounds_toArray, List.set_cons_zero, List.set_cons_succ]))
    | (refine text_call (v := ?_) (f := ?_) (args := ?_) hT9.out (by rfl) ?_ ?_ ?_; rotate_left 3; (focus (intro w5 hS; have r := hS.rule 0 rfl; go_simp; constructor <;> with_reducible rfl)); (focus (intro w5 hS; (first | (with_reducible refine (aw_link _).mono ?_; rintro e w6 ⟨rfl, hb5⟩; constructor; with_reducible rfl; exact hS.over hb5) | (with_reducible refine (aw_number _).mono ?_; rintro e w6 ⟨rfl, hb5⟩; constructor; with_reducible rfl; exact hS.over hb5)))); (try simp only [Act.put, List.setIfInBounds_toArray, List.set_cons_zero, List.set_cons_succ])))
  refine InText.nil fun w5 hF => ?_
  clear hT9
  have r := hF.rule 0 rfl
  go_wp2_with fail
  refine (aw_at _).mono ?_
  rintro e w1 ⟨rfl, hb⟩
  replace hF := (hF.over hb).push w1.heap.size rfl [.int .i64 5, .int .i64 2, .int .i64 8] 25
  clear hb r
  go_wp2_with fail
  generalize w1.heap.size = N at *
  refine wp_text (S := Fr w [(N, [.int .i64 5, .int .i64 2, .int .i64 8]), (w.heap.size, [.int .i64 3, .int .i64 4, .int .i64 0, .int .i64 3, .int .i64 9])]) (by kernel_rfl) (by kernel_rfl) ?hS (fun hT => ?_)
  case hS => exact Fr.drew hF
  have hT9 := Lib.hid hT
  clear hT hF
  repeat (first
    | (refine text_value (v := ?_) hT9.out (by rfl) ?_ ?_; rotate_left; (focus (intro w5 hS; have r := hS.rule 0 rfl; have q := hS.rule 1 rfl; go_simp <;> with_reducible rfl)); (try simp only [Act.put, List.setIfInBounds_toArray, List.set_cons_zero, List.set_cons_succ]))
    | (refine text_off hT9.out (by rfl) ?_; (try simp only [Act.put, List.setIfInBounds_toArray, List.set_cons_zero, List.set_cons_succ]))
    | (refine text_call (v := ?_) (f := ?_) (args := ?_) hT9.out (by rfl) ?_ ?_ ?_; rotate_left 3; (focus (intro w5 hS; have r := hS.rule 0 rfl; have q := hS.rule 1 rfl; go_simp; constructor <;> with_reducible rfl)); (focus (intro w5 hS; (first | (with_reducible refine (aw_link _).mono ?_; rintro e w6 ⟨rfl, hb5⟩; constructor; with_reducible rfl; exact hS.over hb5) | (with_reducible refine (aw_count _).mono ?_; rintro e w6 ⟨rfl, hb5⟩; constructor; with_reducible rfl; exact hS.over hb5) | (with_reducible refine (aw_name1 _ (HG.out.keep hS.below (Nat.le_refl _))).mono ?_; rintro e w6 ⟨rfl, hb5⟩; constructor; with_reducible rfl; exact hS.over hb5) | (with_reducible refine (aw_name2 _ (HG.out.keep hS.below (Nat.le_refl _))).mono ?_; rintro e w6 ⟨rfl, hb5⟩; constructor; with_reducible rfl; exact hS.over hb5) | (with_reducible refine (epoch_any _).mono ?_; rintro e w6 ⟨rfl, hb5⟩; constructor; with_reducible rfl; exact hS.over hb5) | (with_reducible refine (root_any _ _).mono ?_; rintro e w6 ⟨rfl, hb5⟩; constructor; with_reducible rfl; exact hS.over hb5) | (with_reducible refine (of_any _ _ _).mono ?_; rintro e w6 ⟨rfl, hb5⟩; constructor; with_reducible rfl; exact hS.over hb5) | (with_reducible refine (aw_is2 _).mono ?_; rintro e w6 ⟨rfl, hb5⟩; constructor; with_reducible rfl; exact hS.over hb5) | (with_reducible refine (aw_is3 _).mono ?_; rintro e w6 ⟨rfl, hb5⟩; constructor; with_reducible rfl; exact hS.over hb5) | (with_reducible refine (aw_cont1 _).mono ?_; rintro e w6 ⟨rfl, hb5⟩; constructor; with_reducible rfl; exact hS.over hb5) | (with_reducible refine (aw_cont2 _).mono ?_; rintro e w6 ⟨rfl, hb5⟩; constructor; with_reducible rfl; exact hS.over hb5)))); (try simp only [Act.put, List.setIfInBounds_toArray, List.set_cons_zero, List.set_cons_succ])))
  refine InText.nil fun w5 hF => ?_
  clear hT9
  go_wp2_with fail
  go_ret
  exact ⟨rfl, hF.below⟩
end Go.Proofs.YtfajhblmjdjkbaaDoor
