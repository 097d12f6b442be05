/- Layer 3: the anchors of the statements. -/
import Derived.Test.YtmcjjkljkccgoaaConfB
import Derived.Lib.SmallJoins
namespace Go.Proofs.Ytmcjjkljkccgoaa
open Go.RowKit

set_option maxHeartbeats 400000 in
theorem list_any (s : Int) (w : World) : Calls Try.prog 16 #[.int .i64 s] w fun e w' => e = .returned (.agg #[.int .i64 1, .int .i64 s, .int .i64 0, .int .i64 1, .int .i64 100]) ∧ Below w.heap.size w w' := by
  go_enter Try.func16, Try.ntmps16
  go_wp2
  exact bodyPost_ret (v := .agg #[.int .i64 1, .int .i64 s, .int .i64 0, .int .i64 1, .int .i64 100]) (by simp [results, Try.results16, go_sem]) rfl ⟨rfl, (Below.refl _ _).alloc (Nat.le_refl _) _⟩

theorem aw3_nums : chkI 1 8 0 1 100 = 0 ∧ chkI 0 0 0 0 0 = 8 ∧ chkI 1 0 0 1 100 = 3 ∧ aloneI 1 8 0 1 100 = 1536 ∧ winI 1 8 0 1 100 2 = 69120 ∧ winB 1 8 0 1 100 2 = true ∧ cellsI 1 8 0 1 100 = 8 ∧ rootsI 1 8 0 1 100 = 1 := by decide +kernel
theorem aw_check1 (w : World) : Calls Try.prog 8 #[.agg #[.int .i64 1, .int .i64 8, .int .i64 0, .int .i64 1, .int .i64 100]] w fun e w' => e = .returned (.int .i64 0) ∧ Below w.heap.size w w' := by
  have := check_any 1 8 0 1 100 w
  rwa [aw3_nums.1] at this
theorem aw_check2 (w : World) : Calls Try.prog 8 #[.agg #[.int .i64 0, .int .i64 0, .int .i64 0, .int .i64 0, .int .i64 0]] w fun e w' => e = .returned (.int .i64 8) ∧ Below w.heap.size w w' := by
  have := check_any 0 0 0 0 0 w
  rwa [aw3_nums.2.1] at this
theorem aw_check3 (w : World) : Calls Try.prog 8 #[.agg #[.int .i64 1, .int .i64 0, .int .i64 0, .int .i64 1, .int .i64 100]] w fun e w' => e = .returned (.int .i64 3) ∧ Below w.heap.size w w' := by
  have := check_any 1 0 0 1 100 w
  rwa [aw3_nums.2.2.1] at this
theorem aw_alone (w : World) : Calls Try.prog 15 #[.agg #[.int .i64 1, .int .i64 8, .int .i64 0, .int .i64 1, .int .i64 100]] w fun e w' => e = .returned (.int .i64 1536) ∧ Below w.heap.size w w' := by
  have := alone_any 1 8 0 1 100 w
  rwa [aw3_nums.2.2.2.1] at this
theorem aw_window (w : World) : Calls Try.prog 13 #[.agg #[.int .i64 1, .int .i64 8, .int .i64 0, .int .i64 1, .int .i64 100], .int .i64 2] w fun e w' => e = .returned (.tuple #[.int .i64 69120, .bool true]) ∧ Below w.heap.size w w' := by
  have := window_any 1 8 0 1 100 2 w
  rwa [aw3_nums.2.2.2.2.1, aw3_nums.2.2.2.2.2.1] at this
theorem aw_cells (w : World) : Calls Try.prog 14 #[.agg #[.int .i64 1, .int .i64 8, .int .i64 0, .int .i64 1, .int .i64 100]] w fun e w' => e = .returned (.int .i64 8) ∧ Below w.heap.size w w' := by
  have := cells_any 1 8 0 1 100 w
  rwa [aw3_nums.2.2.2.2.2.2.1] at this
theorem aw_roots (w : World) : Calls Try.prog 9 #[.agg #[.int .i64 1, .int .i64 8, .int .i64 0, .int .i64 1, .int .i64 100]] w fun e w' => e = .returned (.int .i64 1) ∧ Below w.heap.size w w' := by
  have := roots_any 1 8 0 1 100 w
  rwa [aw3_nums.2.2.2.2.2.2.2] at this

set_option maxHeartbeats 1600000 in
theorem awake3 (w : World) : Calls Try.prog 6 #[] w fun e w' => e = .returned (.bool true) ∧ Below w.heap.size w w' := by
  have hF := Fr.start w
  go_enter Try.func6, Try.ntmps6
  go_wp2_with (first
    |
      (with_reducible refine (list_any _ _).mono ?_; rintro e w1 ⟨rfl, hb⟩; replace hF := hF.over hb; clear hb)
    |
      (with_reducible refine (aw_window _).mono ?_; rintro e w1 ⟨rfl, hb⟩; replace hF := hF.over hb; clear hb)
    |
      (with_reducible refine (aw_check1 _).mono ?_; rintro e w1 ⟨rfl, hb⟩; replace hF := hF.over hb; clear hb)
    |
      (with_reducible refine (aw_check2 _).mono ?_; rintro e w1 ⟨rfl, hb⟩; replace hF := hF.over hb; clear hb)
    |
      (with_reducible refine (aw_check3 _).mono ?_; rintro e w1 ⟨rfl, hb⟩; replace hF := hF.over hb; clear hb)
    |
      (with_reducible refine (aw_alone _).mono ?_; rintro e w1 ⟨rfl, hb⟩; replace hF := hF.over hb; clear hb)
    |
      (with_reducible refine (aw_cells _).mono ?_; rintro e w1 ⟨rfl, hb⟩; replace hF := hF.over hb; clear hb)
    |
      (with_reducible refine (aw_roots _).mono ?_; rintro e w1 ⟨rfl, hb⟩; replace hF := hF.over hb; clear hb)
    )
  go_ret
  exact ⟨rfl, hF.below⟩
end Go.Proofs.Ytmcjjkljkccgoaa
