/- PlaceExact: what the calls of the law come to. -/
import Derived.Test.YtfajhblmjdjkbaaDoorPlaceE
import Derived.Test.YtfajhblmjdjkbaaDoorPlaceW
import Derived.Test.YtfajhblmjdjkbaaDoorPlaceG
import Derived.Test.YtfajhblmjdjkbaaDoorOpenFlat
import Derived.Test.YtfajhblmjdjkbaaDoorCards
namespace Go.Proofs.YtfajhblmjdjkbaaDoor.placeExact
open Go.ChangeShapes Go.WideShapes Go.ChangeAt Go.RowKit

theorem content (x z : Int) : (x ≠ 5) ∨ (x = 5 ∧ z < 0) ∨ (x = 5 ∧ z = 1) ∨ (x = 5 ∧ z = 2) ∨ (x = 5 ∧ 0 ≤ z ∧ z ≠ 1 ∧ z ≠ 2) := by omega
theorem has_in {k s b h l n : Int} (hn : hasB k s b h l n = true) : 0 ≤ n ∧ n < countI k s b h l := by
  unfold hasB at hn
  rwa [decide_eq_true_iff] at hn
theorem has_no {k s b h l n : Int} (hn : hasB k s b h l n = false) : n < 0 ∨ (¬ n < 0 ∧ countI k s b h l ≤ n) := by
  unfold hasB at hn
  rw [decide_eq_false_iff_not] at hn
  omega
theorem at_none {k s b h l n : Int} (hn : hasB k s b h l n = false) (v : World) : Calls Tryd.prog 15 #[.agg #[.int .i64 k, .int .i64 s, .int .i64 b, .int .i64 h, .int .i64 l], .int .i64 n] v fun e w' => e = .returned (.tuple #[.agg #[.int .i64 0, .int .i64 0, .int .i64 0], .bool false]) ∧ Below v.heap.size v w' := by
  have := at_any k s b h l n v
  rwa [hn, show atI k s b h l n = (0, 0, 0) by unfold atI; rw [hn]; rfl] at this
theorem at_some {k s b h l n : Int} (hn : hasB k s b h l n = true) : ∃ (q1 q2 q3 : Int),
    (∀ v, Calls Tryd.prog 15 #[.agg #[.int .i64 k, .int .i64 s, .int .i64 b, .int .i64 h, .int .i64 l], .int .i64 n] v fun e w' => e = .returned (.tuple #[.agg #[.int .i64 q1, .int .i64 q2, .int .i64 q3], .bool true]) ∧ Below v.heap.size v w') ∧
    (∀ v, Calls Tryd.prog 8 #[.agg #[.int .i64 k, .int .i64 s, .int .i64 b, .int .i64 h, .int .i64 l], .agg #[.int .i64 q1, .int .i64 q2, .int .i64 q3]] v fun e w' => e = .returned (.bool true) ∧ Below v.heap.size v w') ∧
    (∀ v, Calls Tryd.prog 11 #[.agg #[.int .i64 k, .int .i64 s, .int .i64 b, .int .i64 h, .int .i64 l], .agg #[.int .i64 q1, .int .i64 q2, .int .i64 q3]] v fun e w' => e = .returned (.int .i64 n) ∧ Below v.heap.size v w') := by
  have hA : atI k s b h l n = atP (rootsI k s b h l) (cellsI k s b h l) n := by unfold atI; rw [hn]; rfl
  have hn' := has_in hn
  have hc : chkI k s b h l = 0 := by
    by_cases hc : chkI k s b h l = 0
    · exact hc
    · have : countI k s b h l = 0 := by simp [countI, hc]
      omega
  obtain ⟨d, -, -, -⟩ := dim_of hc
  have hN : countI k s b h l = 3 + rootsI k s b h l + s * cellsI k s b h l := by unfold countI; rw [if_pos hc]
  obtain ⟨h1, h2⟩ := at_is d hn'.1 (by omega)
  have f1 : placeB k s b h l (atI k s b h l n).1 (atI k s b h l n).2.1 (atI k s b h l n).2.2 = true := by rw [hA, placeB_ok hc]; exact h1
  have f2 : placeI k s b h l (atI k s b h l n).1 (atI k s b h l n).2.1 (atI k s b h l n).2.2 = n := by
    unfold placeI
    rw [f1, if_pos rfl, hA, h2]
  refine ⟨(atI k s b h l n).1, (atI k s b h l n).2.1, (atI k s b h l n).2.2, fun v => ?_, fun v => ?_, fun v => ?_⟩
  · have := at_any k s b h l n v
    rwa [hn] at this
  · have := refIs_any k s b h l (atI k s b h l n).1 (atI k s b h l n).2.1 (atI k s b h l n).2.2 v
    rwa [f1] at this
  · have := refNumber_any k s b h l (atI k s b h l n).1 (atI k s b h l n).2.1 (atI k s b h l n).2.2 f1 v
    rwa [f2] at this

end Go.Proofs.YtfajhblmjdjkbaaDoor.placeExact
