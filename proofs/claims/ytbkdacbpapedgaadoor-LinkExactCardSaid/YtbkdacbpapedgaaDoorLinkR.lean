/- Contracts of layer 2: the reference's functions, and the anchors of the statements. -/
import Derived.Test.YtbkdacbpapedgaaDoorLinkB
namespace Go.Proofs.YtbkdacbpapedgaaDoor
open Go.RowKit

set_option maxHeartbeats 800000 in
theorem refLinkIs_any (m : Bool) (s v : Int) (w : World) :
    Calls Tryd.prog 12 #[.agg #[.bool m, .int .i64 s, .int .i64 v]] w fun e w' => e = .returned (.bool (isL s v)) ∧ Below w.heap.size w w' := by
  by_cases h1 : 0 ≤ s
  · by_cases h2 : s < 8388608
    · by_cases h3 : 0 ≤ v
      · go_enter Tryd.func12, Tryd.ntmps12
        go_wp2
        go_ret
        exact ⟨ret_bool (by rw [Bool.eq_iff_iff]; simp [isL]; omega), (Below.refl _ _).alloc (Nat.le_refl _) _⟩
      · have hd : decide (0 ≤ v) = false := by simpa using h3
        go_enter Tryd.func12, Tryd.ntmps12
        go_wp2
        go_ret
        exact ⟨ret_bool (by simp [isL]; omega), (Below.refl _ _).alloc (Nat.le_refl _) _⟩
    · have hd : decide (s < 8388608) = false := by simpa using h2
      go_enter Tryd.func12, Tryd.ntmps12
      go_wp2
      go_ret
      exact ⟨ret_bool (by simp [isL]; omega), (Below.refl _ _).alloc (Nat.le_refl _) _⟩
  · have hd : decide (0 ≤ s) = false := by simpa using h1
    go_enter Tryd.func12, Tryd.ntmps12
    go_wp2
    go_ret
    exact ⟨ret_bool (by simp [isL]; omega), (Below.refl _ _).alloc (Nat.le_refl _) _⟩

set_option maxHeartbeats 800000 in
theorem refWord_any (m : Bool) (s v : Int) (w : World) :
    Calls Tryd.prog 14 #[.agg #[.bool m, .int .i64 s, .int .i64 v]] w fun e w' => e = .returned (.int .u64 (wordI m s v)) ∧ Below w.heap.size w w' := by
  cases h : isL s v
  · have H := Lib.hid h
    clear h
    go_enter Tryd.func14, Tryd.ntmps14
    go_wp2_with fail
    refine (refLinkIs_any m s v _).mono ?_
    rintro e w1 ⟨rfl, hb⟩
    rw [H.out]
    go_wp2_with fail
    go_ret
    exact ⟨ret_int (wordI_no H.out).symm, ((Below.refl _ _).alloc (Nat.le_refl _) _).trans (hb.mono (by simp))⟩
  · have hp := isL_parts h
    have H := Lib.hid h
    clear h
    obtain ⟨k0, k1, k2, k3⟩ := hp
    go_enter Tryd.func14, Tryd.ntmps14
    go_wp2_with fail
    refine (refLinkIs_any m s v _).mono ?_
    rintro e w1 ⟨rfl, hb⟩
    obtain ⟨d0, d1, d2, hB, hs⟩ := hold3 (n := w.heap.size) (w := w) (x := .bool m) (y := .int .i64 s) (z := .int .i64 v) (by simp) (by simp) (by simp) ((Below.refl _ _).alloc (Nat.le_refl _) _) (by simp) hb
    clear hb
    rw [H.out]
    cases m
    · have HW := Lib.hid (wordI_yes (m := false) H.out)
      go_wp2_with fail
      go_ret
      exact ⟨ret_int (by rw [HW.out]; simp [bitI]; omega), hB⟩
    · have HW := Lib.hid (wordI_yes (m := true) H.out)
      go_wp2_with fail
      go_ret
      exact ⟨ret_int (by rw [HW.out]; simp [bitI]; omega), hB⟩

set_option maxHeartbeats 800000 in
theorem refOf_any (x : Int) (w : World) (h0 : 0 ≤ x) (h1 : x ≤ 18446744073709551615) :
    Calls Tryd.prog 10 #[.int .u64 x] w fun e w' => e = .returned (.agg #[.bool (markB x), .int .i64 (slotI x), .int .i64 (verI x)]) ∧ Below w.heap.size w w' := by
  obtain ⟨s0, s1⟩ := slotI_in x
  obtain ⟨v0, v1⟩ := verI_in x
  go_enter Tryd.func10, Tryd.ntmps10
  go_wp2_with fail
  exact bodyPost_ret (v := .agg #[.bool (markB x), .int .i64 (slotI x), .int .i64 (verI x)]) (by simp [results, Tryd.results10, go_sem, markB, slotI, verI]) rfl ⟨rfl, (Below.refl _ _).alloc (Nat.le_refl _) _⟩

set_option maxHeartbeats 800000 in
theorem form_any (m : Bool) (s v : Int) (w : World) :
    Calls Tryd.prog 8 #[.agg #[.bool m, .int .i64 s, .int .i64 v]] w fun e w' => e = .returned (.agg #[.bool m, .int .i64 s, .int .i64 v]) ∧ Below w.heap.size w w' := by
  go_enter Tryd.func8, Tryd.ntmps8
  go_wp2_with fail
  exact bodyPost_ret (v := .agg #[.bool m, .int .i64 s, .int .i64 v]) (by simp [results, Tryd.results8, go_sem]) rfl ⟨rfl, ((Below.refl _ _).alloc (Nat.le_refl _) _).alloc (by simp) _⟩
end Go.Proofs.YtbkdacbpapedgaaDoor
