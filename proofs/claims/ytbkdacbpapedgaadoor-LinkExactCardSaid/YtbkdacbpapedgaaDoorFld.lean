/- Contracts of layer 1's own functions: Is, Max, Get, mask, Put. -/
import Derived.Test.YtbkdacbpapedgaaDoorRows
import Derived.Test.YtbkdacbpapedgaaDoorFieldM
import Derived.WalkSpells
import Derived.Lib.Hide
import Derived.Deep.RegionHeld3
namespace Go.Proofs.YtbkdacbpapedgaaDoor
open Go.RowKit

theorem ret_bool {x y : Bool} (h : x = y) : Ending.returned (.bool x) = .returned (.bool y) := congrArg (fun z => Ending.returned (.bool z)) h
theorem ret_int {k : IntKind} {x y : Int} (h : x = y) : Ending.returned (.int k x) = .returned (.int k y) := congrArg (fun z => Ending.returned (.int k z)) h

set_option maxHeartbeats 400000 in
theorem is_any (a b : Int) (w : World) (ha : a ≤ 9223372036854775807) (_hb : -9223372036854775808 ≤ b) :
    Calls Tryd.prog 26 #[.agg #[.int .i64 a, .int .i64 b]] w fun e w' => e = .returned (.bool (isB a b)) ∧ Below w.heap.size w w' := by
  by_cases h1 : 0 ≤ a
  · by_cases h2 : 1 ≤ b
    · go_enter Tryd.func26, Tryd.ntmps26
      go_wp2
      go_ret
      exact ⟨ret_bool (by simp [isB, h1, h2]), (Below.refl _ _).alloc (Nat.le_refl _) _⟩
    · go_enter Tryd.func26, Tryd.ntmps26
      go_wp2
      go_ret
      exact ⟨ret_bool (by simp [isB]; omega), (Below.refl _ _).alloc (Nat.le_refl _) _⟩
  · go_enter Tryd.func26, Tryd.ntmps26
    go_wp2
    go_ret
    exact ⟨ret_bool (by simp [isB]; omega), (Below.refl _ _).alloc (Nat.le_refl _) _⟩

theorem ret_int_bool {k : IntKind} {x y : Int} {c : Bool} (h : x = y) : Ending.returned (.tuple #[.int k x, .bool c]) = .returned (.tuple #[.int k y, .bool c]) := by rw [h]

/-- What stood below B reads on as it did. -/
theorem old_cell {B : Nat} {v v' : World} (h : Below B v v') (n k : Nat) (hn : n < B) : v'.cell? ⟨n, k, none⟩ = v.cell? ⟨n, k, none⟩ := Below.cell h (p := ⟨n, k, none⟩) hn
theorem old_frozen {B : Nat} {v v' : World} (h : Below B v v') (n k : Nat) (hn : n < B) : v'.frozen? ⟨n, k, none⟩ = v.frozen? ⟨n, k, none⟩ := Below.frozen h (p := ⟨n, k, none⟩) hn

/-- What stands above block n is the call's own. -/
theorem hold_step {n : Nat} {w w1 w2 : World} {x y : Value} (c0 : w1.cell? ⟨n, 0, none⟩ = some x) (c1 : w1.cell? ⟨n, 1, none⟩ = some y) (hB : Below n w w1) (hs : n < w1.heap.size) (hb : Below w1.heap.size w1 w2) :
    w2.cell? ⟨n, 0, none⟩ = some x ∧ w2.cell? ⟨n, 1, none⟩ = some y ∧ Below n w w2 ∧ n < w2.heap.size :=
  ⟨by rw [hb.cell (p := ⟨n, 0, none⟩) hs]; exact c0, by rw [hb.cell (p := ⟨n, 1, none⟩) hs]; exact c1, hB.trans (hb.mono (by omega)), by have := hb.size; omega⟩

set_option maxHeartbeats 400000 in
theorem max_any (a b : Int) (w : World) (ha : a ≤ 9223372036854775807) (hb : -9223372036854775808 ≤ b) :
    Calls Tryd.prog 27 #[.agg #[.int .i64 a, .int .i64 b]] w fun e w' => e = .returned (.int .u64 (maxI a b)) ∧ Below w.heap.size w w' := by
  cases h : isB a b
  · have H := Lib.hid h
    clear h
    go_enter Tryd.func27, Tryd.ntmps27
    go_wp2_with fail
    refine (is_any a b _ ha hb).mono ?_
    rintro e w1 ⟨rfl, hb⟩
    rw [H.out]
    go_wp2
    go_ret
    exact ⟨ret_int (maxI_no H.out).symm, ((Below.refl _ _).alloc (Nat.le_refl _) _).trans (hb.mono (by simp))⟩
  · have hp := isB_parts h
    have H := Lib.hid h
    clear h
    go_enter Tryd.func27, Tryd.ntmps27
    go_wp2_with fail
    refine (is_any a b _ ha hb).mono ?_
    rintro e w1 ⟨rfl, hb⟩
    rw [H.out]
    have hc := old_cell hb
    have hf := old_frozen hb
    go_wp2
    go_ret
    refine ⟨ret_int ?_, ((Below.refl _ _).alloc (Nat.le_refl _) _).trans (hb.mono (by simp))⟩
    rw [maxI_yes H.out, show (64 - b).toNat = 64 - b.toNat by omega]
    exact ones_shift _ (by omega)

set_option maxHeartbeats 400000 in
theorem get_any (a b x : Int) (w : World) (ha : a ≤ 9223372036854775807) (hb : -9223372036854775808 ≤ b) (h0 : 0 ≤ x) (h1 : x ≤ 18446744073709551615) :
    Calls Tryd.prog 24 #[.agg #[.int .i64 a, .int .i64 b], .int .u64 x] w fun e w' => e = .returned (.int .u64 (getI a b x)) ∧ Below w.heap.size w w' := by
  go_enter Tryd.func24, Tryd.ntmps24
  go_wp2_with fail
  go_region_held3 (fun w' => w'.cell? ⟨w.heap.size, 0, none⟩ = some (.int .i64 a) ∧ w'.cell? ⟨w.heap.size, 1, none⟩ = some (.int .i64 b) ∧ Below w.heap.size w w' ∧ w.heap.size < w'.heap.size)
    (first | (go_split_ands; exact hold_step (by assumption) (by assumption) (by assumption) (by assumption) (by assumption)) | (refine ⟨?_, ?_, ?_, ?_⟩ <;> first | exact ((Below.refl _ _).alloc (Nat.le_refl _) _).drew | go_keep | simp))
    (first | (go_at_call 27; refine (max_any a b _ ha hb).mono ?_; rintro e w1 ⟨rfl, hb1⟩))
  all_goals
    go_wp2
    go_ret
    go_split_ands
    exact ⟨ret_int (get_eq a b x h0 h1), by assumption⟩

set_option maxHeartbeats 400000 in
theorem mask_any (a b : Int) (w : World) (ha : a ≤ 9223372036854775807) (hb : -9223372036854775808 ≤ b) :
    Calls Tryd.prog 28 #[.agg #[.int .i64 a, .int .i64 b]] w fun e w' => e = .returned (.int .u64 (maskI a b)) ∧ Below w.heap.size w w' := by
  go_enter Tryd.func28, Tryd.ntmps28
  go_wp2_with fail
  go_region_held3 (fun w' => w'.cell? ⟨w.heap.size, 0, none⟩ = some (.int .i64 a) ∧ w'.cell? ⟨w.heap.size, 1, none⟩ = some (.int .i64 b) ∧ Below w.heap.size w w' ∧ w.heap.size < w'.heap.size)
    (first | (go_split_ands; exact hold_step (by assumption) (by assumption) (by assumption) (by assumption) (by assumption)) | (refine ⟨?_, ?_, ?_, ?_⟩ <;> first | exact ((Below.refl _ _).alloc (Nat.le_refl _) _).drew | go_keep | simp))
    (first | (go_at_call 27; refine (max_any a b _ ha hb).mono ?_; rintro e w1 ⟨rfl, hb1⟩))
  all_goals
    go_wp2
    go_ret
    go_split_ands
    exact ⟨ret_int (mask_eq a b), by assumption⟩

set_option maxHeartbeats 400000 in
theorem put_no (a b x y : Int) (w : World) (ha : a ≤ 9223372036854775807) (hb : -9223372036854775808 ≤ b) (h : isB a b = false) :
    Calls Tryd.prog 23 #[.agg #[.int .i64 a, .int .i64 b], .int .u64 x, .int .u64 y] w fun e w' => e = .returned (.tuple #[.int .u64 0, .bool false]) ∧ Below w.heap.size w w' := by
  have H := Lib.hid h
  clear h
  go_enter Tryd.func23, Tryd.ntmps23
  go_wp2_with fail
  refine (is_any a b _ ha hb).mono ?_
  rintro e w1 ⟨rfl, hb⟩
  rw [H.out]
  go_wp2_with fail
  go_ret2
  exact ⟨rfl, ((Below.refl _ _).alloc (Nat.le_refl _) _).trans (hb.mono (by simp))⟩

set_option maxHeartbeats 400000 in
theorem put_above (a b x y : Int) (w : World) (ha : a ≤ 9223372036854775807) (hb : -9223372036854775808 ≤ b) (h : isB a b = true) (hy : maxI a b < y) :
    Calls Tryd.prog 23 #[.agg #[.int .i64 a, .int .i64 b], .int .u64 x, .int .u64 y] w fun e w' => e = .returned (.tuple #[.int .u64 0, .bool false]) ∧ Below w.heap.size w w' := by
  have H := Lib.hid h
  clear h
  go_enter Tryd.func23, Tryd.ntmps23
  go_wp2_with fail
  refine (is_any a b _ ha hb).mono ?_
  rintro e w1 ⟨rfl, hb1⟩
  rw [H.out]
  have hc := old_cell hb1
  have hf := old_frozen hb1
  go_wp2_with fail
  refine (max_any a b _ ha hb).mono ?_
  rintro e w2 ⟨rfl, hb2⟩
  go_wp2_with fail
  go_ret2
  exact ⟨rfl, (((Below.refl _ _).alloc (Nat.le_refl _) _).trans (hb1.mono (by simp))).trans (hb2.mono (by have := hb1.size; simp at this; omega))⟩

set_option maxHeartbeats 400000 in
theorem put_yes (a b x y : Int) (w : World) (ha : a ≤ 9223372036854775807) (hb : -9223372036854775808 ≤ b) (h : isB a b = true) (hx0 : 0 ≤ x) (hx1 : x ≤ 18446744073709551615) (hy0 : 0 ≤ y) (hy : y ≤ maxI a b) :
    Calls Tryd.prog 23 #[.agg #[.int .i64 a, .int .i64 b], .int .u64 x, .int .u64 y] w fun e w' => e = .returned (.tuple #[.int .u64 (putI a b x y), .bool true]) ∧ Below w.heap.size w w' := by
  have hp := isB_parts h
  have H := Lib.hid h
  clear h
  go_enter Tryd.func23, Tryd.ntmps23
  go_wp2_with fail
  refine (is_any a b _ ha hb).mono ?_
  rintro e w1 ⟨rfl, hb1⟩
  rw [H.out]
  have hc := old_cell hb1
  have hf := old_frozen hb1
  go_wp2_with fail
  refine (max_any a b _ ha hb).mono ?_
  rintro e w2 ⟨rfl, hb2⟩
  have hs1 := hb1.size
  have hs2 := hb2.size
  simp at hs1
  have c0 : w2.cell? ⟨w.heap.size, 0, none⟩ = some (.int .i64 a) := by rw [hb2.cell (p := ⟨w.heap.size, 0, none⟩) (by simp; omega), hc _ _ (by simp)]; simp
  have c1 : w2.cell? ⟨w.heap.size, 1, none⟩ = some (.int .i64 b) := by rw [hb2.cell (p := ⟨w.heap.size, 1, none⟩) (by simp; omega), hc _ _ (by simp)]; simp
  have hB : Below w.heap.size w w2 := (((Below.refl _ _).alloc (Nat.le_refl _) _).trans (hb1.mono (by simp))).trans (hb2.mono (by omega))
  have hlt : w.heap.size < w2.heap.size := by omega
  clear hc hf hb1 hb2 hs1 hs2
  go_wp2_with fail
  go_region_held3 (fun w' => w'.cell? ⟨w.heap.size, 0, none⟩ = some (.int .i64 a) ∧ w'.cell? ⟨w.heap.size, 1, none⟩ = some (.int .i64 b) ∧ Below w.heap.size w w' ∧ w.heap.size < w'.heap.size)
    (first | (go_split_ands; exact hold_step (by assumption) (by assumption) (by assumption) (by assumption) (by assumption)) | exact ⟨c0, c1, hB.drew, hlt⟩)
    (first | (go_at_call 28; refine (mask_any a b _ ha hb).mono ?_; rintro e w1 ⟨rfl, hb1⟩))
  all_goals
    go_wp2
    go_ret2
    go_split_ands
    exact ⟨ret_int_bool (put_eq a b x y H.out hx0 hx1 hy0 hy), by assumption⟩
end Go.Proofs.YtbkdacbpapedgaaDoor
