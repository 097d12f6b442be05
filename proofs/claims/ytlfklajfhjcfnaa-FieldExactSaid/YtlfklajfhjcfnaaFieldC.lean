/- Contracts of layer 1: the reference's Put and Turn, and the anchors of the statements. -/
import Derived.Test.YtlfklajfhjcfnaaFieldB
namespace Go.Proofs.Ytlfklajfhjcfnaa
open Go.RowKit

set_option maxHeartbeats 400000 in
theorem refPut_no (a b x y : Int) (w : World) (ha : a ≤ 9223372036854775807) (hb : -9223372036854775808 ≤ b) (h : isB a b = false) :
    Calls Try.prog 11 #[.agg #[.int .i64 a, .int .i64 b], .int .u64 x, .int .u64 y] w fun e w' => e = .returned (.tuple #[.int .u64 0, .bool false]) ∧ Below w.heap.size w w' := by
  have H := Lib.hid h
  clear h
  go_enter Try.func11, Try.ntmps11
  go_wp2_with fail
  refine (refIs_any a b _ ha hb).mono ?_
  rintro e w1 ⟨rfl, hb⟩
  rw [H.out]
  go_wp2_with fail
  go_ret2
  exact ⟨rfl, ((Below.refl _ _).alloc (Nat.le_refl _) _).trans (hb.mono (by simp))⟩

set_option maxHeartbeats 400000 in
theorem refPut_above (a b x y : Int) (w : World) (ha : a ≤ 9223372036854775807) (hb : -9223372036854775808 ≤ b) (h : isB a b = true) (hy : maxI a b < y) :
    Calls Try.prog 11 #[.agg #[.int .i64 a, .int .i64 b], .int .u64 x, .int .u64 y] w fun e w' => e = .returned (.tuple #[.int .u64 0, .bool false]) ∧ Below w.heap.size w w' := by
  have H := Lib.hid h
  clear h
  go_enter Try.func11, Try.ntmps11
  go_wp2_with fail
  refine (refIs_any a b _ ha hb).mono ?_
  rintro e w1 ⟨rfl, hb1⟩
  rw [H.out]
  have hc := old_cell hb1
  have hf := old_frozen hb1
  go_wp2_with fail
  refine (refMax_any a b _ ha hb).mono ?_
  rintro e w2 ⟨rfl, hb2⟩
  go_wp2_with fail
  go_ret2
  exact ⟨rfl, (((Below.refl _ _).alloc (Nat.le_refl _) _).trans (hb1.mono (by simp))).trans (hb2.mono (by have := hb1.size; simp at this; omega))⟩

set_option maxHeartbeats 800000 in
theorem refPut_yes (a b x y : Int) (w : World) (ha : a ≤ 9223372036854775807) (hb : -9223372036854775808 ≤ b) (h : isB a b = true) (hx0 : 0 ≤ x) (hx1 : x ≤ 18446744073709551615) (hy0 : 0 ≤ y) (hy1 : y ≤ 18446744073709551615) (hy : y ≤ maxI a b) :
    Calls Try.prog 11 #[.agg #[.int .i64 a, .int .i64 b], .int .u64 x, .int .u64 y] w fun e w' => e = .returned (.tuple #[.int .u64 (putI a b x y), .bool true]) ∧ Below w.heap.size w w' := by
  obtain ⟨X, rfl⟩ := Int.eq_ofNat_of_zero_le hx0
  obtain ⟨Y, rfl⟩ := Int.eq_ofNat_of_zero_le hy0
  obtain ⟨A, B, rfl, rfl, hB, hAB⟩ := isB_nat h
  have hfin : ((foldN (putF A B X Y) 63 64 : Nat) : Int) = putI A B X Y := by
    have hm := hy
    rw [maxI_nat hB hAB] at hm
    rw [foldN_put hAB (by omega) (by have := Nat.one_le_two_pow (n := B); omega)]
    rfl
  have HF := Lib.hid hfin
  have H := Lib.hid h
  clear h hfin
  go_enter Try.func11, Try.ntmps11
  go_wp2_with fail
  refine (refIs_any A B _ ha hb).mono ?_
  rintro e w1 ⟨rfl, hb1⟩
  rw [H.out]
  have hc := old_cell hb1
  have hf := old_frozen hb1
  go_wp2_with fail
  refine (refMax_any A B _ ha hb).mono ?_
  rintro e w2 ⟨rfl, hb2⟩
  have hs1 := hb1.size
  have hs2 := hb2.size
  simp at hs1
  have c0 : w2.cell? ⟨w.heap.size, 0, none⟩ = some (.int .i64 A) := by rw [hb2.cell (p := ⟨w.heap.size, 0, none⟩) (by simp; omega), hc _ _ (by simp)]; simp
  have c1 : w2.cell? ⟨w.heap.size, 1, none⟩ = some (.int .i64 B) := by rw [hb2.cell (p := ⟨w.heap.size, 1, none⟩) (by simp; omega), hc _ _ (by simp)]; simp
  have hBw : Below w.heap.size w w2 := (((Below.refl _ _).alloc (Nat.le_refl _) _).trans (hb1.mono (by simp))).trans (hb2.mono (by omega))
  clear hc hf hb1 hb2 hs1 hs2
  go_wp2
  go_loop [8, 9, 10] (fun n i _ => ∃ m : Nat, m ≤ 64 ∧ i = .int .i64 (63 - m) ∧ n = .int .u64 (foldN (putF A B X Y) 63 m : Nat)) (fun _ i _ => (intOf i + 1).toNat)
  case atStart => exact ⟨0, by omega, by simp, rfl⟩
  case round =>
    obtain ⟨m, hm, rfl, rfl⟩ := hrel
    by_cases hlt : m < 64
    · have hsm := foldN_small (putF A B X Y) (putF_lt A B X Y) 63 m (by omega)
      have hbt := bitN_lt X (63 - m)
      have hbt2 := bitN_lt Y (63 - m - A)
      have e1 : (63 - (m : Int)).toNat = 63 - m := by omega
      have E1 := Lib.hid e1
      have hst : foldN (putF A B X Y) 63 (m + 1) = foldN (putF A B X Y) 63 m * 2 + putF A B X Y (63 - m) := rfl
      have HST := Lib.hid hst
      clear e1 hst
      by_cases hin1 : A + m ≤ 63
      · by_cases hin2 : 63 < A + B + m
        · have hp : putF A B X Y (63 - m) = bitN Y (63 - m - A) := by unfold putF; rw [if_pos (by omega)]
          have HP := Lib.hid hp
          have e2 : (63 - (m : Int) - A).toNat = 63 - m - A := by omega
          have E2 := Lib.hid e2
          clear hp e2
          go_wp2_with fail
          refine (bit_any _ _ _ (by omega) (by omega) (by omega) (by omega)).mono ?_
          rintro e w3 ⟨rfl, rfl⟩
          rw [E1.out, Int.toNat_natCast]
          go_wp2_with fail
          refine (bit_any _ _ _ (by omega) (by omega) (by omega) (by omega)).mono ?_
          rintro e w3 ⟨rfl, rfl⟩
          rw [E2.out, Int.toNat_natCast]
          go_wp2
          go_round
          case rel => exact ⟨m + 1, by omega, by go_num, by rw [HST.out, HP.out]; simp⟩
          case measure => simp [intOf]; omega
        · have hp : putF A B X Y (63 - m) = bitN X (63 - m) := by unfold putF; rw [if_neg (by omega)]
          have HP := Lib.hid hp
          clear hp
          go_wp2_with fail
          refine (bit_any _ _ _ (by omega) (by omega) (by omega) (by omega)).mono ?_
          rintro e w3 ⟨rfl, rfl⟩
          rw [E1.out, Int.toNat_natCast]
          go_wp2
          go_round
          case rel => exact ⟨m + 1, by omega, by go_num, by rw [HST.out, HP.out]; simp⟩
          case measure => simp [intOf]; omega
      · have hp : putF A B X Y (63 - m) = bitN X (63 - m) := by unfold putF; rw [if_neg (by omega)]
        have HP := Lib.hid hp
        clear hp
        go_wp2_with fail
        refine (bit_any _ _ _ (by omega) (by omega) (by omega) (by omega)).mono ?_
        rintro e w3 ⟨rfl, rfl⟩
        rw [E1.out, Int.toNat_natCast]
        go_wp2
        go_round
        case rel => exact ⟨m + 1, by omega, by go_num, by rw [HST.out, HP.out]; simp⟩
        case measure => simp [intOf]; omega
    · have hm2 : m = 64 := by omega
      subst hm2
      go_wp2
      go_ret2
      exact ⟨ret_int_bool HF.out, hBw⟩

set_option maxHeartbeats 400000 in
theorem refTurn_any (x n : Int) (w : World) (h0 : 0 ≤ x) (h1 : x ≤ 18446744073709551615) :
    Calls Try.prog 27 #[.int .u64 x, .int .i64 n] w fun e w' => e = .returned (.int .u64 (turnI x n)) ∧ w = w' := by
  obtain ⟨X, rfl⟩ := Int.eq_ofNat_of_zero_le h0
  obtain ⟨k, hk⟩ := Int.eq_ofNat_of_zero_le (show 0 ≤ n % 64 by omega)
  have hk64 : k < 64 := by omega
  have hfin : ((foldN (turnF X k) 63 64 : Nat) : Int) = turnI X n := by
    rw [foldN_turn (by omega) hk64]
    unfold turnI
    rw [hk]
    rfl
  have HF := Lib.hid hfin
  have HK := Lib.hid hk
  clear hfin hk
  obtain ⟨ht1, ht2⟩ := tmod64 n
  by_cases hneg : n.tmod 64 < 0
  · have ht := ht1 hneg
    rw [HK.out] at ht
    have HT := Lib.hid ht
    clear ht ht1 ht2
    go_enter Try.func27, Try.ntmps27
    go_wp2
    rw [HT.out]
    go_loop [6, 7] (fun o i => ∃ m : Nat, m ≤ 64 ∧ i = .int .i64 (63 - m) ∧ o = .int .u64 (foldN (turnF X k) 63 m : Nat)) (fun _ i => (intOf i + 1).toNat)
    case atStart => exact ⟨0, by omega, by simp, rfl⟩
    case round =>
      obtain ⟨m, hm, rfl, rfl⟩ := hrel
      by_cases hlt : m < 64
      · have hsm := foldN_small (turnF X k) (fun _ => bitN_lt _ _) 63 m (by omega)
        have hbt := bitN_lt X ((63 - m + 64 - k) % 64)
        have e1 : ((63 - (m : Int) + 64 - k) % 64).toNat = (63 - m + 64 - k) % 64 := by omega
        have E1 := Lib.hid e1
        have hst : foldN (turnF X k) 63 (m + 1) = foldN (turnF X k) 63 m * 2 + bitN X ((63 - m + 64 - k) % 64) := rfl
        have HST := Lib.hid hst
        clear e1 hst
        go_wp2_with fail
        refine (bit_any _ _ _ (by omega) (by omega) (by omega) (by omega)).mono ?_
        rintro e w3 ⟨rfl, rfl⟩
        rw [E1.out, Int.toNat_natCast]
        go_wp2
        go_round
        case rel => exact ⟨m + 1, by omega, by go_num, by rw [HST.out]; simp⟩
        case measure => simp [intOf]; omega
      · have hm2 : m = 64 := by omega
        subst hm2
        go_wp2
        go_ret
        exact ⟨ret_int HF.out, rfl⟩
  · have ht := ht2 (by omega)
    rw [HK.out] at ht
    have HT := Lib.hid ht
    have ht3 : 0 ≤ n.tmod 64 := by omega
    clear ht ht1 ht2 hneg
    go_enter Try.func27, Try.ntmps27
    go_wp2
    clear ht3
    rw [HT.out]
    go_loop [6, 7] (fun o i => ∃ m : Nat, m ≤ 64 ∧ i = .int .i64 (63 - m) ∧ o = .int .u64 (foldN (turnF X k) 63 m : Nat)) (fun _ i => (intOf i + 1).toNat)
    case atStart => exact ⟨0, by omega, by simp, rfl⟩
    case round =>
      obtain ⟨m, hm, rfl, rfl⟩ := hrel
      by_cases hlt : m < 64
      · have hsm := foldN_small (turnF X k) (fun _ => bitN_lt _ _) 63 m (by omega)
        have hbt := bitN_lt X ((63 - m + 64 - k) % 64)
        have e1 : ((63 - (m : Int) + 64 - k) % 64).toNat = (63 - m + 64 - k) % 64 := by omega
        have E1 := Lib.hid e1
        have hst : foldN (turnF X k) 63 (m + 1) = foldN (turnF X k) 63 m * 2 + bitN X ((63 - m + 64 - k) % 64) := rfl
        have HST := Lib.hid hst
        clear e1 hst
        go_wp2_with fail
        refine (bit_any _ _ _ (by omega) (by omega) (by omega) (by omega)).mono ?_
        rintro e w3 ⟨rfl, rfl⟩
        rw [E1.out, Int.toNat_natCast]
        go_wp2
        go_round
        case rel => exact ⟨m + 1, by omega, by go_num, by rw [HST.out]; simp⟩
        case measure => simp [intOf]; omega
      · have hm2 : m = 64 := by omega
        subst hm2
        go_wp2
        go_ret
        exact ⟨ret_int HF.out, rfl⟩

/-- The anchors: 'awake' answers true. -/
theorem awake_parts : isB 4 4 = true ∧ getI 4 4 243 = 15 ∧ sgnI 4 4 243 = -1 ∧ putI 4 4 243 2 = 35 ∧ turnI 1 (-1) = 9223372036854775808 ∧ maxI 4 4 = 15 := by decide +kernel

theorem aw_put (w : World) : Calls Try.prog 10 #[.agg #[.int .i64 4, .int .i64 4], .int .u64 243, .int .u64 2] w fun e w' => e = .returned (.tuple #[.int .u64 35, .bool true]) ∧ Below w.heap.size w w' := by
  obtain ⟨p1, p2, p3, p4, p5, p6⟩ := awake_parts
  refine (put_yes 4 4 243 2 w (by decide) (by decide) p1 (by decide) (by decide) (by decide) (by rw [p6]; decide)).mono ?_
  rintro e w' ⟨rfl, hb⟩
  exact ⟨ret_int_bool p4, hb⟩
theorem aw_is (w : World) : Calls Try.prog 12 #[.agg #[.int .i64 4, .int .i64 4]] w fun e w' => e = .returned (.bool true) ∧ Below w.heap.size w w' := by
  obtain ⟨p1, p2, p3, p4, p5, p6⟩ := awake_parts
  refine (is_any 4 4 w (by decide) (by decide)).mono ?_
  rintro e w' ⟨rfl, hb⟩
  exact ⟨ret_bool p1, hb⟩
theorem aw_get (w : World) : Calls Try.prog 16 #[.agg #[.int .i64 4, .int .i64 4], .int .u64 243] w fun e w' => e = .returned (.int .u64 15) ∧ Below w.heap.size w w' := by
  obtain ⟨p1, p2, p3, p4, p5, p6⟩ := awake_parts
  refine (get_any 4 4 243 w (by decide) (by decide) (by decide) (by decide)).mono ?_
  rintro e w' ⟨rfl, hb⟩
  exact ⟨ret_int p2, hb⟩
theorem aw_signed (w : World) : Calls Try.prog 18 #[.agg #[.int .i64 4, .int .i64 4], .int .u64 243] w fun e w' => e = .returned (.int .i64 (-1)) ∧ Below w.heap.size w w' := by
  obtain ⟨p1, p2, p3, p4, p5, p6⟩ := awake_parts
  refine (signed_any 4 4 243 w (by decide) (by decide) (by decide)).mono ?_
  rintro e w' ⟨rfl, hb⟩
  exact ⟨ret_int p3, hb⟩
theorem aw_max (w : World) : Calls Try.prog 14 #[.agg #[.int .i64 4, .int .i64 4]] w fun e w' => e = .returned (.int .u64 15) ∧ Below w.heap.size w w' := by
  obtain ⟨p1, p2, p3, p4, p5, p6⟩ := awake_parts
  refine (max_any 4 4 w (by decide) (by decide)).mono ?_
  rintro e w' ⟨rfl, hb⟩
  exact ⟨ret_int p6, hb⟩
theorem aw_turn (w : World) : Calls Try.prog 26 #[.int .u64 1, .int .i64 (-1)] w fun e w' => e = .returned (.int .u64 9223372036854775808) ∧ w = w' := by
  obtain ⟨p1, p2, p3, p4, p5, p6⟩ := awake_parts
  refine (turn_any 1 (-1) w (by decide) (by decide)).mono ?_
  rintro e w' ⟨rfl, hb⟩
  exact ⟨ret_int p5, hb⟩

set_option maxHeartbeats 1600000 in
theorem awake_any (w : World) :
    Calls Try.prog 9 #[] w fun e w' => e = .returned (.bool true) ∧ Below w.heap.size w w' := by
  go_enter Try.func9, Try.ntmps9
  go_wp2_with fail
  refine (aw_put _).mono ?_
  rintro e w1 ⟨rfl, hb1⟩
  obtain ⟨c0, c1, hB, hs⟩ := hold_step (n := w.heap.size) (w := w) (x := .int .i64 4) (y := .int .i64 4) (by simp) (by simp) ((Below.refl _ _).alloc (Nat.le_refl _) _) (by simp) hb1
  clear hb1
  go_wp2_with fail
  refine (int_yes 5 _ (by decide) (by decide)).mono ?_
  rintro e w2 ⟨rfl, rfl⟩
  go_wp2_with fail
  refine (int_no 9223372036854775808 _ (by decide)).mono ?_
  rintro e w2 ⟨rfl, rfl⟩
  go_wp2_with fail
  refine (aw_is _).mono ?_
  rintro e w2 ⟨rfl, hb2⟩
  obtain ⟨d0, d1, hB2, hs2⟩ := hold_step c0 c1 hB hs hb2
  clear c0 c1 hB hs hb2
  go_wp2_with fail
  refine (aw_get _).mono ?_
  rintro e w3 ⟨rfl, hb2⟩
  obtain ⟨c0, c1, hB, hs⟩ := hold_step d0 d1 hB2 hs2 hb2
  clear d0 d1 hB2 hs2 hb2
  go_wp2_with fail
  refine (aw_signed _).mono ?_
  rintro e w4 ⟨rfl, hb2⟩
  obtain ⟨d0, d1, hB2, hs2⟩ := hold_step c0 c1 hB hs hb2
  clear c0 c1 hB hs hb2
  go_wp2_with fail
  refine (aw_turn _).mono ?_
  rintro e w5 ⟨rfl, rfl⟩
  go_wp2_with fail
  refine (aw_max _).mono ?_
  rintro e w5 ⟨rfl, hb2⟩
  obtain ⟨c0, c1, hB, hs⟩ := hold_step d0 d1 hB2 hs2 hb2
  clear d0 d1 hB2 hs2 hb2
  go_wp2_with fail
  go_ret
  exact ⟨rfl, hB⟩
end Go.Proofs.Ytlfklajfhjcfnaa
