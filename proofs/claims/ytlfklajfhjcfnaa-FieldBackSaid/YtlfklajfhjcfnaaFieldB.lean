/- Contracts of the functions of layer 1 that go bit by bit, and of Turn and Int. -/
import Derived.Test.YtlfklajfhjcfnaaFieldA
namespace Go.Proofs.Ytlfklajfhjcfnaa
open Go.RowKit

theorem pow_div_succ (X j : Nat) : X / 2 ^ j / 2 = X / 2 ^ (j + 1) := by rw [Nat.div_div_eq_div_mul, Nat.pow_succ]

set_option maxHeartbeats 400000 in
theorem bit_nat (X K : Nat) (w : World) (hX : X ≤ 18446744073709551615) (hK : K ≤ 9223372036854775806) :
    Calls Try.prog 29 #[.int .u64 X, .int .i64 K] w fun e w' => e = .returned (.int .u64 (bitN X K : Nat)) ∧ w = w' := by
  go_enter Try.func29, Try.ntmps29
  go_wp2
  go_loop [0, 5] (fun x i => ∃ j : Nat, j ≤ K ∧ i = .int .i64 j ∧ x = .int .u64 ((X / 2 ^ j : Nat) : Int)) (fun _ i => K - (intOf i).toNat)
  case atStart => exact ⟨0, Nat.zero_le _, rfl, by simp⟩
  case round =>
    obtain ⟨j, hj, rfl, rfl⟩ := hrel
    have hle : X / 2 ^ j ≤ 18446744073709551615 := Nat.le_trans (Nat.div_le_self _ _) hX
    have hs := pow_div_succ X j
    have hz : X / 2 ^ j % 2 = bitN X j := rfl
    generalize X / 2 ^ j = Y at *
    have HS := Lib.hid hs
    have HZ := Lib.hid hz
    clear hs hz
    by_cases hlt : j < K
    · go_wp2
      go_round
      case rel => exact ⟨j + 1, by omega, by go_num, by rw [← HS.out]; simp⟩
      case measure => simp [intOf]; omega
    · go_wp2
      go_ret
      have : j = K := by omega
      subst this
      exact ⟨ret_int (by rw [← HZ.out]; simp), rfl⟩

/-- The bit k of a word, whatever the arguments look like. -/
theorem bit_any (x k : Int) (w : World) (h0 : 0 ≤ x) (h1 : x ≤ 18446744073709551615) (h2 : 0 ≤ k) (h3 : k ≤ 9223372036854775806) :
    Calls Try.prog 29 #[.int .u64 x, .int .i64 k] w fun e w' => e = .returned (.int .u64 (bitN x.toNat k.toNat : Nat)) ∧ w = w' := by
  obtain ⟨X, rfl⟩ := Int.eq_ofNat_of_zero_le h0
  obtain ⟨K, rfl⟩ := Int.eq_ofNat_of_zero_le h2
  exact bit_nat X K w (by omega) (by omega)

set_option maxHeartbeats 400000 in
theorem int_yes (x : Int) (w : World) (h0 : 0 ≤ x) (h1 : x ≤ 9223372036854775807) :
    Calls Try.prog 25 #[.int .u64 x] w fun e w' => e = .returned (.tuple #[.int .i64 x, .bool true]) ∧ w = w' := by
  go_enter Try.func25, Try.ntmps25
  go_wp2
  go_ret2
  exact ⟨rfl, rfl⟩
set_option maxHeartbeats 400000 in
theorem int_no (x : Int) (w : World) (h1 : 9223372036854775807 < x) :
    Calls Try.prog 25 #[.int .u64 x] w fun e w' => e = .returned (.tuple #[.int .i64 0, .bool false]) ∧ w = w' := by
  go_enter Try.func25, Try.ntmps25
  go_wp2
  go_ret2
  exact ⟨rfl, rfl⟩

set_option maxHeartbeats 400000 in
theorem turn_any (x n : Int) (w : World) (h0 : 0 ≤ x) (h1 : x ≤ 18446744073709551615) :
    Calls Try.prog 26 #[.int .u64 x, .int .i64 n] w fun e w' => e = .returned (.int .u64 (turnI x n)) ∧ w = w' := by
  go_enter Try.func26, Try.ntmps26
  go_wp2
  go_ret
  exact ⟨ret_int (turn_eq x n h0 h1), rfl⟩

set_option maxHeartbeats 400000 in
theorem refGet_any (a b x : Int) (w : World) (ha : a ≤ 9223372036854775807) (hb : -9223372036854775808 ≤ b) (h0 : 0 ≤ x) (h1 : x ≤ 18446744073709551615) :
    Calls Try.prog 17 #[.agg #[.int .i64 a, .int .i64 b], .int .u64 x] w fun e w' => e = .returned (.int .u64 (getI a b x)) ∧ Below w.heap.size w w' := by
  cases h : isB a b
  · have hz : getI a b x = 0 := by simp [getI, h]
    have HZ := Lib.hid hz
    have H := Lib.hid h
    clear h hz
    go_enter Try.func17, Try.ntmps17
    go_wp2_with fail
    refine (refIs_any a b _ ha hb).mono ?_
    rintro e w1 ⟨rfl, hb⟩
    rw [H.out]
    go_wp2
    go_ret
    exact ⟨ret_int HZ.out.symm, ((Below.refl _ _).alloc (Nat.le_refl _) _).trans (hb.mono (by simp))⟩
  · obtain ⟨X, rfl⟩ := Int.eq_ofNat_of_zero_le h0
    obtain ⟨A, B, rfl, rfl, hB, hAB⟩ := isB_nat h
    have hfin : getI A B X = ((foldN (fun i => bitN X (A + i)) (B - 1) B : Nat) : Int) := by rw [foldN_get]; simp [getI, h]
    have HF := Lib.hid hfin
    have H := Lib.hid h
    clear h hfin
    go_enter Try.func17, Try.ntmps17
    go_wp2_with fail
    refine (refIs_any A B _ ha hb).mono ?_
    rintro e w1 ⟨rfl, hb1⟩
    rw [H.out]
    have hc := old_cell hb1
    have hf := old_frozen hb1
    have c0 : w1.cell? ⟨w.heap.size, 0, none⟩ = some (.int .i64 A) := by rw [hc _ _ (by simp)]; simp
    have c1 : w1.cell? ⟨w.heap.size, 1, none⟩ = some (.int .i64 B) := by rw [hc _ _ (by simp)]; simp
    clear hc hf
    go_wp2
    go_loop [5, 6] (fun n i => ∃ m : Nat, m ≤ B ∧ i = .int .i64 ((B : Int) - 1 - m) ∧ n = .int .u64 (foldN (fun i => bitN X (A + i)) (B - 1) m : Nat)) (fun _ i => (intOf i + 1).toNat)
    case atStart => exact ⟨0, Nat.zero_le _, by simp, rfl⟩
    case round =>
      obtain ⟨m, hm, rfl, rfl⟩ := hrel
      by_cases hlt : m < B
      · have hsm := foldN_small (fun i => bitN X (A + i)) (fun _ => bitN_lt _ _) (B - 1) m (by omega)
        have hbt := bitN_lt X (A + (B - 1 - m))
        have e1 : ((A : Int) + (↑B - 1 - ↑m)).toNat = A + (B - 1 - m) := by omega
        have E1 := Lib.hid e1
        clear e1
        go_wp2_with fail
        refine (bit_any _ _ _ (by omega) (by omega) (by omega) (by omega)).mono ?_
        rintro e w2 ⟨rfl, rfl⟩
        rw [E1.out, Int.toNat_natCast]
        go_wp2
        go_round
        case rel => exact ⟨m + 1, by omega, by go_num, by simp [foldN]⟩
        case measure => simp [intOf]; omega
      · have hm2 : m = B := by omega
        subst hm2
        go_wp2
        go_ret
        exact ⟨ret_int HF.out.symm, ((Below.refl _ _).alloc (Nat.le_refl _) _).trans (hb1.mono (by simp))⟩

set_option maxHeartbeats 400000 in
theorem refMax_any (a b : Int) (w : World) (ha : a ≤ 9223372036854775807) (hb : -9223372036854775808 ≤ b) :
    Calls Try.prog 15 #[.agg #[.int .i64 a, .int .i64 b]] w fun e w' => e = .returned (.int .u64 (maxI a b)) ∧ Below w.heap.size w w' := by
  cases h : isB a b
  · have hz := maxI_no h
    have HZ := Lib.hid hz
    have H := Lib.hid h
    clear h hz
    go_enter Try.func15, Try.ntmps15
    go_wp2
    go_loopw [3, 4] (fun n i wr => n = .int .u64 0 ∧ i = .int .i64 0 ∧ wr = w.alloc (.cells #[.int .i64 a, .int .i64 b] 26)) (fun _ _ _ => 0)
    case atStart => exact ⟨rfl, rfl, rfl⟩
    case round =>
      obtain ⟨rfl, rfl, rfl⟩ := hrel
      by_cases hlt : 0 < b
      · go_wp2_with fail
        refine (refIs_any a b _ ha hb).mono ?_
        rintro e w1 ⟨rfl, hb1⟩
        rw [H.out]
        go_wp2
        go_ret
        exact ⟨ret_int HZ.out.symm, ((Below.refl _ _).alloc (Nat.le_refl _) _).trans (hb1.mono (by simp))⟩
      · go_wp2_with fail
        go_ret
        exact ⟨ret_int HZ.out.symm, (Below.refl _ _).alloc (Nat.le_refl _) _⟩
  · obtain ⟨A, B, rfl, rfl, hB, hAB⟩ := isB_nat h
    have hz := maxI_nat hB hAB
    have HZ := Lib.hid hz
    have H := Lib.hid h
    clear h hz
    go_enter Try.func15, Try.ntmps15
    go_wp2
    go_loopw [3, 4] (fun n i wr => ∃ m : Nat, m ≤ B ∧ n = .int .u64 ((2 ^ m - 1 : Nat) : Int) ∧ i = .int .i64 m ∧
      wr.cell? ⟨w.heap.size, 0, none⟩ = some (.int .i64 A) ∧ wr.cell? ⟨w.heap.size, 1, none⟩ = some (.int .i64 B) ∧ Below w.heap.size w wr ∧ w.heap.size < wr.heap.size) (fun _ i _ => B - (intOf i).toNat)
    case atStart => exact ⟨0, Nat.zero_le _, rfl, rfl, by simp, by simp, (Below.refl _ _).alloc (Nat.le_refl _) _, by simp⟩
    case round =>
      obtain ⟨m, hm, rfl, rfl, c0, c1, hBw, hsz⟩ := hrel
      have h2 : 2 ^ m - 1 ≤ 18446744073709551615 := by have := pow_le64 (k := m) (by omega); omega
      have h3 : m < B → 2 ^ m - 1 ≤ 9223372036854775807 := fun hh => by
        have := Nat.pow_le_pow_right (n := 2) (by omega) (show m ≤ 63 by omega)
        simp only [Nat.reducePow] at this
        omega
      have h4 : (2 ^ m - 1) * 2 + 1 = 2 ^ (m + 1) - 1 := by have := Nat.one_le_two_pow (n := m); rw [Nat.pow_succ]; omega
      have hy : m = B → 2 ^ m - 1 = 2 ^ B - 1 := fun hh => by rw [hh]
      generalize 2 ^ m - 1 = Y at *
      have H4 := Lib.hid h4
      have HY := Lib.hid hy
      clear h4 hy
      by_cases hlt : m < B
      · have h5 := h3 hlt
        clear h3
        go_wp2_with fail
        refine (refIs_any A B _ ha hb).mono ?_
        rintro e w1 ⟨rfl, hb1⟩
        rw [H.out]
        obtain ⟨d0, d1, d2, d3⟩ := hold_step c0 c1 hBw hsz hb1
        clear c0 c1 hBw hb1 hsz
        go_wp2
        go_roundw
        case rel => exact ⟨m + 1, by omega, by rw [← H4.out]; simp, by go_num, d0, d1, d2, d3⟩
        case measure => simp [intOf]; omega
      · clear h3
        go_wp2_with fail
        go_ret
        exact ⟨ret_int (by rw [HZ.out, HY.out (by omega)]), hBw⟩

set_option maxHeartbeats 400000 in
theorem refSigned_any (a b x : Int) (w : World) (ha : a ≤ 9223372036854775807) (hb : -9223372036854775808 ≤ b) (h0 : 0 ≤ x) (h1 : x ≤ 18446744073709551615) :
    Calls Try.prog 19 #[.agg #[.int .i64 a, .int .i64 b], .int .u64 x] w fun e w' => e = .returned (.int .i64 (sgnI a b x)) ∧ Below w.heap.size w w' := by
  cases h : isB a b
  · have hz : sgnI a b x = 0 := by simp [sgnI, h]
    have HZ := Lib.hid hz
    have H := Lib.hid h
    clear h hz
    go_enter Try.func19, Try.ntmps19
    go_wp2_with fail
    refine (refIs_any a b _ ha hb).mono ?_
    rintro e w1 ⟨rfl, hb⟩
    rw [H.out]
    go_wp2
    go_ret
    exact ⟨ret_int HZ.out.symm, ((Below.refl _ _).alloc (Nat.le_refl _) _).trans (hb.mono (by simp))⟩
  · obtain ⟨X, rfl⟩ := Int.eq_ofNat_of_zero_le h0
    obtain ⟨A, B, rfl, rfl, hB, hAB⟩ := isB_nat h
    have hfin : sgnI A B X = sgnF A B X B := by rw [sgnF_all hB]; simp [sgnI, h]
    have HF := Lib.hid hfin
    have H := Lib.hid h
    clear h hfin
    have e0 : ((A : Int) + B - 1).toNat = A + (B - 1) := by omega
    have E0 := Lib.hid e0
    clear e0
    have hone := sgnF_one A B X
    have HONE := Lib.hid hone
    clear hone
    have hbt := bitN_lt X (A + (B - 1))
    generalize hT : bitN X (A + (B - 1)) = T at *
    have HT := Lib.hid hT
    clear hT
    go_enter Try.func19, Try.ntmps19
    go_wp2_with fail
    refine (refIs_any A B _ ha hb).mono ?_
    rintro e w1 ⟨rfl, hb1⟩
    rw [H.out]
    have hc := old_cell hb1
    have hf := old_frozen hb1
    have c0 : w1.cell? ⟨w.heap.size, 0, none⟩ = some (.int .i64 A) := by rw [hc _ _ (by simp)]; simp
    have c1 : w1.cell? ⟨w.heap.size, 1, none⟩ = some (.int .i64 B) := by rw [hc _ _ (by simp)]; simp
    clear hc hf
    go_wp2_with fail
    refine (bit_any _ _ _ (by omega) (by omega) (by omega) (by omega)).mono ?_
    rintro e w2 ⟨rfl, rfl⟩
    rw [E0.out, Int.toNat_natCast, HT.out]
    have hcases : T = 0 ∨ T = 1 := by omega
    rcases hcases with rfl | rfl
    all_goals
      go_wp2
      go_loop [5, 6] (fun n i => ∃ m : Nat, 1 ≤ m ∧ m ≤ B ∧ i = .int .i64 ((B : Int) - 1 - m) ∧ n = .int .i64 (sgnF A B X m)) (fun _ i => (intOf i + 1).toNat)
      case atStart => exact ⟨1, by omega, by omega, by go_num, by rw [HONE.out]; rfl⟩
      case round =>
        obtain ⟨m, hm1, hm, rfl, rfl⟩ := hrel
        by_cases hlt : m < B
        · have hsm := sgnF_small A B X m hm1 (by omega)
          obtain ⟨hs1, hs2⟩ := hsm
          have hsu := sgnF_succ A B X m
          have hbt2 := bitN_lt X (A + (B - 1 - m))
          have e1 : ((A : Int) + (↑B - 1 - ↑m)).toNat = A + (B - 1 - m) := by omega
          have E1 := Lib.hid e1
          have HSU := Lib.hid hsu
          clear e1 hsu
          go_wp2_with fail
          refine (bit_any _ _ _ (by omega) (by omega) (by omega) (by omega)).mono ?_
          rintro e w2 ⟨rfl, rfl⟩
          rw [E1.out, Int.toNat_natCast]
          go_wp2
          go_round
          case rel => exact ⟨m + 1, by omega, by omega, by go_num, by rw [HSU.out]⟩
          case measure => simp [intOf]; omega
        · have hm2 : m = B := by omega
          subst hm2
          go_wp2
          go_ret
          exact ⟨ret_int HF.out.symm, ((Below.refl _ _).alloc (Nat.le_refl _) _).trans (hb1.mono (by simp))⟩
end Go.Proofs.Ytlfklajfhjcfnaa
