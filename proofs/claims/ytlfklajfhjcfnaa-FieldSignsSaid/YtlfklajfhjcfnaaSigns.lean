/- FieldSigns: a number with a sign is its field's bits; of a whole word it is the int of it; words turned round come back: so the law answers true, for every input, without a condition. -/
import Derived.Test.YtlfklajfhjcfnaaFieldC
import Derived.Test.YtlfklajfhjcfnaaLaw
import Derived.Test.YtlfklajfhjcfnaaHold
import Derived.Test.YtlfklajfhjcfnaaSeq
import Derived.Lib.SmallJoins
namespace Go.Proofs.Ytlfklajfhjcfnaa.fieldSigns
open Go.ChangeShapes Go.WideShapes Go.ChangeAt Go.RowKit Go.Joins

theorem own : ownKnob Try.prog.godebug = none := by kernel_rfl
theorem laidOut : laidOutB Try.prog = true := by kernel_rfl

theorem turnI_in (x n : Int) (h0 : 0 ≤ x) (h1 : x ≤ 18446744073709551615) : 0 ≤ turnI x n ∧ turnI x n ≤ 18446744073709551615 := by
  obtain ⟨X, rfl⟩ := Int.eq_ofNat_of_zero_le h0
  have := turnN_lt (W := X) (k := (n % 64).toNat) (by omega)
  unfold turnI
  simp only [Int.toNat_natCast]
  omega
theorem turn_turn (x m n : Int) (h0 : 0 ≤ x) (h1 : x ≤ 18446744073709551615) : turnI (turnI x m) n = turnI x (m + n) := by
  obtain ⟨X, rfl⟩ := Int.eq_ofNat_of_zero_le h0
  obtain ⟨k, hk⟩ := Int.eq_ofNat_of_zero_le (show 0 ≤ m % 64 by omega)
  obtain ⟨l, hl⟩ := Int.eq_ofNat_of_zero_le (show 0 ≤ n % 64 by omega)
  have hkl : (m + n) % 64 = ((k + l) % 64 : Nat) := by omega
  unfold turnI
  rw [hk, hl, hkl]
  simp only [Int.toNat_natCast]
  congr 1
  have hX : X < 18446744073709551616 := by omega
  have hT := turnN_lt (W := X) (k := k) hX
  apply Nat.eq_of_testBit_eq
  intro i
  by_cases hi : i < 64
  · rw [turnN_testBit hT (by omega) hi, turnN_testBit hX (by omega) (Nat.mod_lt _ (by omega)), turnN_testBit hX (Nat.mod_lt _ (by omega)) hi]
    congr 1
    omega
  · have hp : (2 : Nat) ^ 64 ≤ 2 ^ i := Nat.pow_le_pow_right (by omega) (by omega)
    simp only [Nat.reducePow] at hp
    rw [Nat.testBit_lt_two_pow (Nat.lt_of_lt_of_le (turnN_lt hT) hp), Nat.testBit_lt_two_pow (Nat.lt_of_lt_of_le (turnN_lt hX) hp)]
theorem turn_none (x n : Int) (h0 : 0 ≤ x) (h1 : x ≤ 18446744073709551615) (h : n % 64 = 0) : turnI x n = x := by
  obtain ⟨X, rfl⟩ := Int.eq_ofNat_of_zero_le h0
  unfold turnI
  rw [h]
  simp only [Int.toNat_natCast, Int.toNat_zero, turnN, Nat.pow_zero, Nat.mul_one, Nat.sub_zero]
  rw [Nat.div_eq_of_lt (by simp; omega), Nat.or_zero]
  omega

/-- What a number with a sign comes to. -/
theorem sign_facts (a b x : Int) (h : isB a b = true) :
    bits .and .u64 (IntKind.u64.wrap (sgnI a b x)) (maxI a b) = getI a b x ∧ 0 ≤ maxI a b ∧ maxI a b ≤ 18446744073709551615 ∧ 0 ≤ getI a b x ∧ getI a b x ≤ 18446744073709551615 ∧
      (sgnI a b x < 0 → maxI a b / 2 < getI a b x) ∧ (0 ≤ sgnI a b x → getI a b x ≤ maxI a b / 2) ∧ -9223372036854775808 ≤ sgnI a b x ∧ sgnI a b x ≤ 9223372036854775807 := by
  obtain ⟨A, B, rfl, rfl, hB, hAB⟩ := isB_nat h
  rw [maxI_nat hB hAB]
  simp only [getI, sgnI, h, if_true, Int.toNat_natCast]
  have hlt := getN_lt A B x.toNat
  unfold sgnN
  generalize getN A B x.toNat = G at *
  have e : 2 ^ B = 2 * 2 ^ (B - 1) := by rw [← Nat.pow_succ', show (B - 1).succ = B by omega]
  have hp := Nat.two_pow_pos (B - 1)
  have h64 := pow_le64 (k := B) (by omega)
  have eI : (2 : Int) ^ B = ((2 ^ B : Nat) : Int) := by simp
  have hdvd : ∃ c, 18446744073709551616 = 2 ^ B * c := ⟨2 ^ (64 - B), by rw [← Nat.pow_add, show B + (64 - B) = 64 by omega]⟩
  obtain ⟨c, hc⟩ := hdvd
  by_cases hg : 2 ^ (B - 1) ≤ G
  · rw [if_pos hg]
    have hw : IntKind.u64.wrap ((G : Int) - 2 ^ B) = ((G + 2 ^ B * (c - 1) : Nat) : Int) := by
      have hcp : 1 ≤ c := by
        cases c with
        | zero => simp at hc
        | succ c => omega
      have : 2 ^ B * (c - 1) = 18446744073709551616 - 2 ^ B := by rw [Nat.mul_sub, ← hc, Nat.mul_one]
      rw [IntKind.wrap_u64, eI, this]
      omega
    have hw2 : G + 2 ^ B * (c - 1) < 18446744073709551616 := by
      have : 2 ^ B * (c - 1) = 18446744073709551616 - 2 ^ B := by rw [Nat.mul_sub, ← hc, Nat.mul_one]
      omega
    refine ⟨?_, by omega, by omega, by omega, by omega, fun _ => by omega, fun hh => by rw [eI] at hh; omega, by rw [eI]; omega, by rw [eI]; omega⟩
    rw [hw, u64_and_nat _ _ hw2 (by omega), Nat.and_two_pow_sub_one_eq_mod, Nat.add_mul_mod_self_left, Nat.mod_eq_of_lt hlt]
  · rw [if_neg hg]
    refine ⟨?_, by omega, by omega, by omega, by omega, fun hh => by omega, fun hh => by omega, by omega, by omega⟩
    rw [show IntKind.u64.wrap (G : Int) = G by rw [IntKind.wrap_u64]; omega, u64_and_nat _ _ (by omega) (by omega), Nat.and_two_pow_sub_one_eq_mod, Nat.mod_eq_of_lt hlt]

theorem half_facts (M : Int) (h0 : 0 ≤ M) (h1 : M ≤ 18446744073709551615) : M.tdiv 2 = M / 2 ∧ IntKind.u64.wrap (M / 2) = M / 2 := by
  refine ⟨Int.tdiv_eq_ediv_of_nonneg h0, ?_⟩
  rw [IntKind.wrap_u64]
  omega

theorem signed_whole (x : Int) (w : World) (h0 : 0 ≤ x) (h1 : x ≤ 18446744073709551615) :
    Calls Try.prog 18 #[.agg #[.int .i64 0, .int .i64 64], .int .u64 x] w fun e w' => e = .returned (.int .i64 (IntKind.i64.wrap x)) ∧ Below w.heap.size w w' := by
  refine (signed_any 0 64 x w (by decide) (by decide) h0).mono ?_
  rintro e w' ⟨rfl, hb⟩
  refine ⟨ret_int ?_, hb⟩
  obtain ⟨X, rfl⟩ := Int.eq_ofNat_of_zero_le h0
  have hX : X < 2 ^ 64 := by omega
  have hg : getN 0 64 X = X := by unfold getN; rw [Nat.pow_zero, Nat.div_one, Nat.mod_eq_of_lt hX]
  simp only [sgnI, show isB 0 64 = true by decide, if_true, Int.toNat_natCast, show (0 : Int).toNat = 0 from rfl, show (64 : Int).toNat = 64 from rfl, sgnN, hg]
  rw [IntKind.wrap_i64]
  by_cases hc : 9223372036854775808 ≤ X
  · rw [if_pos (by simpa using hc)]
    simp only [Int.reducePow]
    omega
  · rw [if_neg (by simpa using hc)]
    omega

set_option maxRecDepth 100000 in
set_option maxHeartbeats 3200000 in
theorem walk (a b x n m : Int) (ha : a ≤ 9223372036854775807) (hb : -9223372036854775808 ≤ b) (hx0 : 0 ≤ x) (hx1 : x ≤ 18446744073709551615) (w : World) :
    Calls Try.prog 8 #[.agg #[.int .i64 a, .int .i64 b], .int .u64 x, .int .i64 n, .int .i64 m] w fun e w' => e = .returned (.bool true) ∧ Below w.heap.size w w' := by
  cases h : isB a b
  · have hz : sgnI a b x = 0 := by simp [sgnI, h]
    have HZ := Lib.hid hz
    have H := Lib.hid h
    clear h hz
    go_enter Try.func8, Try.ntmps8
    go_wp2_with fail
    refine (awake_any _).mono ?_
    rintro e w1 ⟨rfl, hb1⟩
    obtain ⟨c0, c1, hB, hs⟩ := hold_step (n := w.heap.size) (w := w) (x := .int .i64 a) (y := .int .i64 b) (by simp) (by simp) ((Below.refl _ _).alloc (Nat.le_refl _) _) (by simp) hb1
    clear hb1
    go_wp2_with fail
    refine (is_any a b _ ha hb).mono ?_
    rintro e w2 ⟨rfl, hb2⟩
    rw [H.out]
    obtain ⟨d0, d1, hB2, hs2⟩ := hold_step c0 c1 hB hs hb2
    clear hb2 c0 c1 hB hs
    go_wp2_with fail
    refine (signed_any a b x _ ha hb hx0).mono ?_
    rintro e w3 ⟨rfl, hb3⟩
    rw [HZ.out]
    obtain ⟨c0, c1, hB, hs⟩ := hold_step d0 d1 hB2 hs2 hb3
    go_wp2_with fail
    go_ret
    exact ⟨rfl, hB⟩
  · obtain ⟨f1, f2, f3, f4, f5, f6, f7, f8, f9⟩ := sign_facts a b x h
    have hA : -64 < n.tmod 64 ∧ n.tmod 64 < 64 := ⟨Int.lt_tmod_of_pos _ (by decide), Int.tmod_lt_of_pos _ (by decide)⟩
    have hM : -64 < m.tmod 64 ∧ m.tmod 64 < 64 := ⟨Int.lt_tmod_of_pos _ (by decide), Int.tmod_lt_of_pos _ (by decide)⟩
    obtain ⟨hA1, hA2⟩ := hA
    obtain ⟨hM1, hM2⟩ := hM
    have H := Lib.hid h
    clear h
    have HG : Hid (∀ w : World, Calls Try.prog 16 #[.agg #[.int .i64 a, .int .i64 b], .int .u64 x] w fun e w' => e = .returned (.int .u64 (getI a b x)) ∧ Below w.heap.size w w') := Lib.hid fun w => get_any a b x w ha hb hx0 hx1
    have HM : Hid (∀ w : World, Calls Try.prog 14 #[.agg #[.int .i64 a, .int .i64 b]] w fun e w' => e = .returned (.int .u64 (maxI a b)) ∧ Below w.heap.size w w') := Lib.hid fun w => max_any a b w ha hb
    have HS : Hid (∀ w : World, Calls Try.prog 18 #[.agg #[.int .i64 a, .int .i64 b], .int .u64 x] w fun e w' => e = .returned (.int .i64 (sgnI a b x)) ∧ Below w.heap.size w w') := Lib.hid fun w => signed_any a b x w ha hb hx0
    generalize sgnI a b x = S at *
    generalize maxI a b = M at *
    generalize getI a b x = G at *
    go_enter Try.func8, Try.ntmps8
    go_wp2_with fail
    refine (awake_any _).mono ?_
    rintro e w1 ⟨rfl, hb1⟩
    obtain ⟨c0, c1, hB, hs⟩ := hold_step (n := w.heap.size) (w := w) (x := .int .i64 a) (y := .int .i64 b) (by simp) (by simp) ((Below.refl _ _).alloc (Nat.le_refl _) _) (by simp) hb1
    clear hb1
    go_wp2_with fail
    refine (is_any a b _ ha hb).mono ?_
    rintro e w2 ⟨rfl, hb2⟩
    rw [H.out]
    obtain ⟨d0, d1, hB2, hs2⟩ := hold_step c0 c1 hB hs hb2
    clear hb2 c0 c1 hB hs
    go_wp2_with fail
    refine (HS.out _).mono ?_
    rintro e w3 ⟨rfl, hb3⟩
    obtain ⟨c0, c1, hB, hs⟩ := hold_step d0 d1 hB2 hs2 hb3
    clear hb3 d0 d1 hB2 hs2
    have c0' : (w3.alloc (.cells #[.int .i64 0, .int .i64 64] 23)).cell? ⟨w.heap.size, 0, none⟩ = some (.int .i64 a) := by rw [World.cell?_alloc_lt w3 _ _ hs]; exact c0
    have c1' : (w3.alloc (.cells #[.int .i64 0, .int .i64 64] 23)).cell? ⟨w.heap.size, 1, none⟩ = some (.int .i64 b) := by rw [World.cell?_alloc_lt w3 _ _ hs]; exact c1
    by_cases hneg : S < 0
    · have g1 := f6 hneg
      obtain ⟨q1, q2⟩ := half_facts M f2 f3
      generalize M / 2 = D at *
      have q3 : decide (G ≤ D) = false := by simp; omega
      have q4 : decide (0 ≤ S) = false := by simp; omega
      have q5 : decide (S < 0) = true := by simp; omega
      clear f6 f7
      go_wp2_with fail
      refine wp_text (S := fun w' => w'.cell? ⟨w.heap.size, 0, none⟩ = some (.int .i64 a) ∧ w'.cell? ⟨w.heap.size, 1, none⟩ = some (.int .i64 b) ∧ w'.cell? ⟨w3.heap.size, 0, none⟩ = some (.int .i64 0) ∧ w'.cell? ⟨w3.heap.size, 1, none⟩ = some (.int .i64 64) ∧ Below w.heap.size w w' ∧ w.heap.size < w'.heap.size ∧ w3.heap.size < w'.heap.size) (by kernel_rfl) (by kernel_rfl) ?hS (fun hT => ?_)
      case hS => exact ⟨c0', c1', by simp, by simp, (hB.alloc (by omega) _).drew, by simp; omega, by simp⟩
      have HT := Lib.hid hT
      clear hT
      repeat (first
        | (refine text_value (v := ?_) HT.out (by rfl) ?_ ?_; rotate_left; (focus (intro w4 hS; go_simp <;> with_reducible rfl)); (try simp only [Act.put, List.setIfInBounds_toArray, List.set_cons_zero, List.set_cons_succ]))
        | (refine text_off HT.out (by rfl) ?_; (try simp only [Act.put, List.setIfInBounds_toArray, List.set_cons_zero, List.set_cons_succ]))
        | (refine text_call (v := .int .u64 M) (f := 14) (args := ?_) HT.out (by rfl) ?_ ?_ ?_; rotate_left; (focus (intro w4 hS; go_simp <;> with_reducible rfl)); (focus (intro w4 hS; obtain ⟨s0, s1, s2, s3, s4, s5, s6⟩ := hS; refine (HM.out _).mono ?_; rintro e w5 ⟨rfl, hb5⟩; exact ⟨rfl, hold2 hb5 s0 s1 s2 s3 s4 s5 s6⟩)); (try simp only [Act.put, List.setIfInBounds_toArray, List.set_cons_zero, List.set_cons_succ]))
        | (refine text_call (v := .int .u64 G) (f := 16) (args := ?_) HT.out (by rfl) ?_ ?_ ?_; rotate_left; (focus (intro w4 hS; go_simp <;> with_reducible rfl)); (focus (intro w4 hS; obtain ⟨s0, s1, s2, s3, s4, s5, s6⟩ := hS; refine (HG.out _).mono ?_; rintro e w5 ⟨rfl, hb5⟩; exact ⟨rfl, hold2 hb5 s0 s1 s2 s3 s4 s5 s6⟩)); (try simp only [Act.put, List.setIfInBounds_toArray, List.set_cons_zero, List.set_cons_succ]))
        | (refine text_call (v := .int .i64 (IntKind.i64.wrap x)) (f := 18) (args := ?_) HT.out (by rfl) ?_ ?_ ?_; rotate_left; (focus (intro w4 hS; go_simp <;> with_reducible rfl)); (focus (intro w4 hS; obtain ⟨s0, s1, s2, s3, s4, s5, s6⟩ := hS; refine (signed_whole x _ hx0 hx1).mono ?_; rintro e w5 ⟨rfl, hb5⟩; exact ⟨rfl, hold2 hb5 s0 s1 s2 s3 s4 s5 s6⟩)); (try simp only [Act.put, List.setIfInBounds_toArray, List.set_cons_zero, List.set_cons_succ])))
      refine InText.nil fun w4 hS => ?_
      obtain ⟨-, -, -, -, hB4, -, -⟩ := hS
      clear c0 c1 c0' c1' f1 q1 q2 q3 q4 q5 HT
      have t1 := turnI_in x (n.tmod 64) hx0 hx1
      obtain ⟨t1, t2⟩ := t1
      have T1 := Lib.hid (turn_turn x (n.tmod 64) (m.tmod 64) hx0 hx1)
      have T2 := Lib.hid (turn_turn x (n.tmod 64) (-(n.tmod 64)) hx0 hx1)
      have T3 := Lib.hid (turn_none x (n.tmod 64 + -(n.tmod 64)) hx0 hx1 (by omega))
      have T4 := Lib.hid (turn_none x 64 hx0 hx1 (by omega))
      go_wp2_with fail
      refine (turn_any x (n.tmod 64) _ hx0 hx1).mono ?_
      rintro e w5 ⟨rfl, rfl⟩
      go_wp2_with fail
      refine (turn_any _ (m.tmod 64) _ t1 t2).mono ?_
      rintro e w5 ⟨rfl, rfl⟩
      rw [T1.out]
      go_wp2_with fail
      refine (turn_any x (n.tmod 64 + m.tmod 64) _ hx0 hx1).mono ?_
      rintro e w5 ⟨rfl, rfl⟩
      go_wp2_with fail
      refine (turn_any x (n.tmod 64) _ hx0 hx1).mono ?_
      rintro e w5 ⟨rfl, rfl⟩
      go_wp2_with fail
      refine (turn_any _ (-(n.tmod 64)) _ t1 t2).mono ?_
      rintro e w5 ⟨rfl, rfl⟩
      rw [T2.out, T3.out]
      go_wp2_with fail
      refine (turn_any x 64 _ hx0 hx1).mono ?_
      rintro e w5 ⟨rfl, rfl⟩
      rw [T4.out]
      go_wp2_with fail
      go_ret
      exact ⟨ret_bool (by simp), hB4⟩
    · have g1 := f7 (by omega)
      obtain ⟨q1, q2⟩ := half_facts M f2 f3
      generalize M / 2 = D at *
      have q3 : decide (D < G) = false := by simp; omega
      have q4 : decide (0 ≤ S) = true := by simp; omega
      have q5 : decide (S < 0) = false := by simp; omega
      clear f6 f7
      go_wp2_with fail
      refine wp_text (S := fun w' => w'.cell? ⟨w.heap.size, 0, none⟩ = some (.int .i64 a) ∧ w'.cell? ⟨w.heap.size, 1, none⟩ = some (.int .i64 b) ∧ w'.cell? ⟨w3.heap.size, 0, none⟩ = some (.int .i64 0) ∧ w'.cell? ⟨w3.heap.size, 1, none⟩ = some (.int .i64 64) ∧ Below w.heap.size w w' ∧ w.heap.size < w'.heap.size ∧ w3.heap.size < w'.heap.size) (by kernel_rfl) (by kernel_rfl) ?hS (fun hT => ?_)
      case hS => exact ⟨c0', c1', by simp, by simp, (hB.alloc (by omega) _).drew, by simp; omega, by simp⟩
      have HT := Lib.hid hT
      clear hT
      repeat (first
        | (refine text_value (v := ?_) HT.out (by rfl) ?_ ?_; rotate_left; (focus (intro w4 hS; go_simp <;> with_reducible rfl)); (try simp only [Act.put, List.setIfInBounds_toArray, List.set_cons_zero, List.set_cons_succ]))
        | (refine text_off HT.out (by rfl) ?_; (try simp only [Act.put, List.setIfInBounds_toArray, List.set_cons_zero, List.set_cons_succ]))
        | (refine text_call (v := .int .u64 M) (f := 14) (args := ?_) HT.out (by rfl) ?_ ?_ ?_; rotate_left; (focus (intro w4 hS; go_simp <;> with_reducible rfl)); (focus (intro w4 hS; obtain ⟨s0, s1, s2, s3, s4, s5, s6⟩ := hS; refine (HM.out _).mono ?_; rintro e w5 ⟨rfl, hb5⟩; exact ⟨rfl, hold2 hb5 s0 s1 s2 s3 s4 s5 s6⟩)); (try simp only [Act.put, List.setIfInBounds_toArray, List.set_cons_zero, List.set_cons_succ]))
        | (refine text_call (v := .int .u64 G) (f := 16) (args := ?_) HT.out (by rfl) ?_ ?_ ?_; rotate_left; (focus (intro w4 hS; go_simp <;> with_reducible rfl)); (focus (intro w4 hS; obtain ⟨s0, s1, s2, s3, s4, s5, s6⟩ := hS; refine (HG.out _).mono ?_; rintro e w5 ⟨rfl, hb5⟩; exact ⟨rfl, hold2 hb5 s0 s1 s2 s3 s4 s5 s6⟩)); (try simp only [Act.put, List.setIfInBounds_toArray, List.set_cons_zero, List.set_cons_succ]))
        | (refine text_call (v := .int .i64 (IntKind.i64.wrap x)) (f := 18) (args := ?_) HT.out (by rfl) ?_ ?_ ?_; rotate_left; (focus (intro w4 hS; go_simp <;> with_reducible rfl)); (focus (intro w4 hS; obtain ⟨s0, s1, s2, s3, s4, s5, s6⟩ := hS; refine (signed_whole x _ hx0 hx1).mono ?_; rintro e w5 ⟨rfl, hb5⟩; exact ⟨rfl, hold2 hb5 s0 s1 s2 s3 s4 s5 s6⟩)); (try simp only [Act.put, List.setIfInBounds_toArray, List.set_cons_zero, List.set_cons_succ])))
      refine InText.nil fun w4 hS => ?_
      obtain ⟨-, -, -, -, hB4, -, -⟩ := hS
      clear c0 c1 c0' c1' f1 q1 q2 q3 q4 q5 HT
      have t1 := turnI_in x (n.tmod 64) hx0 hx1
      obtain ⟨t1, t2⟩ := t1
      have T1 := Lib.hid (turn_turn x (n.tmod 64) (m.tmod 64) hx0 hx1)
      have T2 := Lib.hid (turn_turn x (n.tmod 64) (-(n.tmod 64)) hx0 hx1)
      have T3 := Lib.hid (turn_none x (n.tmod 64 + -(n.tmod 64)) hx0 hx1 (by omega))
      have T4 := Lib.hid (turn_none x 64 hx0 hx1 (by omega))
      go_wp2_with fail
      refine (turn_any x (n.tmod 64) _ hx0 hx1).mono ?_
      rintro e w5 ⟨rfl, rfl⟩
      go_wp2_with fail
      refine (turn_any _ (m.tmod 64) _ t1 t2).mono ?_
      rintro e w5 ⟨rfl, rfl⟩
      rw [T1.out]
      go_wp2_with fail
      refine (turn_any x (n.tmod 64 + m.tmod 64) _ hx0 hx1).mono ?_
      rintro e w5 ⟨rfl, rfl⟩
      go_wp2_with fail
      refine (turn_any x (n.tmod 64) _ hx0 hx1).mono ?_
      rintro e w5 ⟨rfl, rfl⟩
      go_wp2_with fail
      refine (turn_any _ (-(n.tmod 64)) _ t1 t2).mono ?_
      rintro e w5 ⟨rfl, rfl⟩
      rw [T2.out, T3.out]
      go_wp2_with fail
      refine (turn_any x 64 _ hx0 hx1).mono ?_
      rintro e w5 ⟨rfl, rfl⟩
      rw [T4.out]
      go_wp2_with fail
      go_ret
      exact ⟨ret_bool (by simp), hB4⟩

theorem cellsField : Try.prog.cellsOf 23 = 2 := by kernel_rfl

set_option maxRecDepth 100000 in
theorem lifted (os : Os) (started : os.Started) (H : Type) (enc : TypeId × Value → H) :
    ReturnsInHanded {} Try.checked os 8 .any (Rows.fieldSignsSpec.pre6 enc Try.prog Try.f8 Rows.fieldSignsRow.domain false) (Rows.fieldSignsSpec.post enc Try.prog Try.f8 false true false false) := by
  refine returnsInHanded_of_change (C := Try.checked) own started (by kernel_rfl) Try.func8
    (ChangeSpec.witness6 (enc := enc) (C := Try.checked) false ⟨#[], #[.agg #[.int .i64 0, .int .i64 0], .int .u64 0, .int .i64 0, .int .i64 0], []⟩ 8 (by kernel_rfl) (by kernel_rfl) (by kernel_rfl) (by kernel_rfl)) ?_
  intro W base args ds gs before hval0 hW hcnd _
  have hval : ∀ (j : Nat) t v, Try.f8.params[j]? = some t → args[j]? = some v → Value.okWide Try.prog W .any base t v := hval0
  have hW' := hW
  obtain ⟨p, q, hA0, hV, rfl, hfz, hnd⟩ := hW
  have hA : DataW.TrodAll enc Try.prog W 0 (fun _ => true) true Try.f8.params.toList args.toList ds p := hA0
  rw [Try.params8] at hA hval
  obtain ⟨v0, vs0, d0, ds0, p0, q0, hargs, rfl, rfl, g0, r0⟩ := trodAll_cons hA
  obtain ⟨v1, vs1, d1, ds1, p1, q1, rfl, rfl, rfl, g1, r1⟩ := trodAll_cons r0
  obtain ⟨v2, vs2, d2, ds2, p2, q2, rfl, rfl, rfl, g2, r2⟩ := trodAll_cons r1
  obtain ⟨v3, vs3, d3, ds3, p3, q3, rfl, rfl, rfl, g3, r3⟩ := trodAll_cons r2
  obtain ⟨rfl, rfl, rfl⟩ := trodAll_nil r3
  obtain rfl : args = #[v0, v1, v2, v3] := by cases args; simp_all
  obtain ⟨rfl, rfl⟩ := trodVars_none hV
  obtain ⟨a1, rfl, rfl, rfl, w1⟩ := open_int Try.underlying24 (hval 1 24 v1 rfl rfl) g1
  have h1 := u64_in w1
  obtain ⟨a2, rfl, rfl, rfl, w2⟩ := open_int Try.underlying3 (hval 2 3 v2 rfl rfl) g2
  have h2 := i64_in w2
  obtain ⟨a3, rfl, rfl, rfl, w3⟩ := open_int Try.underlying3 (hval 3 3 v3 rfl rfl) g3
  have h3 := i64_in w3
  obtain ⟨e0a, e0b, y0a, y0b, m0, rfl, rfl, rfl, z0a, z0b⟩ := open_agg2 Try.underlying23 (by kernel_rfl) cellsField (hval 0 23 v0 rfl rfl) g0
  obtain ⟨a0, s0a, rfl, w0a⟩ := DataW.trod_int Try.underlying3 z0a
  obtain ⟨b0, s0b, rfl, w0b⟩ := DataW.trod_int Try.underlying3 z0b
  simp at s0a s0b
  subst s0a s0b
  have h0 := i64_in w0a
  have k0 := i64_in w0b
  clear hA0 hval0
  refine (walk a0 b0 a1 a2 a3 h0.2 k0.1 h1.1 h1.2 W).mono fun e W' ⟨he, hg⟩ => ?_
  subst he
  exact ⟨_, rfl, law_post laidOut (by kernel_rfl) (by kernel_rfl) Try.underlying4 rfl rfl hW' hg⟩

theorem over : Rows.fieldSignsRow.holds Try.pinned (OpenSpec.ofChange Rows.fieldSignsSpec) :=
  OpenClaim.holds_of_wide 8 Try.f8 rfl rfl rfl rfl rfl rfl rfl ⟨rfl, rfl, rfl, rfl, rfl⟩ rfl rfl rfl rfl rfl (by kernel_rfl) Try.func8 (by kernel_rfl)
    (of_decide_eq_true (by kernel_rfl)) (by unfold Func.isWrapper; first | (rw [if_pos (by decide +kernel)]; kernel_rfl) | (rw [if_neg (by decide +kernel)]; exact ⟨rfl, rfl⟩))
    (fun os started H enc _ => lifted os started H enc)

/-- THE STATEMENT. -/
theorem proved : Rows.FieldSignsSaid := over
#print axioms proved
end Go.Proofs.Ytlfklajfhjcfnaa.fieldSigns
