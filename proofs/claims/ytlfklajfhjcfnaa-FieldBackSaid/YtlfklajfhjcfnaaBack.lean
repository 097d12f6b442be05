/- FieldBack: what was put is got, and no other bit is changed; another field that is apart has the number that it had; put twice is put once: so the law answers true, for every input, without a condition. -/
import Derived.Test.YtlfklajfhjcfnaaFieldD
import Derived.Test.YtlfklajfhjcfnaaLaw
import Derived.Test.YtlfklajfhjcfnaaHold
import Derived.Test.YtlfklajfhjcfnaaSeq
import Derived.Lib.SmallJoins
namespace Go.Proofs.Ytlfklajfhjcfnaa.fieldBack
open Go.ChangeShapes Go.WideShapes Go.ChangeAt Go.RowKit Go.Joins

theorem own : ownKnob Try.prog.godebug = none := by kernel_rfl
theorem laidOut : laidOutB Try.prog = true := by kernel_rfl

theorem high_bit {X i : Nat} (h : X < 18446744073709551616) (hi : ¬ i < 64) : X.testBit i = false := by
  have hp : (2 : Nat) ^ 64 ≤ 2 ^ i := Nat.pow_le_pow_right (by omega) (by omega)
  exact Nat.testBit_lt_two_pow (Nat.lt_of_lt_of_le (by simpa using h) hp)

section
variable {A B C D W X Y : Nat}
theorem get_put (hAB : A + B ≤ 64) (hW : W < 18446744073709551616) (hX : X < 2 ^ B) : getN A B (putN A B W X) = X := by
  apply Nat.eq_of_testBit_eq
  intro i
  rw [getN_testBit, putN_testBit hAB hW hX]
  by_cases h : i < B
  · rw [if_pos (by omega), show A + i - A = i by omega]
    simp [h]
  · have := Nat.testBit_lt_two_pow (Nat.lt_of_lt_of_le hX (Nat.pow_le_pow_right (by omega) (show B ≤ i by omega)))
    simp [h, this]
theorem put_put (hAB : A + B ≤ 64) (hW : W < 18446744073709551616) (hX : X < 2 ^ B) : putN A B (putN A B W X) X = putN A B W X := by
  apply Nat.eq_of_testBit_eq
  intro i
  rw [putN_testBit hAB (putN_lt hAB hW hX) hX, putN_testBit hAB hW hX]
  split <;> rfl
theorem put_back (hAB : A + B ≤ 64) (hW : W < 18446744073709551616) (hX : X < 2 ^ B) : putN A B (putN A B W X) (getN A B W) = W := by
  apply Nat.eq_of_testBit_eq
  intro i
  rw [putN_testBit hAB (putN_lt hAB hW hX) (getN_lt A B W), putN_testBit hAB hW hX, getN_testBit]
  split
  · rename_i h
    rw [show A + (i - A) = i by omega]
    simp
    omega
  · rfl
theorem get_far (hAB : A + B ≤ 64) (hW : W < 18446744073709551616) (hX : X < 2 ^ B) (hd : ∀ k, A ≤ k → k < A + B → C ≤ k → k < C + D → False) : getN C D (putN A B W X) = getN C D W := by
  apply Nat.eq_of_testBit_eq
  intro i
  rw [getN_testBit, getN_testBit, putN_testBit hAB hW hX]
  by_cases h : i < D
  · rw [if_neg (fun hh => hd (C + i) hh.1 hh.2 (by omega) (by omega))]
  · simp [h]
theorem put_far (hAB : A + B ≤ 64) (hCD : C + D ≤ 64) (hW : W < 18446744073709551616) (hX : X < 2 ^ B) (hY : Y < 2 ^ D) (hd : ∀ k, A ≤ k → k < A + B → C ≤ k → k < C + D → False) :
    putN C D (putN A B W X) Y = putN A B (putN C D W Y) X := by
  apply Nat.eq_of_testBit_eq
  intro i
  rw [putN_testBit hCD (putN_lt hAB hW hX) hY, putN_testBit hAB hW hX, putN_testBit hAB (putN_lt hCD hW hY) hX, putN_testBit hCD hW hY]
  by_cases h1 : A ≤ i ∧ i < A + B
  · have h2 : ¬ (C ≤ i ∧ i < C + D) := fun hh => hd i h1.1 h1.2 hh.1 hh.2
    rw [if_neg h2, if_pos h1, if_pos h1]
  · rw [if_neg h1, if_neg h1]
end

theorem apart_bits {A B C D : Nat} (h : maskN A B &&& maskN C D = 0) (k : Nat) (h1 : A ≤ k) (h2 : k < A + B) (h3 : C ≤ k) (h4 : k < C + D) : False := by
  have := congrArg (fun n => Nat.testBit n k) h
  simp [maskN_testBit, h1, h2, h3, h4] at this

/-- A number cut to the field. -/
theorem cut (a b x : Int) (h : isB a b = true) (h0 : 0 ≤ x) (h1 : x ≤ 18446744073709551615) : ∃ m : Int, bits .and .u64 x (maxI a b) = m ∧ 0 ≤ m ∧ m ≤ maxI a b ∧ m ≤ 18446744073709551615 := by
  obtain ⟨A, B, rfl, rfl, hB, hAB⟩ := isB_nat h
  obtain ⟨X, rfl⟩ := Int.eq_ofNat_of_zero_le h0
  have hp := pow_le64 (k := B) (by omega)
  have h2 := Nat.one_le_two_pow (n := B)
  have h3 : X &&& (2 ^ B - 1) ≤ 2 ^ B - 1 := Nat.and_le_right
  rw [maxI_nat hB hAB, u64_and_nat X _ (by omega) (by omega)]
  exact ⟨_, rfl, by omega, by omega, by omega⟩

/-- What Put and Get come to, of one field. -/
theorem one_field (a b x w : Int) (h : isB a b = true) (hx0 : 0 ≤ x) (hx : x ≤ maxI a b) (hw0 : 0 ≤ w) (hw1 : w ≤ 18446744073709551615) :
    0 ≤ putI a b w x ∧ putI a b w x ≤ 18446744073709551615 ∧ getI a b (putI a b w x) = x ∧ 0 ≤ getI a b w ∧ getI a b w ≤ maxI a b ∧ putI a b (putI a b w x) x = putI a b w x ∧ putI a b (putI a b w x) (getI a b w) = w := by
  obtain ⟨A, B, rfl, rfl, hB, hAB⟩ := isB_nat h
  obtain ⟨X, rfl⟩ := Int.eq_ofNat_of_zero_le hx0
  obtain ⟨W, rfl⟩ := Int.eq_ofNat_of_zero_le hw0
  rw [maxI_nat hB hAB] at hx ⊢
  have h2 := Nat.one_le_two_pow (n := B)
  have hX : X < 2 ^ B := by omega
  have hW : W < 18446744073709551616 := by omega
  have hg := getN_lt A B W
  have hp := putN_lt hAB hW hX
  simp only [putI, getI, h, if_true, Int.toNat_natCast]
  rw [get_put hAB hW hX, put_put hAB hW hX, put_back hAB hW hX]
  refine ⟨by omega, by omega, rfl, by omega, by omega, rfl, rfl⟩

/-- .. of two that are apart. -/
theorem two_fields (a b c d x y w : Int) (h : isB a b = true) (h' : isB c d = true) (hx0 : 0 ≤ x) (hx : x ≤ maxI a b) (hy0 : 0 ≤ y) (hy : y ≤ maxI c d) (hw0 : 0 ≤ w) (hw1 : w ≤ 18446744073709551615)
    (hd : mskN (a, b) &&& mskN (c, d) = 0) : getI c d (putI a b w x) = getI c d w ∧ putI c d (putI a b w x) y = putI a b (putI c d w y) x := by
  simp only [mskN, h, h', if_true] at hd
  obtain ⟨A, B, rfl, rfl, hB, hAB⟩ := isB_nat h
  obtain ⟨C, D, rfl, rfl, hD, hCD⟩ := isB_nat h'
  obtain ⟨X, rfl⟩ := Int.eq_ofNat_of_zero_le hx0
  obtain ⟨Y, rfl⟩ := Int.eq_ofNat_of_zero_le hy0
  obtain ⟨W, rfl⟩ := Int.eq_ofNat_of_zero_le hw0
  rw [maxI_nat hB hAB] at hx
  rw [maxI_nat hD hCD] at hy
  have h2 := Nat.one_le_two_pow (n := B)
  have h3 := Nat.one_le_two_pow (n := D)
  simp only [Int.toNat_natCast] at hd
  have hdd := fun k => apart_bits hd k
  simp only [putI, getI, h', if_true, Int.toNat_natCast]
  rw [get_far hAB (by omega) (by omega) hdd, put_far hAB hCD (by omega) (by omega) (by omega) hdd]
  exact ⟨rfl, rfl⟩

theorem apartF_two (f g : Int × Int) (h : isB f.1 f.2 = true) (h' : isB g.1 g.2 = true) : apartF 0 [f, g] = decide (mskN f &&& mskN g = 0) := by
  simp [apartF, h, h']

theorem fits_two {a b c d : Int} (h1 : -9223372036854775808 ≤ a ∧ a ≤ 9223372036854775807) (h2 : -9223372036854775808 ≤ b ∧ b ≤ 9223372036854775807) (h3 : -9223372036854775808 ≤ c ∧ c ≤ 9223372036854775807) (h4 : -9223372036854775808 ≤ d ∧ d ≤ 9223372036854775807) : Fits [(a, b), (c, d)] := by
  intro p hp
  simp at hp
  rcases hp with rfl | rfl
  · exact ⟨h1, h2⟩
  · exact ⟨h3, h4⟩

/-- Apart of the two, laid as a slice. -/
theorem apart_pair (a b c d : Int) (w : World) (hfit : Fits [(a, b), (c, d)]) (h : isB a b = true) (h' : isB c d = true) :
    Calls Try.prog 22 #[.slice (some ⟨w.heap.size, 0, none⟩) 2 2] (w.alloc (.cells #[.int .i64 a, .int .i64 b, .int .i64 c, .int .i64 d] 23)) fun e w' =>
      e = .returned (.bool (decide (mskN (a, b) &&& mskN (c, d) = 0))) ∧ Below w.heap.size w w' := by
  have hr : FldRow (w.alloc (.cells #[.int .i64 a, .int .i64 b, .int .i64 c, .int .i64 d] 23)) (some ⟨w.heap.size, 0, none⟩) [(a, b), (c, d)] := by
    refine Or.inr ⟨w.heap.size, 0, rfl, by simp, fun i hi => ?_⟩
    have hi2 : i = 0 ∨ i = 1 := by simp at hi; omega
    rcases hi2 with rfl | rfl <;> simp
  have := apart_any (some ⟨w.heap.size, 0, none⟩) 2 [(a, b), (c, d)] _ hr hfit (by simp)
  rw [apartF_two (a, b) (c, d) h h'] at this
  refine this.mono ?_
  rintro e w' ⟨rfl, hb⟩
  exact ⟨rfl, ((Below.refl _ _).alloc (Nat.le_refl _) _).trans (hb.mono (by simp))⟩

set_option maxRecDepth 100000 in
set_option maxHeartbeats 3200000 in
theorem walk (a b c d w x y : Int) (ha : -9223372036854775808 ≤ a ∧ a ≤ 9223372036854775807) (hb : -9223372036854775808 ≤ b ∧ b ≤ 9223372036854775807) (hc : -9223372036854775808 ≤ c ∧ c ≤ 9223372036854775807) (hd : -9223372036854775808 ≤ d ∧ d ≤ 9223372036854775807)
    (hw0 : 0 ≤ w) (hw1 : w ≤ 18446744073709551615) (hx0 : 0 ≤ x) (hx1 : x ≤ 18446744073709551615) (hy0 : 0 ≤ y) (hy1 : y ≤ 18446744073709551615) (W : World) :
    Calls Try.prog 6 #[.agg #[.int .i64 a, .int .i64 b], .agg #[.int .i64 c, .int .i64 d], .int .u64 w, .int .u64 x, .int .u64 y] W fun e w' => e = .returned (.bool true) ∧ Below W.heap.size W w' := by
  have hfit := fits_two ha hb hc hd
  have HFIT := Lib.hid hfit
  clear hfit
  go_enter Try.func6, Try.ntmps6
  go_wp2_with fail
  refine (awake_any _).mono ?_
  rintro e w1 ⟨rfl, hb1⟩
  obtain ⟨c0, c1, d0, d1, hB, hs, hs'⟩ := hold2 (n := W.heap.size) (m := W.heap.size + 1) (w := W) (x := .int .i64 a) (y := .int .i64 b) (u := .int .i64 c) (v := .int .i64 d) hb1 (by simp) (by simp) (by simp) (by simp) (((Below.refl _ _).alloc (Nat.le_refl _) _).alloc (by simp) _) (by simp; omega) (by simp)
  clear hb1
  go_wp2_with fail
  refine (is_any a b _ ha.2 hb.1).mono ?_
  rintro e w2 ⟨rfl, hb2⟩
  obtain ⟨e0, e1, f0, f1, hB2, ht, ht'⟩ := hold2 hb2 c0 c1 d0 d1 hB hs hs'
  clear hb2 c0 c1 d0 d1 hB hs hs'
  cases hF : isB a b
  · go_wp2_with fail
    go_ret
    exact ⟨rfl, hB2⟩
  go_wp2_with fail
  refine (is_any c d _ hc.2 hd.1).mono ?_
  rintro e w3 ⟨rfl, hb2⟩
  obtain ⟨c0, c1, d0, d1, hB, hs, hs'⟩ := hold2 hb2 e0 e1 f0 f1 hB2 ht ht'
  clear hb2 e0 e1 f0 f1 hB2 ht ht'
  cases hG : isB c d
  · go_wp2_with fail
    go_ret
    exact ⟨rfl, hB⟩
  have HF := Lib.hid hF
  have HG := Lib.hid hG
  obtain ⟨X, hX, hX0, hXm, hX1⟩ := cut a b x hF hx0 hx1
  obtain ⟨Y, hY, hY0, hYm, hY1⟩ := cut c d y hG hy0 hy1
  obtain ⟨q1, q2, q3, q4, q5, q6, q7⟩ := one_field a b X w hF hX0 hXm hw0 hw1
  have HX := Lib.hid hX
  have HY := Lib.hid hY
  have K1 : Hid (∀ W' : World, Calls Try.prog 10 #[.agg #[.int .i64 a, .int .i64 b], .int .u64 w, .int .u64 X] W' fun e w' => e = .returned (.tuple #[.int .u64 (putI a b w X), .bool true]) ∧ Below W'.heap.size W' w') :=
    Lib.hid fun W' => put_yes a b w X W' ha.2 hb.1 hF hw0 hw1 hX0 hXm
  have K2 : Hid (∀ W' : World, Calls Try.prog 10 #[.agg #[.int .i64 a, .int .i64 b], .int .u64 (putI a b w X), .int .u64 X] W' fun e w' => e = .returned (.tuple #[.int .u64 (putI a b w X), .bool true]) ∧ Below W'.heap.size W' w') :=
    Lib.hid fun W' => by have := put_yes a b (putI a b w X) X W' ha.2 hb.1 hF q1 q2 hX0 hXm; rw [q6] at this; exact this
  have K3 : Hid (∀ W' : World, Calls Try.prog 10 #[.agg #[.int .i64 a, .int .i64 b], .int .u64 (putI a b w X), .int .u64 (getI a b w)] W' fun e w' => e = .returned (.tuple #[.int .u64 w, .bool true]) ∧ Below W'.heap.size W' w') :=
    Lib.hid fun W' => by have := put_yes a b (putI a b w X) (getI a b w) W' ha.2 hb.1 hF q1 q2 q4 q5; rw [q7] at this; exact this
  have K4 : Hid (∀ W' : World, Calls Try.prog 16 #[.agg #[.int .i64 a, .int .i64 b], .int .u64 (putI a b w X)] W' fun e w' => e = .returned (.int .u64 X) ∧ Below W'.heap.size W' w') :=
    Lib.hid fun W' => by have := get_any a b (putI a b w X) W' ha.2 hb.1 q1 q2; rw [q3] at this; exact this
  have K5 : Hid (∀ W' : World, Calls Try.prog 16 #[.agg #[.int .i64 a, .int .i64 b], .int .u64 w] W' fun e w' => e = .returned (.int .u64 (getI a b w)) ∧ Below W'.heap.size W' w') :=
    Lib.hid fun W' => get_any a b w W' ha.2 hb.1 hw0 hw1
  have K6 : Hid (∀ W' : World, Calls Try.prog 14 #[.agg #[.int .i64 a, .int .i64 b]] W' fun e w' => e = .returned (.int .u64 (maxI a b)) ∧ Below W'.heap.size W' w') :=
    Lib.hid fun W' => max_any a b W' ha.2 hb.1
  have r0 := one_field c d Y w hG hY0 hYm hw0 hw1
  have hfar : Hid (mskN (a, b) &&& mskN (c, d) = 0 → getI c d (putI a b w X) = getI c d w ∧ putI c d (putI a b w X) Y = putI a b (putI c d w Y) X) := Lib.hid fun hh => two_fields a b c d X Y w hF hG hX0 hXm hY0 hYm hw0 hw1 hh
  have L1 : Hid (∀ W' : World, Calls Try.prog 10 #[.agg #[.int .i64 c, .int .i64 d], .int .u64 (putI a b w X), .int .u64 Y] W' fun e w' => e = .returned (.tuple #[.int .u64 (putI c d (putI a b w X) Y), .bool true]) ∧ Below W'.heap.size W' w') :=
    Lib.hid fun W' => put_yes c d (putI a b w X) Y W' hc.2 hd.1 hG q1 q2 hY0 hYm
  have L2 : Hid (∀ W' : World, Calls Try.prog 10 #[.agg #[.int .i64 c, .int .i64 d], .int .u64 w, .int .u64 Y] W' fun e w' => e = .returned (.tuple #[.int .u64 (putI c d w Y), .bool true]) ∧ Below W'.heap.size W' w') :=
    Lib.hid fun W' => put_yes c d w Y W' hc.2 hd.1 hG hw0 hw1 hY0 hYm
  have L3 : Hid (∀ W' : World, Calls Try.prog 10 #[.agg #[.int .i64 a, .int .i64 b], .int .u64 (putI c d w Y), .int .u64 X] W' fun e w' => e = .returned (.tuple #[.int .u64 (putI a b (putI c d w Y) X), .bool true]) ∧ Below W'.heap.size W' w') :=
    Lib.hid fun W' => put_yes a b (putI c d w Y) X W' ha.2 hb.1 hF r0.1 r0.2.1 hX0 hXm
  have L4 : Hid (∀ W' : World, Calls Try.prog 16 #[.agg #[.int .i64 c, .int .i64 d], .int .u64 (putI a b w X)] W' fun e w' => e = .returned (.int .u64 (getI c d (putI a b w X))) ∧ Below W'.heap.size W' w') :=
    Lib.hid fun W' => get_any c d (putI a b w X) W' hc.2 hd.1 q1 q2
  have L5 : Hid (∀ W' : World, Calls Try.prog 16 #[.agg #[.int .i64 c, .int .i64 d], .int .u64 w] W' fun e w' => e = .returned (.int .u64 (getI c d w)) ∧ Below W'.heap.size W' w') :=
    Lib.hid fun W' => get_any c d w W' hc.2 hd.1 hw0 hw1
  have hgt : decide (maxI a b < getI a b w) = false := by simp; omega
  clear hF hG hX hY q1 q2 q3 q4 q5 q6 q7 hXm hYm r0
  generalize putI c d (putI a b w X) Y = PD at *
  generalize putI a b (putI c d w Y) X = PH at *
  generalize putI c d w Y = PE at *
  generalize getI c d (putI a b w X) = GA at *
  generalize getI c d w = GB at *
  generalize putI a b w X = PA at *
  generalize getI a b w = GW at *
  go_wp2_with fail
  refine (max_any a b _ ha.2 hb.1).mono ?_
  rintro e w4 ⟨rfl, hb2⟩
  obtain ⟨e0, e1, f0, f1, hB2, ht, ht'⟩ := hold2 hb2 c0 c1 d0 d1 hB hs hs'
  clear hb2 c0 c1 d0 d1 hB hs hs'
  go_wp2_with fail
  rw [HX.out]
  generalize maxI a b = MF at *
  refine (K1.out _).mono ?_
  rintro e w5 ⟨rfl, hb2⟩
  obtain ⟨c0, c1, d0, d1, hB, hs, hs'⟩ := hold2 hb2 e0 e1 f0 f1 hB2 ht ht'
  clear hb2 e0 e1 f0 f1 hB2 ht ht'
  go_wp2_with fail
  refine wp_text (S := fun w' => w'.cell? ⟨W.heap.size, 0, none⟩ = some (.int .i64 a) ∧ w'.cell? ⟨W.heap.size, 1, none⟩ = some (.int .i64 b) ∧ w'.cell? ⟨W.heap.size + 1, 0, none⟩ = some (.int .i64 c) ∧ w'.cell? ⟨W.heap.size + 1, 1, none⟩ = some (.int .i64 d) ∧ Below W.heap.size W w' ∧ W.heap.size < w'.heap.size ∧ W.heap.size + 1 < w'.heap.size) (by kernel_rfl) (by kernel_rfl) ?hS1 (fun hT => ?_)
  case hS1 => exact ⟨c0, c1, d0, d1, hB.drew, hs, hs'⟩
  have HT := Lib.hid hT
  clear hT
  repeat (first
    | (refine text_value (v := ?_) HT.out (by rfl) ?_ ?_; rotate_left; (focus (intro w4 hS; go_simp <;> with_reducible rfl)); (try simp only [Act.put, List.setIfInBounds_toArray, List.set_cons_zero, List.set_cons_succ]))
    | (refine text_off HT.out (by rfl) ?_; (try simp only [Act.put, List.setIfInBounds_toArray, List.set_cons_zero, List.set_cons_succ]))
    | (refine text_call (v := .int .u64 X) (f := 16) (args := #[.agg #[.int .i64 a, .int .i64 b], .int .u64 PA]) HT.out (by rfl) ?_ ?_ ?_; (focus (intro w4 hS; go_simp <;> with_reducible rfl)); (focus (intro w4 hS; obtain ⟨s0, s1, s2, s3, s4, s5, s6⟩ := hS; refine (K4.out _).mono ?_; rintro e w5 ⟨rfl, hb5⟩; exact ⟨rfl, hold2 hb5 s0 s1 s2 s3 s4 s5 s6⟩)); (try simp only [Act.put, List.setIfInBounds_toArray, List.set_cons_zero, List.set_cons_succ]))
    | (refine text_call (v := .int .u64 GW) (f := 16) (args := #[.agg #[.int .i64 a, .int .i64 b], .int .u64 w]) HT.out (by rfl) ?_ ?_ ?_; (focus (intro w4 hS; go_simp <;> with_reducible rfl)); (focus (intro w4 hS; obtain ⟨s0, s1, s2, s3, s4, s5, s6⟩ := hS; refine (K5.out _).mono ?_; rintro e w5 ⟨rfl, hb5⟩; exact ⟨rfl, hold2 hb5 s0 s1 s2 s3 s4 s5 s6⟩)); (try simp only [Act.put, List.setIfInBounds_toArray, List.set_cons_zero, List.set_cons_succ]))
    | (refine text_call (v := .int .u64 MF) (f := 14) (args := #[.agg #[.int .i64 a, .int .i64 b]]) HT.out (by rfl) ?_ ?_ ?_; (focus (intro w4 hS; go_simp <;> with_reducible rfl)); (focus (intro w4 hS; obtain ⟨s0, s1, s2, s3, s4, s5, s6⟩ := hS; refine (K6.out _).mono ?_; rintro e w5 ⟨rfl, hb5⟩; exact ⟨rfl, hold2 hb5 s0 s1 s2 s3 s4 s5 s6⟩)); (try simp only [Act.put, List.setIfInBounds_toArray, List.set_cons_zero, List.set_cons_succ])))
  refine InText.nil fun w6 hS => ?_
  clear HT
  obtain ⟨e0, e1, f0, f1, hB2, ht, ht'⟩ := hS
  clear c0 c1 d0 d1 hB hs hs' hgt
  go_wp2_with fail
  refine (K2.out _).mono ?_
  rintro e w7 ⟨rfl, hb2⟩
  obtain ⟨c0, c1, d0, d1, hB, hs, hs'⟩ := hold2 hb2 e0 e1 f0 f1 hB2 ht ht'
  clear hb2 e0 e1 f0 f1 hB2 ht ht'
  go_wp2_with fail
  refine wp_text (S := fun w' => w'.cell? ⟨W.heap.size, 0, none⟩ = some (.int .i64 a) ∧ w'.cell? ⟨W.heap.size, 1, none⟩ = some (.int .i64 b) ∧ w'.cell? ⟨W.heap.size + 1, 0, none⟩ = some (.int .i64 c) ∧ w'.cell? ⟨W.heap.size + 1, 1, none⟩ = some (.int .i64 d) ∧ Below W.heap.size W w' ∧ W.heap.size < w'.heap.size ∧ W.heap.size + 1 < w'.heap.size) (by kernel_rfl) (by kernel_rfl) ?hS2 (fun hT => ?_)
  case hS2 => exact ⟨c0, c1, d0, d1, hB.drew, hs, hs'⟩
  have HT := Lib.hid hT
  clear hT
  repeat (first
    | (refine text_value (v := ?_) HT.out (by rfl) ?_ ?_; rotate_left; (focus (intro w4 hS; go_simp <;> with_reducible rfl)); (try simp only [Act.put, List.setIfInBounds_toArray, List.set_cons_zero, List.set_cons_succ]))
    | (refine text_off HT.out (by rfl) ?_; (try simp only [Act.put, List.setIfInBounds_toArray, List.set_cons_zero, List.set_cons_succ]))
    | (refine text_call (v := .int .u64 GW) (f := 16) (args := #[.agg #[.int .i64 a, .int .i64 b], .int .u64 w]) HT.out (by rfl) ?_ ?_ ?_; (focus (intro w4 hS; go_simp <;> with_reducible rfl)); (focus (intro w4 hS; obtain ⟨s0, s1, s2, s3, s4, s5, s6⟩ := hS; refine (K5.out _).mono ?_; rintro e w5 ⟨rfl, hb5⟩; exact ⟨rfl, hold2 hb5 s0 s1 s2 s3 s4 s5 s6⟩)); (try simp only [Act.put, List.setIfInBounds_toArray, List.set_cons_zero, List.set_cons_succ]))
    | (refine text_call (v := .tuple #[.int .u64 w, .bool true]) (f := 10) (args := #[.agg #[.int .i64 a, .int .i64 b], .int .u64 PA, .int .u64 GW]) HT.out (by rfl) ?_ ?_ ?_; (focus (intro w4 hS; go_simp <;> with_reducible rfl)); (focus (intro w4 hS; obtain ⟨s0, s1, s2, s3, s4, s5, s6⟩ := hS; refine (K3.out _).mono ?_; rintro e w5 ⟨rfl, hb5⟩; exact ⟨rfl, hold2 hb5 s0 s1 s2 s3 s4 s5 s6⟩)); (try simp only [Act.put, List.setIfInBounds_toArray, List.set_cons_zero, List.set_cons_succ])))
  refine InText.nil fun w8 hS => ?_
  clear HT
  obtain ⟨e0, e1, f0, f1, hB2, ht, ht'⟩ := hS
  clear c0 c1 d0 d1 hB hs hs'
  go_wp2_with fail
  refine (apart_pair a b c d _ HFIT.out HF.out HG.out).mono ?_
  rintro e w9 ⟨rfl, hb2⟩
  obtain ⟨c0, c1, d0, d1, hB, hs, hs'⟩ := hold2 hb2 e0 e1 f0 f1 hB2 ht ht'
  clear hb2 e0 e1 f0 f1 hB2 ht ht'
  by_cases hz : mskN (a, b) &&& mskN (c, d) = 0
  · obtain ⟨g1, rfl⟩ := hfar.out hz
    have hz1 : decide (mskN (a, b) &&& mskN (c, d) = 0) = true := by simpa using hz
    have HZ := Lib.hid hz1
    clear hz hz1 hfar
    subst g1
    rw [HZ.out]
    go_wp2_with fail
    refine (max_any c d _ hc.2 hd.1).mono ?_
    rintro e w10 ⟨rfl, hb2⟩
    obtain ⟨e0, e1, f0, f1, hB2, ht, ht'⟩ := hold2 hb2 c0 c1 d0 d1 hB hs hs'
    clear hb2 c0 c1 d0 d1 hB hs hs'
    go_wp2_with fail
    rw [HY.out]
    generalize maxI c d = MG at *
    refine (L1.out _).mono ?_
    rintro e w11 ⟨rfl, hb2⟩
    obtain ⟨c0, c1, d0, d1, hB, hs, hs'⟩ := hold2 hb2 e0 e1 f0 f1 hB2 ht ht'
    clear hb2 e0 e1 f0 f1 hB2 ht ht'
    go_wp2_with fail
    refine (L2.out _).mono ?_
    rintro e w12 ⟨rfl, hb2⟩
    obtain ⟨e0, e1, f0, f1, hB2, ht, ht'⟩ := hold2 hb2 c0 c1 d0 d1 hB hs hs'
    clear hb2 c0 c1 d0 d1 hB hs hs'
    go_wp2_with fail
    refine (L3.out _).mono ?_
    rintro e w13 ⟨rfl, hb2⟩
    obtain ⟨c0, c1, d0, d1, hB, hs, hs'⟩ := hold2 hb2 e0 e1 f0 f1 hB2 ht ht'
    clear hb2 e0 e1 f0 f1 hB2 ht ht'
    go_wp2_with fail
    refine wp_text (S := fun w' => w'.cell? ⟨W.heap.size, 0, none⟩ = some (.int .i64 a) ∧ w'.cell? ⟨W.heap.size, 1, none⟩ = some (.int .i64 b) ∧ w'.cell? ⟨W.heap.size + 1, 0, none⟩ = some (.int .i64 c) ∧ w'.cell? ⟨W.heap.size + 1, 1, none⟩ = some (.int .i64 d) ∧ Below W.heap.size W w' ∧ W.heap.size < w'.heap.size ∧ W.heap.size + 1 < w'.heap.size) (by kernel_rfl) (by kernel_rfl) ?hS3 (fun hT => ?_)
    case hS3 => exact ⟨c0, c1, d0, d1, hB.drew, hs, hs'⟩
    have HT := Lib.hid hT
    clear hT
    repeat (first
      | (refine text_value (v := ?_) HT.out (by rfl) ?_ ?_; rotate_left; (focus (intro w4 hS; go_simp <;> with_reducible rfl)); (try simp only [Act.put, List.setIfInBounds_toArray, List.set_cons_zero, List.set_cons_succ]))
      | (refine text_off HT.out (by rfl) ?_; (try simp only [Act.put, List.setIfInBounds_toArray, List.set_cons_zero, List.set_cons_succ]))
      | (refine text_call (v := .int .u64 GA) (f := 16) (args := #[.agg #[.int .i64 c, .int .i64 d], .int .u64 PA]) HT.out (by rfl) ?_ ?_ ?_; (focus (intro w4 hS; go_simp <;> with_reducible rfl)); (focus (intro w4 hS; obtain ⟨s0, s1, s2, s3, s4, s5, s6⟩ := hS; refine (L4.out _).mono ?_; rintro e w5 ⟨rfl, hb5⟩; exact ⟨rfl, hold2 hb5 s0 s1 s2 s3 s4 s5 s6⟩)); (try simp only [Act.put, List.setIfInBounds_toArray, List.set_cons_zero, List.set_cons_succ]))
      | (refine text_call (v := .int .u64 GA) (f := 16) (args := #[.agg #[.int .i64 c, .int .i64 d], .int .u64 w]) HT.out (by rfl) ?_ ?_ ?_; (focus (intro w4 hS; go_simp <;> with_reducible rfl)); (focus (intro w4 hS; obtain ⟨s0, s1, s2, s3, s4, s5, s6⟩ := hS; refine (L5.out _).mono ?_; rintro e w5 ⟨rfl, hb5⟩; exact ⟨rfl, hold2 hb5 s0 s1 s2 s3 s4 s5 s6⟩)); (try simp only [Act.put, List.setIfInBounds_toArray, List.set_cons_zero, List.set_cons_succ])))
    refine InText.nil fun w14 hS => ?_
    clear HT
    obtain ⟨-, -, -, -, hB2, -, -⟩ := hS
    go_wp2_with fail
    go_ret
    exact ⟨ret_bool (by simp), hB2⟩
  · have hz1 : decide (mskN (a, b) &&& mskN (c, d) = 0) = false := by simpa using hz
    have HZ := Lib.hid hz1
    clear hz hz1 hfar
    rw [HZ.out]
    go_wp2_with fail
    go_ret
    exact ⟨rfl, hB⟩

theorem cellsField : Try.prog.cellsOf 23 = 2 := by kernel_rfl

set_option maxRecDepth 100000 in
theorem lifted (os : Os) (started : os.Started) (H : Type) (enc : TypeId × Value → H) :
    ReturnsInHanded {} Try.checked os 6 .any (Rows.fieldBackSpec.pre6 enc Try.prog Try.f6 Rows.fieldBackRow.domain false) (Rows.fieldBackSpec.post enc Try.prog Try.f6 false true false false) := by
  refine returnsInHanded_of_change (C := Try.checked) own started (by kernel_rfl) Try.func6
    (ChangeSpec.witness6 (enc := enc) (C := Try.checked) false ⟨#[], #[.agg #[.int .i64 0, .int .i64 0], .agg #[.int .i64 0, .int .i64 0], .int .u64 0, .int .u64 0, .int .u64 0], []⟩ 8 (by kernel_rfl) (by kernel_rfl) (by kernel_rfl) (by kernel_rfl)) ?_
  intro W base args ds gs before hval0 hW hcnd _
  have hval : ∀ (j : Nat) t v, Try.f6.params[j]? = some t → args[j]? = some v → Value.okWide Try.prog W .any base t v := hval0
  have hW' := hW
  obtain ⟨p, q, hA0, hV, rfl, hfz, hnd⟩ := hW
  have hA : DataW.TrodAll enc Try.prog W 0 (fun _ => true) true Try.f6.params.toList args.toList ds p := hA0
  rw [Try.params6] at hA hval
  obtain ⟨v0, vs0, d0, ds0, p0, q0, hargs, rfl, rfl, g0, r0⟩ := trodAll_cons hA
  obtain ⟨v1, vs1, d1, ds1, p1, q1, rfl, rfl, rfl, g1, r1⟩ := trodAll_cons r0
  obtain ⟨v2, vs2, d2, ds2, p2, q2, rfl, rfl, rfl, g2, r2⟩ := trodAll_cons r1
  obtain ⟨v3, vs3, d3, ds3, p3, q3, rfl, rfl, rfl, g3, r3⟩ := trodAll_cons r2
  obtain ⟨v4, vs4, d4, ds4, p4, q4, rfl, rfl, rfl, g4, r4⟩ := trodAll_cons r3
  obtain ⟨rfl, rfl, rfl⟩ := trodAll_nil r4
  obtain rfl : args = #[v0, v1, v2, v3, v4] := by cases args; simp_all
  obtain ⟨rfl, rfl⟩ := trodVars_none hV
  obtain ⟨a2, rfl, rfl, rfl, w2⟩ := open_int Try.underlying24 (hval 2 24 v2 rfl rfl) g2
  have h2 := u64_in w2
  obtain ⟨a3, rfl, rfl, rfl, w3⟩ := open_int Try.underlying24 (hval 3 24 v3 rfl rfl) g3
  have h3 := u64_in w3
  obtain ⟨a4, rfl, rfl, rfl, w4⟩ := open_int Try.underlying24 (hval 4 24 v4 rfl rfl) g4
  have h4 := u64_in w4
  obtain ⟨e0a, e0b, y0a, y0b, m0, rfl, rfl, rfl, z0a, z0b⟩ := open_agg2 Try.underlying23 (by kernel_rfl) cellsField (hval 0 23 v0 rfl rfl) g0
  obtain ⟨a0, s0a, rfl, w0a⟩ := DataW.trod_int Try.underlying3 z0a
  obtain ⟨b0, s0b, rfl, w0b⟩ := DataW.trod_int Try.underlying3 z0b
  simp at s0a s0b
  subst s0a s0b
  have h0 := i64_in w0a
  have k0 := i64_in w0b
  obtain ⟨e1a, e1b, y1a, y1b, m1, rfl, rfl, rfl, z1a, z1b⟩ := open_agg2 Try.underlying23 (by kernel_rfl) cellsField (hval 1 23 v1 rfl rfl) g1
  obtain ⟨a1, s1a, rfl, w1a⟩ := DataW.trod_int Try.underlying3 z1a
  obtain ⟨b1, s1b, rfl, w1b⟩ := DataW.trod_int Try.underlying3 z1b
  simp at s1a s1b
  subst s1a s1b
  have h1 := i64_in w1a
  have k1 := i64_in w1b
  clear hA0 hval0
  refine (walk a0 b0 a1 b1 a2 a3 a4 h0 k0 h1 k1 h2.1 h2.2 h3.1 h3.2 h4.1 h4.2 W).mono fun e W' ⟨he, hg⟩ => ?_
  subst he
  exact ⟨_, rfl, law_post laidOut (by kernel_rfl) (by kernel_rfl) Try.underlying4 rfl rfl hW' hg⟩

theorem over : Rows.fieldBackRow.holds Try.pinned (OpenSpec.ofChange Rows.fieldBackSpec) :=
  OpenClaim.holds_of_wide 6 Try.f6 rfl rfl rfl rfl rfl rfl rfl ⟨rfl, rfl, rfl, rfl, rfl⟩ rfl rfl rfl rfl rfl (by kernel_rfl) Try.func6 (by kernel_rfl)
    (of_decide_eq_true (by kernel_rfl)) (by unfold Func.isWrapper; first | (rw [if_pos (by decide +kernel)]; kernel_rfl) | (rw [if_neg (by decide +kernel)]; exact ⟨rfl, rfl⟩))
    (fun os started H enc _ => lifted os started H enc)

/-- THE STATEMENT. -/
theorem proved : Rows.FieldBackSaid := over
#print axioms proved
end Go.Proofs.Ytlfklajfhjcfnaa.fieldBack
