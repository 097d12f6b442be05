/- What is proved on the way to the statement, part 1 of 2: contracts of the functions, among other things in memory. -/
import Derived.WalkKit
import Derived.Lib.Hide
import Derived.Test.YtnopnnjkabkbaaaChecked
import Derived.Deep.Light
import Derived.Laws.Bits64
import Derived.Orders
import Derived.Maps.OwnSet
import Derived.Deep.AppendLies
import Derived.Maps.AppendAt
import Derived.OneCell
import Derived.Laws.OwnMore
import Derived.Lib.SmallJoins
import Derived.Deep.Slices

/- Numbers and answers: general. -/
namespace Go.Proofs.Ytnopnnjkabkbaaa
open Go.RowKit
set_option maxRecDepth 100000

theorem ret_bool {x y : Bool} (h : x = y) : Ending.returned (.bool x) = .returned (.bool y) := congrArg (fun z => Ending.returned (.bool z)) h
theorem ret_int {k : IntKind} {x y : Int} (h : x = y) : Ending.returned (.int k x) = .returned (.int k y) := congrArg (fun z => Ending.returned (.int k z)) h
theorem ret_pair {k : IntKind} {x y : Int} {a b : Bool} (h : x = y) (g : a = b) : Ending.returned (.tuple #[.int k x, .bool a]) = .returned (.tuple #[.int k y, .bool b]) := by rw [h, g]
theorem w64 (n : Int) (h : -9223372036854775808 ≤ n ∧ n ≤ 9223372036854775807) : wrap64 n = n := by unfold wrap64; omega
/-- What the program counts is what is asked: nothing goes round. -/
theorem mul_in {a b A B : Int} (ha : 0 ≤ a ∧ a ≤ A) (hb : 0 ≤ b ∧ b ≤ B) : 0 ≤ a * b ∧ a * b ≤ A * B :=
  ⟨Int.mul_nonneg ha.1 hb.1, Int.mul_le_mul ha.2 hb.2 hb.1 (by omega)⟩
theorem wrap_mul {a b A B : Int} (ha : 0 ≤ a ∧ a ≤ A) (hb : 0 ≤ b ∧ b ≤ B) (hAB : A * B ≤ 9223372036854775807) : wrap64 (a * b) = a * b := by
  have := mul_in ha hb
  exact w64 _ (by omega)
theorem wrap_i (n : Int) : IntKind.i64.wrap n = wrap64 n := by rw [IntKind.wrap_i64]; unfold wrap64; omega
/-- int(uint(a) % m). -/
theorem cut_u (a m : Int) (h0 : 0 < m) (h1 : m ≤ 1099511627776) : ∃ r : Int, wrap64 ((IntKind.u64.wrap a).tmod m) = r ∧ 0 ≤ r ∧ r < m := by
  refine ⟨_, rfl, ?_⟩
  have e : 0 ≤ IntKind.u64.wrap a := by rw [IntKind.wrap_u64]; omega
  rw [Int.tmod_eq_emod_of_nonneg e]
  have := Int.emod_nonneg (IntKind.u64.wrap a) (show m ≠ 0 by omega)
  have := Int.emod_lt_of_pos (IntKind.u64.wrap a) h0
  unfold wrap64
  omega
/-- 1 + int(uint(a) % m). -/
theorem cut_u1 (a m : Int) (h0 : 0 < m) (h1 : m ≤ 1099511627776) : ∃ r : Int, wrap64 (1 + wrap64 ((IntKind.u64.wrap a).tmod m)) = r ∧ 1 ≤ r ∧ r ≤ m := by
  obtain ⟨r, hr, r0, r1⟩ := cut_u a m h0 h1
  exact ⟨1 + r, by rw [hr]; exact w64 _ (by omega), by omega, by omega⟩
def In64 (n : Int) : Prop := -9223372036854775808 ≤ n ∧ n ≤ 9223372036854775807
def InU (n : Int) : Prop := 0 ≤ n ∧ n ≤ 18446744073709551615
theorem wf_i {n : Int} : (Lit.int .i64 n).wf = true ↔ In64 n := by simp [Lit.wf, IntKind.min, IntKind.max, IntKind.signed, IntKind.bits, In64]
theorem wf_u {n : Int} : (Lit.int .u64 n).wf = true ↔ InU n := by simp [Lit.wf, IntKind.min, IntKind.max, IntKind.signed, IntKind.bits, InU]
end Go.Proofs.Ytnopnnjkabkbaaa

/- Layer 12: the plain mathematics of mixed keys: turning by what is shifted down is its own way back; numbers that times odd ones are 1. -/
namespace Go.Proofs.Ytnopnnjkabkbaaa
open Go.RowKit
set_option maxRecDepth 100000

/-- A word, turned by itself shifted down by 33. -/
def tuN (W : Nat) : Nat := W ^^^ W / 8589934592
theorem tuN_lt {W : Nat} (h : W < 18446744073709551616) : tuN W < 18446744073709551616 :=
  Nat.xor_lt_two_pow (n := 64) h (Nat.lt_of_le_of_lt (Nat.div_le_self _ _) h)
theorem tuN_tuN {W : Nat} (h : W < 18446744073709551616) : tuN (tuN W) = W := by
  apply Nat.eq_of_testBit_eq
  intro i
  have e : (8589934592 : Nat) = 2 ^ 33 := rfl
  unfold tuN
  rw [e, Nat.testBit_xor, Nat.testBit_div_two_pow, Nat.testBit_xor, Nat.testBit_xor, Nat.testBit_div_two_pow, Nat.testBit_div_two_pow]
  have : W.testBit (33 + i + 33) = false := Nat.testBit_lt_two_pow (Nat.lt_of_lt_of_le h (Nat.pow_le_pow_right (show 2 > 0 by omega) (show 64 ≤ 33 + i + 33 by omega)))
  have h2 : W.testBit (i + 33 + 33) = false := by rw [show i + 33 + 33 = 33 + i + 33 by omega]; exact this
  first
    | (simp [this]; done)
    | (simp [h2]; done)
    | (cases W.testBit i <;> cases W.testBit (i + 33) <;> simp_all)
/-- Times a number, modulo 2^64. -/
def tiN (a x : Nat) : Nat := a * x % 18446744073709551616
theorem tiN_lt (a x : Nat) : tiN a x < 18446744073709551616 := Nat.mod_lt _ (by omega)
theorem tiN_back {a b x : Nat} (hab : b * a % 18446744073709551616 = 1) (hx : x < 18446744073709551616) : tiN b (tiN a x) = x := by
  unfold tiN
  rw [Nat.mul_mod, Nat.mod_mod, ← Nat.mul_mod, ← Nat.mul_assoc, Nat.mul_mod, hab, Nat.one_mul, Nat.mod_mod, Nat.mod_eq_of_lt hx]
/-- A key, mixed; and back. -/
def mixN (K : Nat) : Nat := tuN (tiN 14181476777654086739 (tuN (tiN 18397679294719823053 (tuN K))))
def unmN (W : Nat) : Nat := tuN (tiN 5725274745694666757 (tuN (tiN 11291846944257947611 (tuN W))))
theorem mixN_lt (K : Nat) : mixN K < 18446744073709551616 := tuN_lt (tiN_lt _ _)
theorem unmN_lt (K : Nat) : unmN K < 18446744073709551616 := tuN_lt (tiN_lt _ _)
theorem unm_mix {K : Nat} (h : K < 18446744073709551616) : unmN (mixN K) = K := by
  unfold unmN mixN
  rw [tuN_tuN (tiN_lt _ _), tiN_back (by decide) (tuN_lt (tiN_lt _ _)), tuN_tuN (tiN_lt _ _), tiN_back (by decide) (tuN_lt h), tuN_tuN h]
theorem mix_unm {K : Nat} (h : K < 18446744073709551616) : mixN (unmN K) = K := by
  unfold unmN mixN
  rw [tuN_tuN (tiN_lt _ _), tiN_back (by decide) (tuN_lt (tiN_lt _ _)), tuN_tuN (tiN_lt _ _), tiN_back (by decide) (tuN_lt h), tuN_tuN h]

/-! ### as the program's words -/
def tuI (x : Int) : Int := (tuN x.toNat : Nat)
def tiI (a x : Int) : Int := (tiN a.toNat x.toNat : Nat)
def mixI (x : Int) : Int := (mixN x.toNat : Nat)
def unmI (x : Int) : Int := (unmN x.toNat : Nat)
theorem mixI_in (x : Int) : InU (mixI x) := by have := mixN_lt x.toNat; unfold mixI InU; omega
theorem unmI_in (x : Int) : InU (unmI x) := by have := unmN_lt x.toNat; unfold unmI InU; omega
theorem tuI_in {x : Int} (h : InU x) : InU (tuI x) := by have := tuN_lt (W := x.toNat) (by unfold InU at h; omega); unfold tuI InU; omega
theorem tiI_in (a x : Int) : InU (tiI a x) := by have := tiN_lt a.toNat x.toNat; unfold tiI InU; omega
theorem mixI_eq (x : Int) : mixI x = tuI (tiI 14181476777654086739 (tuI (tiI 18397679294719823053 (tuI x)))) := rfl
theorem unmI_eq (x : Int) : unmI x = tuI (tiI 5725274745694666757 (tuI (tiI 11291846944257947611 (tuI x)))) := rfl
theorem unmI_mixI {x : Int} (h : InU x) : unmI (mixI x) = x := by
  unfold InU at h
  unfold unmI mixI
  rw [Int.toNat_natCast, unm_mix (by omega)]
  omega
theorem mixI_unmI {x : Int} (h : InU x) : mixI (unmI x) = x := by
  unfold InU at h
  unfold unmI mixI
  rw [Int.toNat_natCast, mix_unm (by omega)]
  omega
theorem mixI_inj {x y : Int} (hx : InU x) (hy : InU y) : mixI x = mixI y ↔ x = y :=
  ⟨fun h => by rw [← unmI_mixI hx, h, unmI_mixI hy], fun h => by rw [h]⟩
theorem tiI_wrap {a x : Int} (ha : InU a) (hx : InU x) : IntKind.u64.wrap (x * a) = tiI a x := by
  obtain ⟨A, rfl⟩ := Int.eq_ofNat_of_zero_le ha.1
  obtain ⟨X, rfl⟩ := Int.eq_ofNat_of_zero_le hx.1
  rw [IntKind.wrap_u64]
  unfold tiI tiN
  rw [Int.toNat_natCast, Int.toNat_natCast, Int.mul_comm]
  rfl
theorem tu_div {x : Int} (hx : InU x) : x / 8589934592 = ((x.toNat / 8589934592 : Nat) : Int) := by
  obtain ⟨X, rfl⟩ := Int.eq_ofNat_of_zero_le hx.1
  simp

/-! ### what times it is 1 -/
theorem inv_step {a y y' P : Int} (h : P ∣ a * y - 1) (hy : (18446744073709551616 : Int) ∣ y' - y * (2 - a * y)) {Q : Int} (hQ : Q ∣ P * P) (h64 : Q ∣ 18446744073709551616) : Q ∣ a * y' - 1 := by
  obtain ⟨q, hq⟩ := hy
  obtain ⟨p, hp⟩ := h
  have e : a * y' - 1 = -(P * P * (p * p)) + 18446744073709551616 * (a * q) := by
    have e1 : y' = y * (2 - a * y) + 18446744073709551616 * q := by omega
    have e2 : a * y = P * p + 1 := by omega
    rw [e1, Int.mul_add, ← Int.mul_assoc, e2]
    have : a * (18446744073709551616 * q) = 18446744073709551616 * (a * q) := by rw [Int.mul_left_comm]
    rw [this]
    have : (P * p + 1) * (2 - (P * p + 1)) = 1 - (P * p) * (P * p) := by
      generalize P * p = z
      have : 2 - (z + 1) = 1 - z := by omega
      rw [this, Int.add_mul, Int.mul_sub, Int.mul_one, Int.one_mul]
      omega
    have e4 : P * p * (P * p) = P * P * (p * p) := by rw [Int.mul_assoc, Int.mul_left_comm p, ← Int.mul_assoc]
    rw [this, e4]
    omega
  rw [e]
  exact Int.dvd_add (Int.dvd_neg.2 (Int.dvd_mul_of_dvd_left hQ)) (Int.dvd_mul_of_dvd_left h64)
theorem odd_sq {a : Int} (h : a % 2 = 1) : (8 : Int) ∣ a * a - 1 := by
  obtain ⟨k, rfl⟩ : ∃ k, a = 2 * k + 1 := ⟨a / 2, by omega⟩
  have e : (2 * k + 1) * (2 * k + 1) - 1 = 4 * (k * (k + 1)) := by
    have e4 : 2 * k * (2 * k) = 4 * (k * k) := by rw [Int.mul_assoc, Int.mul_left_comm k, ← Int.mul_assoc]; rfl
    rw [Int.add_mul, Int.mul_add, e4, Int.mul_add k k 1]
    omega
  rw [e]
  have : (2 : Int) ∣ k * (k + 1) := by
    rcases Int.emod_two_eq k with h | h
    · exact Int.dvd_mul_of_dvd_left (by omega)
    · exact Int.dvd_mul_of_dvd_right (by omega)
  omega
/-- Two that invert the same are the same. -/
theorem inv_one {a y z : Int} (hy : (18446744073709551616 : Int) ∣ a * y - 1) (hz : (18446744073709551616 : Int) ∣ a * z - 1) (h1 : InU y) (h2 : InU z) : y = z := by
  obtain ⟨p, hp⟩ := hy
  obtain ⟨q, hq⟩ := hz
  have e : y - z = 18446744073709551616 * (p * z - q * y) := by
    have e1 : a * y = 18446744073709551616 * p + 1 := by omega
    have e2 : a * z = 18446744073709551616 * q + 1 := by omega
    have : z * (a * y) = y * (a * z) := by rw [Int.mul_left_comm, Int.mul_left_comm y, Int.mul_comm z y]
    rw [e1, e2, Int.mul_add, Int.mul_add, Int.mul_one, Int.mul_one] at this
    rw [Int.mul_sub]
    have t1 : z * (18446744073709551616 * p) = 18446744073709551616 * (p * z) := by rw [Int.mul_left_comm, Int.mul_comm z p]
    have t2 : y * (18446744073709551616 * q) = 18446744073709551616 * (q * y) := by rw [Int.mul_left_comm, Int.mul_comm y q]
    omega
  unfold InU at h1 h2
  generalize p * z - q * y = t at e
  omega
theorem inv_odd {a y : Int} (hy : (18446744073709551616 : Int) ∣ a * y - 1) : y % 2 = 1 := by
  rcases Int.emod_two_eq y with h | h
  · exfalso
    obtain ⟨k, rfl⟩ : ∃ k, y = 2 * k := ⟨y / 2, by omega⟩
    rw [Int.mul_left_comm] at hy
    generalize a * k = z at hy
    omega
  · exact h
/-- What the function answers: what times it is 1; 0 of an even one. -/
def Inv (a y : Int) : Prop := InU y ∧ (a % 2 = 0 → y = 0) ∧ (a % 2 = 1 → (18446744073709551616 : Int) ∣ a * y - 1)
theorem Inv.back {a y z : Int} (h : Inv a y) (hz : Inv y z) (ha : InU a) (h1 : a % 2 = 1) : z = a := by
  have hy := h.2.2 h1
  exact inv_one (hz.2.2 (inv_odd hy)) (by rw [Int.mul_comm]; exact hy) hz.1 ha
theorem Inv.lit {a y : Int} (h : Inv a y) (h1 : a % 2 = 1) {z : Int} (hz : (18446744073709551616 : Int) ∣ a * z - 1) (h2 : InU z) : y = z := inv_one (h.2.2 h1) hz h.1 h2

/-! ### buckets -/
def buI (n x : Int) : Int := mixI x / 4294967296 * n / 4294967296
theorem high_in (x : Int) : 0 ≤ mixI x / 4294967296 ∧ mixI x / 4294967296 ≤ 4294967295 := by have := mixI_in x; unfold InU at this; omega
theorem buI_in {n : Int} (x : Int) (h : 1 ≤ n ∧ n ≤ 64) : 0 ≤ buI n x ∧ buI n x < n := by
  have h1 := high_in x
  unfold buI
  generalize mixI x / 4294967296 = H at *
  have h2 := mul_in (b := n) (B := n) h1 (by omega)
  omega
theorem buI_wrap {n : Int} (x : Int) (h : 1 ≤ n ∧ n ≤ 64) : IntKind.u64.wrap (mixI x / 4294967296 * n) = mixI x / 4294967296 * n := by
  have h1 := high_in x
  generalize mixI x / 4294967296 = H at *
  have h2 := mul_in (b := n) (B := 64) h1 (by omega)
  rw [IntKind.wrap_u64]
  omega
/-- Twice the buckets halve each. -/
theorem buI_half {n : Int} (x : Int) (h : 1 ≤ n ∧ n ≤ 64) : buI (2 * n) x / 2 = buI n x := by
  have h1 := high_in x
  unfold buI
  generalize mixI x / 4294967296 = H at *
  rw [Int.mul_left_comm]
  generalize H * n = z
  omega
end Go.Proofs.Ytnopnnjkabkbaaa

/- Contracts of layer 12: turn, Mix, Invert, Unmix; the reference's. -/
namespace Go.Proofs.Ytnopnnjkabkbaaa
open Go.RowKit
set_option maxRecDepth 100000

theorem tu_bits {x : Int} (h : InU x) : bits .xor .u64 x (x / 8589934592) = tuI x := by
  obtain ⟨X, rfl⟩ := Int.eq_ofNat_of_zero_le h.1
  have hX : X < 18446744073709551616 := by have := h.2; omega
  have e : (X : Int) / 8589934592 = ((X / 8589934592 : Nat) : Int) := by simp
  rw [e, bits_xor_u64_nat _ _ hX (Nat.lt_of_le_of_lt (Nat.div_le_self _ _) hX)]
  rfl
theorem quo_u {x : Int} (h : InU x) {c : Int} (hc : 1 ≤ c) : IntKind.u64.wrap (x.tdiv c) = x / c := by
  rw [Int.tdiv_eq_ediv_of_nonneg h.1, IntKind.wrap_u64]
  have h1 : 0 ≤ x / c := Int.ediv_nonneg h.1 (by omega)
  have h2 : x / c ≤ x := Int.ediv_le_self _ h.1
  have := h.2
  omega

set_option maxHeartbeats 400000 in
theorem tu_any {x : Int} (hx : InU x) (w : World) : Calls Try.prog 18 #[.int .u64 x] w fun e w' => e = .returned (.int .u64 (tuI x)) ∧ w = w' := by
  have HX := Lib.hid hx
  clear hx
  go_enter Try.func18, Try.ntmps18
  go_wp2
  go_ret
  exact ⟨ret_int (tu_bits HX.out), rfl⟩

set_option maxHeartbeats 400000 in
theorem refTu_any {x : Int} (hx : InU x) (w : World) : Calls Try.prog 19 #[.int .u64 x] w fun e w' => e = .returned (.int .u64 (tuI x)) ∧ w = w' := by
  have HX := Lib.hid hx
  clear hx
  go_enter Try.func19, Try.ntmps19
  go_wp2
  go_ret
  exact ⟨ret_int (by rw [quo_u HX.out (by decide)]; exact tu_bits HX.out), rfl⟩

set_option maxHeartbeats 400000 in
theorem mix_any {x : Int} (hx : InU x) (w : World) : Calls Try.prog 10 #[.int .u64 x] w fun e w' => e = .returned (.int .u64 (mixI x)) ∧ w = w' := by
  have HX := Lib.hid hx
  clear hx
  have HE := Lib.hid (mixI_eq x)
  go_enter Try.func10, Try.ntmps10
  go_wp2_with fail
  refine (tu_any HX.out _).mono ?_
  rintro e w1 ⟨rfl, rfl⟩
  have m1 := Lib.hid (tiI_wrap (a := 18397679294719823053) ⟨by decide, by decide⟩ (tuI_in HX.out))
  have n1 := Lib.hid (tiI_in 18397679294719823053 (tuI x))
  generalize tuI x = y at *
  go_wp2_with fail
  refine (tu_any (by rw [m1.out]; exact n1.out) _).mono ?_
  rintro e w1 ⟨rfl, rfl⟩
  rw [m1.out]
  have m2 := Lib.hid (tiI_wrap (a := 14181476777654086739) ⟨by decide, by decide⟩ (tuI_in n1.out))
  have n2 := Lib.hid (tiI_in 14181476777654086739 (tuI (tiI 18397679294719823053 y)))
  generalize tuI (tiI 18397679294719823053 y) = z at *
  go_wp2_with fail
  refine (tu_any (by rw [m2.out]; exact n2.out) _).mono ?_
  rintro e w1 ⟨rfl, rfl⟩
  rw [m2.out]
  go_wp2
  go_ret
  exact ⟨ret_int HE.out.symm, rfl⟩

set_option maxHeartbeats 400000 in
theorem refMix_any {x : Int} (hx : InU x) (w : World) : Calls Try.prog 11 #[.int .u64 x] w fun e w' => e = .returned (.int .u64 (mixI x)) ∧ w = w' := by
  have HX := Lib.hid hx
  clear hx
  have HE := Lib.hid (mixI_eq x)
  go_enter Try.func11, Try.ntmps11
  go_wp2_with fail
  refine (refTu_any HX.out _).mono ?_
  rintro e w1 ⟨rfl, rfl⟩
  have m1 := Lib.hid (tiI_wrap (a := 18397679294719823053) ⟨by decide, by decide⟩ (tuI_in HX.out))
  have n1 := Lib.hid (tiI_in 18397679294719823053 (tuI x))
  generalize tuI x = y at *
  go_wp2_with fail
  refine (refTu_any (by rw [m1.out]; exact n1.out) _).mono ?_
  rintro e w1 ⟨rfl, rfl⟩
  rw [m1.out]
  have m2 := Lib.hid (tiI_wrap (a := 14181476777654086739) ⟨by decide, by decide⟩ (tuI_in n1.out))
  have n2 := Lib.hid (tiI_in 14181476777654086739 (tuI (tiI 18397679294719823053 y)))
  generalize tuI (tiI 18397679294719823053 y) = z at *
  go_wp2_with fail
  refine (refTu_any (by rw [m2.out]; exact n2.out) _).mono ?_
  rintro e w1 ⟨rfl, rfl⟩
  rw [m2.out]
  go_wp2
  go_ret
  exact ⟨ret_int HE.out.symm, rfl⟩

/-- How far the way has come, in each round. -/
def far (j : Nat) : Int := [8, 64, 4096, 16777216, 281474976710656, 18446744073709551616].getD j 0
theorem far_step {a y y' : Int} {j : Nat} (hj : j < 5) (h : far j ∣ a * y - 1) (hy : (18446744073709551616 : Int) ∣ y' - y * (2 - a * y)) : far (j + 1) ∣ a * y' - 1 := by
  have hc : j = 0 ∨ j = 1 ∨ j = 2 ∨ j = 3 ∨ j = 4 := by omega
  rcases hc with rfl | rfl | rfl | rfl | rfl <;> exact inv_step h hy (by decide) (by decide)
theorem step_wrap (a y : Int) : (18446744073709551616 : Int) ∣ IntKind.u64.wrap (y * IntKind.u64.wrap (2 - IntKind.u64.wrap (a * y))) - y * (2 - a * y) := by
  rw [IntKind.wrap_u64, IntKind.wrap_u64, IntKind.wrap_u64]
  have e1 : a * y % 18446744073709551616 = a * y - 18446744073709551616 * (a * y / 18446744073709551616) := by omega
  rw [e1]
  generalize a * y / 18446744073709551616 = p
  have e2 : (2 - (a * y - 18446744073709551616 * p)) % 18446744073709551616 = 2 - a * y + 18446744073709551616 * (p - (2 - (a * y - 18446744073709551616 * p)) / 18446744073709551616) := by omega
  rw [e2]
  generalize p - (2 - (a * y - 18446744073709551616 * p)) / 18446744073709551616 = q
  rw [Int.mul_add, Int.mul_left_comm y 18446744073709551616]
  generalize y * (2 - a * y) = r
  generalize y * q = s
  omega
theorem wrap_inU (n : Int) : InU (IntKind.u64.wrap n) := by rw [IntKind.wrap_u64]; unfold InU; omega

set_option maxHeartbeats 800000 in
theorem invert_any {a : Int} (ha : InU a) (w : World) : Calls Try.prog 15 #[.int .u64 a] w fun e w' => ∃ y, e = .returned (.int .u64 y) ∧ Inv a y ∧ w = w' := by
  have HA := Lib.hid ha
  have h0 := ha.1
  clear ha
  by_cases h2 : a % 2 = 0
  · have HZ : Hid (Inv a 0) := Lib.hid ⟨⟨by decide, by decide⟩, fun _ => rfl, fun h => by omega⟩
    have hb : (a % 2 == 0) = true := by simpa using h2
    clear h2
    go_enter Try.func15, Try.ntmps15
    go_wp2
    go_ret
    exact ⟨0, rfl, HZ.out, rfl⟩
  · have hb : (a % 2 == 0) = false := by simpa using h2
    have h1 : a % 2 = 1 := by omega
    have H1 := Lib.hid h1
    have HN := Lib.hid h2
    have H3 := Lib.hid (odd_sq h1)
    clear h1 h2
    go_enter Try.func15, Try.ntmps15
    go_wp2
    go_loopw [3, 4] (fun y i wr => ∃ (j : Nat) (z : Int), j ≤ 5 ∧ y = .int .u64 z ∧ i = .int .i64 (3 * 2 ^ j) ∧ Hid (InU z) ∧ Hid (far j ∣ a * z - 1) ∧ w = wr) (fun _ i _ => 100 - (intOf i).toNat)
    case atStart => exact ⟨0, a, by omega, rfl, rfl, HA, H3, rfl⟩
    case round =>
      obtain ⟨j, z, hj, rfl, rfl, HZ, HF, rfl⟩ := hrel
      by_cases hj5 : j < 5
      · have hS := Lib.hid (far_step hj5 HF.out (step_wrap a z))
        have hp : (3 * 2 ^ j : Int) ≤ 48 ∧ (3 : Int) ≤ 3 * 2 ^ j := by
          have hc : j = 0 ∨ j = 1 ∨ j = 2 ∨ j = 3 ∨ j = 4 := by omega
          rcases hc with rfl | rfl | rfl | rfl | rfl <;> decide
        have hq : (3 * 2 ^ (j + 1) : Int) = 2 * (3 * 2 ^ j) := by rw [Int.pow_succ]; omega
        have HQ := Lib.hid hq
        clear hq
        generalize (3 * 2 ^ j : Int) = N at *
        have hb : decide (N < 64) = true := by simp; omega
        go_wp2
        go_roundw
        case rel => exact ⟨j + 1, _, by omega, rfl, by rw [HQ.out]; first | (go_num; done) | (congr 1; omega), Lib.hid (wrap_inU _), hS, by first | rfl | trivial⟩
        case measure => simp [intOf]; omega
      · have : j = 5 := by omega
        subst this
        have HV : Hid (Inv a z) := Lib.hid ⟨HZ.out, fun h => absurd h HN.out, fun _ => HF.out⟩
        go_wp2
        go_ret
        exact ⟨z, rfl, HV.out, rfl⟩

set_option maxHeartbeats 400000 in
theorem inv2_any (w : World) : Calls Try.prog 15 #[.int .u64 14181476777654086739] w fun e w' => e = .returned (.int .u64 11291846944257947611) ∧ w = w' := by
  refine (invert_any ⟨by decide, by decide⟩ w).mono ?_
  rintro e w1 ⟨y, rfl, h, rfl⟩
  rw [h.lit (by decide) (z := 11291846944257947611) (by decide) ⟨by decide, by decide⟩]
  exact ⟨rfl, rfl⟩
theorem inv1_any (w : World) : Calls Try.prog 15 #[.int .u64 18397679294719823053] w fun e w' => e = .returned (.int .u64 5725274745694666757) ∧ w = w' := by
  refine (invert_any ⟨by decide, by decide⟩ w).mono ?_
  rintro e w1 ⟨y, rfl, h, rfl⟩
  rw [h.lit (by decide) (z := 5725274745694666757) (by decide) ⟨by decide, by decide⟩]
  exact ⟨rfl, rfl⟩

set_option maxHeartbeats 400000 in
theorem unmix_any {x : Int} (hx : InU x) (w : World) : Calls Try.prog 16 #[.int .u64 x] w fun e w' => e = .returned (.int .u64 (unmI x)) ∧ w = w' := by
  have HX := Lib.hid hx
  clear hx
  have HE := Lib.hid (unmI_eq x)
  go_enter Try.func16, Try.ntmps16
  go_wp2_with fail
  refine (tu_any HX.out _).mono ?_
  rintro e w1 ⟨rfl, rfl⟩
  have m1 := Lib.hid (tiI_wrap (a := 11291846944257947611) ⟨by decide, by decide⟩ (tuI_in HX.out))
  have n1 := Lib.hid (tiI_in 11291846944257947611 (tuI x))
  generalize tuI x = y at *
  go_wp2_with fail
  refine (inv2_any _).mono ?_
  rintro e w1 ⟨rfl, rfl⟩
  go_wp2_with fail
  refine (tu_any (by rw [m1.out]; exact n1.out) _).mono ?_
  rintro e w1 ⟨rfl, rfl⟩
  rw [m1.out]
  have m2 := Lib.hid (tiI_wrap (a := 5725274745694666757) ⟨by decide, by decide⟩ (tuI_in n1.out))
  have n2 := Lib.hid (tiI_in 5725274745694666757 (tuI (tiI 11291846944257947611 y)))
  generalize tuI (tiI 11291846944257947611 y) = z at *
  go_wp2_with fail
  refine (inv1_any _).mono ?_
  rintro e w1 ⟨rfl, rfl⟩
  go_wp2_with fail
  refine (tu_any (by rw [m2.out]; exact n2.out) _).mono ?_
  rintro e w1 ⟨rfl, rfl⟩
  rw [m2.out]
  go_wp2
  go_ret
  exact ⟨ret_int HE.out.symm, rfl⟩

end Go.Proofs.Ytnopnnjkabkbaaa

/- Layer 3: the plain mathematics of structures. -/
namespace Go.Proofs.Ytnopnnjkabkbaaa
open Go.RowKit
set_option maxRecDepth 100000

/-- A number within bounds. -/
def inB (n lo hi : Int) : Bool := decide (lo ≤ n ∧ n ≤ hi)
theorem inB_yes {n lo hi : Int} (h : inB n lo hi = true) : lo ≤ n ∧ n ≤ hi := by simpa [inB] using h
theorem inB_no {n lo hi : Int} (h : inB n lo hi = false) : n < lo ∨ hi < n := by
  by_cases h1 : lo ≤ n
  · exact .inr (by simpa [inB, h1] using h)
  · exact .inl (by omega)
/-- There are such structures. -/
def kindB (k : Int) : Bool := decide (k = 1 ∨ k = 2 ∨ k = 3)
/-- As many buckets, levels as its kind can have. -/
def buckB (k b : Int) : Bool := if k = 2 then inB b 1 64 else decide (b = 0)
def highB (k h : Int) : Bool := if k = 3 then inB h 1 16 else decide (h = 1)
/-- What is wrong with a structure. -/
def chkI (k s b h l : Int) : Int := if kindB k then (if inB s 1 8388607 && inB l 2 1099511627775 && buckB k b && highB k h then 0 else 3) else 8
theorem kindB_iff (k : Int) : kindB k = true ↔ 1 ≤ k ∧ k ≤ 3 := by simp [kindB]; omega
theorem inB_iff (n lo hi : Int) : inB n lo hi = true ↔ lo ≤ n ∧ n ≤ hi := by simp [inB]
theorem buckB_iff (k b : Int) : buckB k b = true ↔ (k = 2 ∧ 1 ≤ b ∧ b ≤ 64) ∨ (k ≠ 2 ∧ b = 0) := by
  unfold buckB
  split
  · next e => rw [inB_iff]; omega
  · next e => rw [decide_eq_true_iff]; omega
theorem highB_iff (k h : Int) : highB k h = true ↔ (k = 3 ∧ 1 ≤ h ∧ h ≤ 16) ∨ (k ≠ 3 ∧ h = 1) := by
  unfold highB
  split
  · next e => rw [inB_iff]; omega
  · next e => rw [decide_eq_true_iff]; omega
def Cfg (s k b h l : Int) : Prop := (1 ≤ s ∧ s ≤ 8388607) ∧ (2 ≤ l ∧ l ≤ 1099511627775) ∧ ((k = 2 ∧ 1 ≤ b ∧ b ≤ 64) ∨ (k ≠ 2 ∧ b = 0)) ∧ ((k = 3 ∧ 1 ≤ h ∧ h ≤ 16) ∨ (k ≠ 3 ∧ h = 1))
theorem cfg_iff (k s b h l : Int) : (inB s 1 8388607 && inB l 2 1099511627775 && buckB k b && highB k h) = true ↔ Cfg s k b h l := by
  rw [Bool.and_eq_true, Bool.and_eq_true, Bool.and_eq_true, inB_iff, inB_iff, buckB_iff, highB_iff]
  unfold Cfg
  omega
theorem chk_eight {k s b h l : Int} (hk : ¬ (1 ≤ k ∧ k ≤ 3)) : chkI k s b h l = 8 := by
  unfold chkI
  rw [if_neg (by rw [kindB_iff]; exact hk)]
theorem chk_three {k s b h l : Int} (hk : 1 ≤ k ∧ k ≤ 3) (hc : ¬ Cfg s k b h l) : chkI k s b h l = 3 := by
  unfold chkI
  rw [if_pos (by rw [kindB_iff]; exact hk), if_neg (by rw [cfg_iff]; exact hc)]
theorem chk_zero {k s b h l : Int} (hk : 1 ≤ k ∧ k ≤ 3) (hc : Cfg s k b h l) : chkI k s b h l = 0 := by
  unfold chkI
  rw [if_pos (by rw [kindB_iff]; exact hk), if_pos (by rw [cfg_iff]; exact hc)]
theorem chk_yes {k s b h l : Int} (e : chkI k s b h l = 0) : (1 ≤ k ∧ k ≤ 3) ∧ (1 ≤ s ∧ s ≤ 8388607) ∧ (2 ≤ l ∧ l ≤ 1099511627775) ∧ ((k = 2 ∧ 1 ≤ b ∧ b ≤ 64) ∨ (k ≠ 2 ∧ b = 0)) ∧ ((k = 3 ∧ 1 ≤ h ∧ h ≤ 16) ∨ (k ≠ 3 ∧ h = 1)) := by
  unfold chkI at e
  split at e
  · next hk =>
    split at e
    · next hc => exact ⟨(kindB_iff k).1 hk, (cfg_iff k s b h l).1 hc⟩
    · cases e
  · cases e
/-- How many links it begins at; a slot's cells; how long an op may take. -/
def rootsI (k s b h l : Int) : Int := if chkI k s b h l = 0 then (if k = 2 then b else h) else 0
def cellsI (k s b h l : Int) : Int := if chkI k s b h l = 0 then 7 + h else 0
def aloneI (k s b h l : Int) : Int := if chkI k s b h l = 0 then 64 * (s + 4) * (h + 1) else 0
def winB (k s b h l t : Int) : Bool := decide (chkI k s b h l = 0) && inB t 1 64
def winI (k s b h l t : Int) : Int := if winB k s b h l t then 64 * (t + 1) * (t + 1) * (t + 1) * (s + 2) * (h + 1) * (h + 1) else 0
/-- What is asked of which; its level; its key and value. -/
def askB (k o : Int) : Bool := if o = 1 ∨ o = 2 ∨ o = 3 then decide (k = 1 ∨ k = 3) else if o = 4 ∨ o = 5 ∨ o = 6 ∨ o = 7 then decide (k = 2) else decide (o = 8)
def lvlB (k h o y : Int) : Bool := if k = 3 ∧ o = 1 then inB y 1 h else decide (y = 0)
def putB (o : Int) : Bool := decide (o = 4 ∨ o = 5)
def argB (o x v : Int) : Bool := decide ((v ≠ 0 ∧ o ≠ 4 ∧ o ≠ 5) ∨ (x ≠ 0 ∧ o = 8))
def opI (k s b h l o x v y : Int) : Int := if chkI k s b h l = 0 then (if askB k o then (if lvlB k h o y then (if argB o x v then 1 else 0) else 3) else 8) else chkI k s b h l

theorem alone_wrap {s h : Int} (hs : 1 ≤ s ∧ s ≤ 8388607) (hh : 1 ≤ h ∧ h ≤ 16) : wrap64 (wrap64 (64 * wrap64 (s + 4)) * wrap64 (h + 1)) = 64 * (s + 4) * (h + 1) := by
  rw [w64 (s + 4) (by omega), w64 (64 * (s + 4)) (by omega), w64 (h + 1) (by omega)]
  exact wrap_mul (A := 536871104) (B := 17) (by omega) (by omega) (by decide)
theorem cell_wrap {h : Int} (hh : 1 ≤ h ∧ h ≤ 16) : wrap64 (7 + h) = 7 + h := w64 _ (by omega)
theorem win_wrap {s h t : Int} (hs : 1 ≤ s ∧ s ≤ 8388607) (hh : 1 ≤ h ∧ h ≤ 16) (ht : 1 ≤ t ∧ t ≤ 64) :
    wrap64 (wrap64 (wrap64 (64 * ((t + 1) * (t + 1) * (t + 1))) * (s + 2)) * ((h + 1) * (h + 1))) = 64 * (t + 1) * (t + 1) * (t + 1) * (s + 2) * (h + 1) * (h + 1) := by
  have h2 := mul_in (a := t + 1) (b := t + 1) (A := 65) (B := 65) (by omega) (by omega)
  have h3 := mul_in (b := t + 1) (B := 65) h2 (by omega)
  have h4 := mul_in (a := 64) (A := 64) (by omega) h3
  have h5 := mul_in (b := s + 2) (B := 8388609) h4 (by omega)
  have h6 := mul_in (a := h + 1) (b := h + 1) (A := 17) (B := 17) (by omega) (by omega)
  have h7 := mul_in h5 h6
  rw [w64 (64 * ((t + 1) * (t + 1) * (t + 1))) (by omega), w64 (64 * ((t + 1) * (t + 1) * (t + 1)) * (s + 2)) (by omega), w64 _ (by omega)]
  simp only [Int.mul_assoc]
/-- .. as the statement counts it. -/
theorem win_wrap' {s h t : Int} (hs : 1 ≤ s ∧ s ≤ 8388607) (hh : 1 ≤ h ∧ h ≤ 16) (ht : 1 ≤ t ∧ t ≤ 64) :
    wrap64 (wrap64 (wrap64 (wrap64 (wrap64 (wrap64 (64 * wrap64 (t + 1)) * wrap64 (t + 1)) * wrap64 (t + 1)) * wrap64 (s + 2)) * wrap64 (h + 1)) * wrap64 (h + 1)) = 64 * (t + 1) * (t + 1) * (t + 1) * (s + 2) * (h + 1) * (h + 1) := by
  rw [w64 (t + 1) (by omega), w64 (s + 2) (by omega), w64 (h + 1) (by omega)]
  have h1 := mul_in (a := 64) (b := t + 1) (A := 64) (B := 65) (by omega) (by omega)
  have h2 := mul_in (b := t + 1) (B := 65) h1 (by omega)
  have h3 := mul_in (b := t + 1) (B := 65) h2 (by omega)
  have h4 := mul_in (b := s + 2) (B := 8388609) h3 (by omega)
  have h5 := mul_in (b := h + 1) (B := 17) h4 (by omega)
  have h6 := mul_in (b := h + 1) (B := 17) h5 (by omega)
  rw [w64 (64 * (t + 1)) (by omega), w64 (64 * (t + 1) * (t + 1)) (by omega), w64 (64 * (t + 1) * (t + 1) * (t + 1)) (by omega), w64 (64 * (t + 1) * (t + 1) * (t + 1) * (s + 2)) (by omega), w64 (64 * (t + 1) * (t + 1) * (t + 1) * (s + 2) * (h + 1)) (by omega), w64 _ (by omega)]
end Go.Proofs.Ytnopnnjkabkbaaa

/- What a call's own blocks hold, carried over calls, allocations and stores; and that nothing that was there before has turned. -/
namespace Go.Proofs.Ytnopnnjkabkbaaa
open Go.RowKit
set_option maxRecDepth 100000

/-- A block n that holds vs; one of the call's own (from m on) may be written. -/
def Blk (m : Nat) (w : World) (n : Nat) (vs : List Value) : Prop :=
  n < w.heap.size ∧ (∀ i, w.cell? ⟨n, i, none⟩ = vs[i]?) ∧ (m ≤ n → ∀ i, i < vs.length → w.frozen? ⟨n, i, none⟩ = false)
/-- Since w0 nothing that was there has turned, and the blocks of the list hold what it says. -/
def Fr (w0 : World) (bl : List (Nat × List Value)) (w : World) : Prop := Below w0.heap.size w0 w ∧ ∀ x ∈ bl, Blk w0.heap.size w x.1 x.2

theorem Fr.below {w0 w : World} {bl : List (Nat × List Value)} (h : Fr w0 bl w) : Below w0.heap.size w0 w := h.1
theorem Fr.start (w : World) : Fr w [] w := ⟨Below.refl _ _, fun x hx => by cases hx⟩
theorem Fr.drew {w0 w : World} {bl : List (Nat × List Value)} (h : Fr w0 bl w) : Fr w0 bl w.drew := ⟨h.1.drew, fun x hx => h.2 x hx⟩
theorem Fr.over {w0 w w' : World} {bl : List (Nat × List Value)} (h : Fr w0 bl w) (hb : Below w.heap.size w w') : Fr w0 bl w' := by
  refine ⟨h.1.trans (hb.mono h.1.size), fun x hx => ?_⟩
  obtain ⟨h1, h2, h3⟩ := h.2 x hx
  have hs := hb.size
  refine ⟨by omega, fun i => ?_, fun hm i hi => ?_⟩
  · rw [hb.cell (p := ⟨x.1, i, none⟩) h1]; exact h2 i
  · rw [hb.frozen (p := ⟨x.1, i, none⟩) h1]; exact h3 hm i hi
theorem Fr.more {w0 w : World} {bl : List (Nat × List Value)} (h : Fr w0 bl w) (o : Obj) : Fr w0 bl (w.alloc o) := h.over ((Below.refl _ _).alloc (Nat.le_refl _) o)
theorem Fr.push {w0 w : World} {bl : List (Nat × List Value)} (h : Fr w0 bl w) (n : Nat) (hn : w.heap.size = n) (vs : List Value) (t : TypeId) : Fr w0 ((n, vs) :: bl) (w.alloc (.cells vs.toArray t)) := by
  subst hn
  refine ⟨(h.more _).1, fun x hx => ?_⟩
  rcases List.mem_cons.1 hx with rfl | hx
  · exact ⟨by simp, fun i => by simp, fun _ i _ => by simp⟩
  · exact (h.more _).2 x hx
theorem Fr.rule {w0 w : World} {bl : List (Nat × List Value)} (h : Fr w0 bl w) (k : Nat) {n : Nat} {vs : List Value} (e : bl[k]? = some (n, vs)) : ∀ i, w.cell? ⟨n, i, none⟩ = vs[i]? :=
  (h.2 (n, vs) (List.mem_of_getElem? e)).2.1
theorem Fr.lt {w0 w : World} {bl : List (Nat × List Value)} (h : Fr w0 bl w) (k : Nat) {n : Nat} {vs : List Value} (e : bl[k]? = some (n, vs)) : n < w.heap.size :=
  (h.2 (n, vs) (List.mem_of_getElem? e)).1
theorem Fr.thaw {w0 w : World} {bl : List (Nat × List Value)} (h : Fr w0 bl w) (k : Nat) {n : Nat} {vs : List Value} (e : bl[k]? = some (n, vs)) (hn : w0.heap.size ≤ n) : ∀ i, i < vs.length → w.frozen? ⟨n, i, none⟩ = false :=
  (h.2 (n, vs) (List.mem_of_getElem? e)).2.2 hn
/-- A variable that was there before. -/
theorem Fr.seen {w0 w : World} {bl : List (Nat × List Value)} (h : Fr w0 bl w) {n : Nat} {vs : List Value} (hn : n < w0.heap.size) (hc : ∀ i, w0.cell? ⟨n, i, none⟩ = vs[i]?) : Fr w0 ((n, vs) :: bl) w := by
  refine ⟨h.1, fun x hx => ?_⟩
  rcases List.mem_cons.1 hx with rfl | hx
  · exact ⟨by have := h.1.size; simp; omega, fun i => by rw [h.1.cell (p := ⟨n, i, none⟩) hn]; exact hc i, fun hm => by simp at hm; omega⟩
  · exact h.2 x hx
/-- A store into the block that came last: the others stay. -/
theorem Fr.put {w0 w : World} {n : Nat} {vs : List Value} {bl : List (Nat × List Value)} (h : Fr w0 ((n, vs) :: bl) w) (hn : w0.heap.size ≤ n) (hd : ∀ x ∈ bl, x.1 ≠ n) (i : Nat) (hi : i < vs.length) (u : Value) : Fr w0 ((n, vs.set i u) :: bl) (w.setCell ⟨n, i, none⟩ u) := by
  obtain ⟨hb, hbl⟩ := h
  have h0 := hbl (n, vs) (List.mem_cons_self ..)
  refine ⟨hb.setCell hn u, fun x hx => ?_⟩
  rcases List.mem_cons.1 hx with rfl | hx
  · obtain ⟨k1, k2, k3⟩ := h0
    refine ⟨by simpa [World.setCell] using k1, fun j => ?_, fun hm j hj => ?_⟩
    · by_cases hij : j = i
      · subst hij
        rw [World.cell?_setCell_same' _ _ _ (by rw [k2]; simp [hi])]
        simp [hi]
      · have e : (⟨n, i, none⟩ : Addr) ≠ ⟨n, j, none⟩ := fun e => hij (by cases e; rfl)
        have e2 : (w.setCell ⟨n, i, none⟩ u).cell? ⟨n, j, none⟩ = w.cell? ⟨n, j, none⟩ := World.cell?_setCell_other w _ _ u e
        rw [e2, k2, List.getElem?_set, if_neg (fun e => hij e.symm)]
    · rw [World.frozen?_setCell]
      exact k3 hm j (by simpa using hj)
  · obtain ⟨k1, k2, k3⟩ := hbl x (List.mem_cons_of_mem _ hx)
    have hne : x.1 ≠ n := hd x hx
    have hk : (w.setCell ⟨n, i, none⟩ u).heap[x.1]? = w.heap[x.1]? := Below.heap_setCell _ _ _ _ hne
    exact ⟨by simpa [World.setCell] using k1, fun j => by rw [World.cell?_of_block (w := w) hk]; exact k2 j, fun hm j hj => by rw [World.frozen?_of_block (w := w) hk]; exact k3 hm j hj⟩
theorem Fr.tail {w0 w : World} {x : Nat × List Value} {bl : List (Nat × List Value)} (h : Fr w0 (x :: bl) w) : Fr w0 bl w := ⟨h.1, fun y hy => h.2 y (List.mem_cons_of_mem _ hy)⟩
/-- A block of the frame by itself. -/
theorem Fr.blk {w0 w : World} {bl : List (Nat × List Value)} (h : Fr w0 bl w) (k : Nat) {n : Nat} {vs : List Value} (e : bl[k]? = some (n, vs)) (hn : w0.heap.size ≤ n) : Blk 0 w n vs := ⟨h.lt k e, h.rule k e, fun _ => h.thaw k e hn⟩
theorem Fr.put3 {w0 w : World} {n : Nat} {a b c : Value} {bl : List (Nat × List Value)} (h : Fr w0 ((n, [a, b, c]) :: bl) w) (hn : w0.heap.size ≤ n) (hd : ∀ x ∈ bl, x.1 ≠ n) (u v t : Value) : Fr w0 ((n, [u, v, t]) :: bl) (((w.setCell ⟨n, 0, none⟩ u).setCell ⟨n, 1, none⟩ v).setCell ⟨n, 2, none⟩ t) :=
  ((h.put hn hd 0 (by simp) u).put hn hd 1 (by simp) v).put hn hd 2 (by simp) t
theorem Fr.put5 {w0 w : World} {n : Nat} {a b c d e : Value} {bl : List (Nat × List Value)} (h : Fr w0 ((n, [a, b, c, d, e]) :: bl) w) (hn : w0.heap.size ≤ n) (hd : ∀ x ∈ bl, x.1 ≠ n) (u v t x y : Value) :
    Fr w0 ((n, [u, v, t, x, y]) :: bl) (((((w.setCell ⟨n, 0, none⟩ u).setCell ⟨n, 1, none⟩ v).setCell ⟨n, 2, none⟩ t).setCell ⟨n, 3, none⟩ x).setCell ⟨n, 4, none⟩ y) :=
  ((((h.put hn hd 0 (by simp) u).put hn hd 1 (by simp) v).put hn hd 2 (by simp) t).put hn hd 3 (by simp) x).put hn hd 4 (by simp) y
end Go.Proofs.Ytnopnnjkabkbaaa

/- Contracts of the functions of layer 3 that later layers call: Check, Roots. -/
namespace Go.Proofs.Ytnopnnjkabkbaaa
open Go.RowKit
set_option maxRecDepth 100000

set_option maxHeartbeats 400000 in
theorem within_any (n lo hi : Int) (w : World) : Calls Try.prog 23 #[.int .i64 n, .int .i64 lo, .int .i64 hi] w fun e w' => e = .returned (.bool (inB n lo hi)) ∧ w = w' := by
  go_enter Try.func23, Try.ntmps23
  go_wp2
  all_goals
    go_ret
    exact ⟨ret_bool (by simp [inB]; try omega), rfl⟩

set_option maxHeartbeats 400000 in
theorem isKind_any (k : Int) (w : World) : Calls Try.prog 22 #[.int .i64 k] w fun e w' => e = .returned (.bool (kindB k)) ∧ w = w' := by
  go_enter Try.func22, Try.ntmps22
  go_wp2
  all_goals
    go_ret
    exact ⟨ret_bool (by rw [Bool.eq_iff_iff]; simp [kindB]; try omega), rfl⟩

set_option maxHeartbeats 400000 in
theorem hasBuckets_any (k s b h l : Int) (w : World) : Calls Try.prog 24 #[.agg #[.int .i64 k, .int .i64 s, .int .i64 b, .int .i64 h, .int .i64 l]] w fun e w' => e = .returned (.bool (buckB k b)) ∧ Below w.heap.size w w' := by
  have hF := (Fr.start w).push w.heap.size rfl [.int .i64 k, .int .i64 s, .int .i64 b, .int .i64 h, .int .i64 l] 24
  go_enter Try.func24, Try.ntmps24
  go_wp2_with
    (with_reducible refine (within_any _ _ _ _).mono ?_; rintro e w1 ⟨rfl, rfl⟩)
  all_goals
    go_ret
    (try go_light)
    (try simp only [bne_iff_ne, ne_eq, bne_eq_false_iff_eq, beq_iff_eq, beq_eq_false_iff_ne, Bool.or_eq_true, Bool.and_eq_true, decide_eq_true_eq, decide_eq_false_iff_not, Bool.or_eq_false_iff, Bool.not_eq_true', Bool.not_eq_false'] at *)
    refine ⟨ret_bool ?_, hF.below⟩
    rw [Bool.eq_iff_iff, buckB_iff]
    (try simp [inB])
    (try omega)

set_option maxHeartbeats 400000 in
theorem hasHeight_any (k s b h l : Int) (w : World) : Calls Try.prog 25 #[.agg #[.int .i64 k, .int .i64 s, .int .i64 b, .int .i64 h, .int .i64 l]] w fun e w' => e = .returned (.bool (highB k h)) ∧ Below w.heap.size w w' := by
  have hF := (Fr.start w).push w.heap.size rfl [.int .i64 k, .int .i64 s, .int .i64 b, .int .i64 h, .int .i64 l] 24
  go_enter Try.func25, Try.ntmps25
  go_wp2_with
    (with_reducible refine (within_any _ _ _ _).mono ?_; rintro e w1 ⟨rfl, rfl⟩)
  all_goals
    go_ret
    (try go_light)
    (try simp only [bne_iff_ne, ne_eq, bne_eq_false_iff_eq, beq_iff_eq, beq_eq_false_iff_ne, Bool.or_eq_true, Bool.and_eq_true, decide_eq_true_eq, decide_eq_false_iff_not, Bool.or_eq_false_iff, Bool.not_eq_true', Bool.not_eq_false'] at *)
    refine ⟨ret_bool ?_, hF.below⟩
    rw [Bool.eq_iff_iff, highB_iff]
    (try simp [inB])
    (try omega)

set_option maxHeartbeats 400000 in
theorem check_any (k s b h l : Int) (w : World) : Calls Try.prog 20 #[.agg #[.int .i64 k, .int .i64 s, .int .i64 b, .int .i64 h, .int .i64 l]] w fun e w' => e = .returned (.int .i64 (chkI k s b h l)) ∧ Below w.heap.size w w' := by
  have hF := (Fr.start w).push w.heap.size rfl [.int .i64 k, .int .i64 s, .int .i64 b, .int .i64 h, .int .i64 l] 24
  have r := hF.rule 0 rfl
  go_enter Try.func20, Try.ntmps20
  go_wp2_with (first
    |
      (with_reducible refine (within_any _ _ _ _).mono ?_; rintro e w1 ⟨rfl, rfl⟩)
    |
      (with_reducible refine (isKind_any _ _).mono ?_; rintro e w1 ⟨rfl, rfl⟩)
    |
      (with_reducible refine (hasBuckets_any _ _ _ _ _ _).mono ?_; rintro e w1 ⟨rfl, hb⟩; replace hF := hF.over hb; clear hb r; have r := hF.rule 0 rfl)
    |
      (with_reducible refine (hasHeight_any _ _ _ _ _ _).mono ?_; rintro e w1 ⟨rfl, hb⟩; replace hF := hF.over hb; clear hb r; have r := hF.rule 0 rfl)
    )
  all_goals
    go_ret
    (try go_light)
    (try simp only [bne_iff_ne, ne_eq, bne_eq_false_iff_eq, beq_iff_eq, beq_eq_false_iff_ne, Bool.or_eq_true, Bool.and_eq_true, decide_eq_true_eq, decide_eq_false_iff_not, Bool.or_eq_false_iff, Bool.not_eq_true', Bool.not_eq_false'] at *)
    refine ⟨ret_int ?_, hF.below⟩
    simp [chkI, *]

set_option maxHeartbeats 400000 in
theorem roots_any (k s b h l : Int) (w : World) : Calls Try.prog 21 #[.agg #[.int .i64 k, .int .i64 s, .int .i64 b, .int .i64 h, .int .i64 l]] w fun e w' => e = .returned (.int .i64 (rootsI k s b h l)) ∧ Below w.heap.size w w' := by
  have hF := (Fr.start w).push w.heap.size rfl [.int .i64 k, .int .i64 s, .int .i64 b, .int .i64 h, .int .i64 l] 24
  have r := hF.rule 0 rfl
  go_enter Try.func21, Try.ntmps21
  go_wp2_with
    (with_reducible refine (check_any _ _ _ _ _ _).mono ?_; rintro e w1 ⟨rfl, hb⟩; replace hF := hF.over hb; clear hb r; have r := hF.rule 0 rfl)
  all_goals
    go_ret
    (try go_light)
    (try simp only [bne_iff_ne, ne_eq, bne_eq_false_iff_eq, beq_iff_eq, beq_eq_false_iff_ne, Bool.or_eq_true, Bool.and_eq_true, decide_eq_true_eq, decide_eq_false_iff_not, Bool.or_eq_false_iff, Bool.not_eq_true', Bool.not_eq_false'] at *)
    refine ⟨ret_int ?_, hF.below⟩
    by_cases hc : chkI k s b h l = 0
    · have hy := chk_yes hc
      simp only [rootsI, hc, if_true]
      (try (split <;> omega))
    · simp only [rootsI, hc, if_false]
      (try (first | rfl | omega))

end Go.Proofs.Ytnopnnjkabkbaaa

/- Contracts of layer 12: Bucket, of the program's and the reference's; a hash map's structure. -/
namespace Go.Proofs.Ytnopnnjkabkbaaa
open Go.RowKit
set_option maxRecDepth 100000

/-- A key's bucket, of a structure. -/
def bkI (k s b h l x : Int) : Int := if k = 2 ∧ chkI k s b h l = 0 then buI b x else 0
theorem bkI_no {k s b h l x : Int} (hn : ¬ (k = 2 ∧ chkI k s b h l = 0)) : bkI k s b h l x = 0 := by simp [bkI, hn]
theorem bkI_yes {k s b h l x : Int} (h1 : k = 2) (h2 : chkI k s b h l = 0) : bkI k s b h l x = buI b x := by simp [bkI, h1]; intro h; exact absurd (h1 ▸ h2) h

theorem shr_u {x : Int} (h : InU x) : IntKind.u32.wrap (x / 4294967296) = x / 4294967296 := by
  unfold InU at h
  rw [IntKind.wrap_u32]
  omega
set_option maxRecDepth 100000 in
set_option maxHeartbeats 400000 in
theorem bucket_any (k s b h l : Int) {x : Int} (hx : InU x) (w : World) : Calls Try.prog 12 #[.agg #[.int .i64 k, .int .i64 s, .int .i64 b, .int .i64 h, .int .i64 l], .int .u64 x] w fun e w' => e = .returned (.int .i64 (bkI k s b h l x)) ∧ Below w.heap.size w w' := by
  have HX := Lib.hid hx
  clear hx
  have hF := (Fr.start w).push w.heap.size rfl [.int .i64 k, .int .i64 s, .int .i64 b, .int .i64 h, .int .i64 l] 24
  have r := hF.rule 0 rfl
  by_cases h2 : k = 2
  · by_cases hc : chkI k s b h l = 0
    · have hy := Lib.hid (chk_yes hc)
      have HE := Lib.hid (bkI_yes (x := x) h2 hc)
      have HC := Lib.hid hc
      clear hc
      have hk : (k != 2) = false := by simp [h2]
      have HK := Lib.hid h2
      clear h2
      go_enter Try.func12, Try.ntmps12
      go_wp2_with fail
      refine (check_any _ _ _ _ _ _).mono ?_
      rintro e w1 ⟨rfl, hb⟩
      replace hF := hF.over hb
      clear hb r
      have r := hF.rule 0 rfl
      rw [HC.out]
      go_wp2_with fail
      refine (mix_any HX.out _).mono ?_
      rintro e w2 ⟨rfl, rfl⟩
      go_wp2
      go_ret
      refine ⟨ret_int ?_, hF.below⟩
      have hh := high_in x
      have hbb : 1 ≤ b ∧ b ≤ 64 := by have := hy.out; have := HK.out; omega
      have hB := buI_in x hbb
      have hW := buI_wrap x hbb
      have e1 : IntKind.u64.wrap b = b := by rw [IntKind.wrap_u64]; omega
      have e2 : mixI x / 4294967296 % 4294967296 = mixI x / 4294967296 := by omega
      rw [HE.out, e1, e2, hW]
      exact w64 _ (by unfold buI at hB; omega)
    · have HE := Lib.hid (bkI_no (x := x) (fun h => hc h.2))
      have hk : (k != 2) = false := by simp [h2]
      have hcb : (chkI k s b h l != 0) = true := by simpa using hc
      clear h2 hc
      go_enter Try.func12, Try.ntmps12
      go_wp2_with
        (with_reducible refine (check_any _ _ _ _ _ _).mono ?_; rintro e w1 ⟨rfl, hb⟩; replace hF := hF.over hb; clear hb r; have r := hF.rule 0 rfl)
      all_goals
        go_ret
        exact ⟨ret_int HE.out.symm, hF.below⟩
  · have HE := Lib.hid (bkI_no (x := x) (s := s) (b := b) (h := h) (l := l) (fun h => h2 h.1))
    have hk : (k != 2) = true := by simpa using h2
    clear h2
    go_enter Try.func12, Try.ntmps12
    go_wp2
    go_ret
    exact ⟨ret_int HE.out.symm, hF.below⟩

set_option maxHeartbeats 400000 in
theorem refBucket_any {n x : Int} (hx : InU x) (hn : 1 ≤ n ∧ n ≤ 64) (w : World) : Calls Try.prog 9 #[.int .i64 n, .int .u64 x] w fun e w' => e = .returned (.int .i64 (buI n x)) ∧ w = w' := by
  have HX := Lib.hid hx
  have HB := Lib.hid (buI_in x hn)
  have HW := Lib.hid (buI_wrap x hn)
  have HN := Lib.hid hn
  clear hx hn
  go_enter Try.func9, Try.ntmps9
  go_wp2_with fail
  refine (refMix_any HX.out _).mono ?_
  rintro e w2 ⟨rfl, rfl⟩
  go_wp2
  go_ret
  refine ⟨ret_int ?_, rfl⟩
  have hh := high_in x
  have hb := HB.out
  have hn := HN.out
  have e1 : IntKind.u64.wrap n = n := by rw [IntKind.wrap_u64]; omega
  rw [quo_u (mixI_in x) (by decide), e1, HW.out]
  unfold buI at hb ⊢
  have h64 := mul_in hh (B := 64) (b := n) (by omega)
  rw [quo_u (by unfold InU; omega) (by decide)]
  exact w64 _ (by omega)

set_option maxHeartbeats 400000 in
theorem hash_any (n : Int) (w : World) : Calls Try.prog 17 #[.int .i64 n] w fun e w' => e = .returned (.agg #[.int .i64 2, .int .i64 1, .int .i64 n, .int .i64 1, .int .i64 2]) ∧ Below w.heap.size w w' := by
  have hP := (Fr.start w).push w.heap.size rfl [.int .i64 2, .int .i64 1, .int .i64 n, .int .i64 1, .int .i64 2] 24
  have q := hP.rule 0 rfl
  go_enter Try.func17, Try.ntmps17
  go_wp2
  exact bodyPost_ret (v := .agg #[.int .i64 2, .int .i64 1, .int .i64 n, .int .i64 1, .int .i64 2]) (by simp [results, Try.results17, go_sem, q]) rfl ⟨rfl, hP.below⟩
end Go.Proofs.Ytnopnnjkabkbaaa

/- A drawn region in whose course the world is turned: walked once, in the order of the text. S says, of what has been listed so far, what every world on the way keeps. 'Chain': operations that turn the world one behind the other, each hanging on the one ahead of it; all others keep what is said. 'Both': two operations that turn it, in whichever order. -/
namespace Go.Proofs.Ytnopnnjkabkbaaa.Ord
open Go
set_option maxRecDepth 100000

section
variable {P : Program} {ops : Array Oper} {Q : Exit → Act → World → Prop} {md : Region.Mode} {S : Array Bool → World → Prop}

/-- What a run comes to: the value v, or a call that comes to v; then T. -/
def LandsIn (P : Program) (T : World → Prop) (v : Value) : Result Next → Prop
  | .ok (.value u) w' => u = v ∧ T w'
  | .ok .skip w' => v = undef ∧ T w'
  | .ok (.enter f args) w' => Calls P f args w' fun e w'' => e = .returned v ∧ T w''
  | _ => False
theorem LandsIn.mono {T T' : World → Prop} {v : Value} {r : Result Next} (h : LandsIn P T v r) (hT : ∀ w, T w → T' w) : LandsIn P T' v r := by
  cases r with
  | ok n w' =>
    cases n <;> simp only [LandsIn] at *
    case value u => exact ⟨h.1, hT _ h.2⟩
    case skip => exact ⟨h.1, hT _ h.2⟩
    case enter f args => exact h.mono fun e w'' he => ⟨he.1, hT _ he.2⟩
  | halt x w' => simp only [LandsIn] at h

/-- In frame a the operation, number i, comes to v from every world that is met when it comes up. -/
def Settles (P : Program) (md : Region.Mode) (ops : Array Oper) (S : Array Bool → World → Prop) (i : Nat) (o : Oper) (v : Value) (a : Act) : Prop :=
  (Region.wanted o (yielded ops a.tmps) = true ∧ ∀ l w, i ∈ Region.ready md ops l → S l w → LandsIn P (S (l.setIfInBounds i true)) v ((execOp a.eval o).run P w)) ∨
  (Region.wanted o (yielded ops a.tmps) = false ∧ v = undef ∧ ∀ l w, i ∈ Region.ready md ops l → S l w → S (l.setIfInBounds i true) w)

theorem Settles.of_same {i : Nat} {o : Oper} {v : Value} {a a' : Act} (h : Settles P md ops S i o v a) (he : execOp a'.eval o = execOp a.eval o)
    (hw : Region.wanted o (yielded ops a'.tmps) = Region.wanted o (yielded ops a.tmps)) : Settles P md ops S i o v a' := by
  unfold Settles at *
  rw [he, hw]
  exact h

theorem Settles.wpOp {i : Nat} {o : Oper} {v : Value} {a : Act} {l : Array Bool} (hi : ops[i]? = some o) (h : Settles P md ops S i o v a) (hr : i ∈ Region.ready md ops l) {K : Act → World → Prop} {w : World} (hS : S l w)
    (hK : ∀ w', S (l.setIfInBounds i true) w' → K (a.put o.dst v) w') : wpOp P ops Q i K a w := by
  unfold Go.wpOp
  simp only [hi]
  rcases h with ⟨hw, hv⟩ | ⟨hw, rfl, hv⟩
  · simp only [hw, if_true]
    have := hv l w hr hS
    refine .inl ?_
    unfold Oper.wp
    generalize (execOp a.eval o).run P w = r at *
    cases r with
    | ok n w' =>
      cases n <;> simp only [LandsIn] at this <;> simp only [Oper.upon]
      case value u => obtain ⟨rfl, h2⟩ := this; exact hK _ h2
      case skip => obtain ⟨rfl, h2⟩ := this; exact hK _ h2
      case enter f args =>
        refine Calls.mono this fun e w'' he => ?_
        obtain ⟨rfl, h2⟩ := he
        exact hK _ h2
    | halt x w' => simp only [LandsIn] at this
  · simp only [hw, Bool.false_eq_true, if_false]
    exact hK _ (hv l w hr hS)

/-- Whatever order is picked: each operation comes to a value that hangs on the frame alone. -/
def Every (P : Program) (md : Region.Mode) (ops : Array Oper) (Q : Exit → Act → World → Prop) (S : Array Bool → World → Prop) : Nat → Array Bool → Act → Prop
  | 0, listed, a => Region.ready md ops listed = [] ∧ ∀ w, S listed w → Q .normal a w
  | fuel + 1, listed, a => (Region.ready md ops listed = [] → ∀ w, S listed w → Q .normal a w) ∧
    ∀ i ∈ Region.ready md ops listed, ∃ o v, ops[i]? = some o ∧ Settles P md ops S i o v a ∧ Every P md ops Q S fuel (listed.setIfInBounds i true) (a.put o.dst v)

theorem Every.sound : ∀ (fuel : Nat) (listed : Array Bool) (a : Act), Every P md ops Q S fuel listed a → ∀ w, S listed w → wpAny P md ops Q fuel listed a w
  | 0, _, _, h, w, hS => ⟨h.1, h.2 w hS⟩
  | fuel + 1, listed, a, h, w, hS => ⟨fun h0 => h.1 h0 w hS, fun i hi => by
      obtain ⟨o, v, ho, hs, hE⟩ := h.2 i hi
      exact hs.wpOp ho hi hS fun w' hS' => Every.sound fuel _ _ hE w' hS'⟩

theorem Every.first {i : Nat} {oi : Oper} {v : Value} (hi : ops[i]? = some oi) (hsel : ∀ (j : Nat) (o : Oper) cs b, ops[j]? = some o → o.op ≠ .select cs b) :
    ∀ (fuel : Nat) (listed : Array Bool) (a : Act),
      (∀ j oj, ops[j]? = some oj → j ≠ i → listed.getD j true = false → (∀ e ∈ oj.after, Region.binds md e = true → e.on ≠ i) → oi.apart ops oj = true) →
      i ∈ Region.ready md ops listed → Settles P md ops S i oi v a →
      Every P md ops Q S fuel (listed.setIfInBounds i true) (a.put oi.dst v) → Every P md ops Q S (fuel + 1) listed a := by
  intro fuel
  induction fuel with
  | zero =>
    intro listed a _ hr hy H
    refine ⟨fun h => (by rw [h] at hr; cases hr), fun j hj => ?_⟩
    by_cases hji : j = i
    · subst hji; exact ⟨oi, v, hi, hy, H⟩
    · have := ready_mono hj hji
      rw [H.1] at this
      cases this
  | succ fuel ih =>
    intro listed a hfree hr hy H
    refine ⟨fun h => (by rw [h] at hr; cases hr), fun j hj => ?_⟩
    by_cases hji : j = i
    · subst hji; exact ⟨oi, v, hi, hy, H⟩
    · obtain ⟨oj, u, hoj, hsj, hE⟩ := H.2 j (ready_mono hj hji)
      obtain ⟨hjun, oj', hoj', hall⟩ := mem_ready.1 hj
      obtain rfl : oj = oj' := Option.some.inj (hoj.symm.trans hoj')
      have hnot : ∀ e ∈ oj.after, Region.binds md e = true → e.on ≠ i := fun e he hb heq => by
        have h1 := hall e he hb
        have h0 := (mem_ready.1 hr).1
        rw [heq] at h1
        rcases Nat.lt_or_ge i listed.size with h' | h'
        · simp [h'] at h0 h1; rw [h0] at h1; cases h1
        · simp [Array.getElem?_eq_none h'] at h1
      have hap := hfree j oj hoj hji hjun hnot
      obtain ⟨p1, p2, p3⟩ := Oper.apart_spec hap
      have hfree' : ∀ k ok, ops[k]? = some ok → k ≠ i → (listed.setIfInBounds j true).getD k true = false →
          (∀ e ∈ ok.after, Region.binds md e = true → e.on ≠ i) → oi.apart ops ok = true := fun k ok hk hki hun hno => by
        refine hfree k ok hk hki ?_ hno
        by_cases hjk : j = k
        · subst hjk; exact hjun
        · rw [getD_set_ne true hjk] at hun; exact hun
      refine ⟨oj, u, hoj, hsj.of_same (execOp_put oj (fun cs b => hsel j oj cs b hoj) a oi.dst v p1).symm (wanted_put oj a oi.dst v p1).symm, ?_⟩
      refine ih (listed.setIfInBounds j true) (a.put oj.dst u) hfree' (ready_mono hr (Ne.symm hji)) (hy.of_same (execOp_put oi (fun cs b => hsel i oi cs b hi) a oj.dst u p3) (wanted_put oi a oj.dst u p3)) ?_
      rw [Array.setIfInBounds_comm _ _ hji, ← Act.put_comm a v u p2]
      exact hE

/-- The operations of the text from k on, in its order. -/
def firstK (n k : Nat) : Array Bool := Array.ofFn (n := n) fun i => decide (i.1 < k)
def textFits (md : Region.Mode) (ops : Array Oper) : Bool :=
  Region.noSelect ops && (List.range ops.size).all fun k => Region.free md ops (firstK ops.size k) k && (Region.ready md ops (firstK ops.size k)).contains k
def InText (P : Program) (md : Region.Mode) (ops : Array Oper) (Q : Exit → Act → World → Prop) (S : Array Bool → World → Prop) (k : Nat) (rest : List Oper) (a : Act) : Prop :=
  k + rest.length = ops.size → ops.toList.drop k = rest → Every P md ops Q S rest.length (firstK ops.size k) a

theorem firstK_succ (n k : Nat) : (firstK n k).setIfInBounds k true = firstK n (k + 1) := by
  apply Array.ext
  · simp [firstK]
  · intro i h1 h2
    by_cases hik : i = k
    · subst hik
      simp [firstK]
    · have e := Array.getElem_setIfInBounds_ne (xs := firstK n k) (i := k) (j := i) (a := true) (by simpa using h1) (by omega)
      rw [e]
      simp only [firstK, Array.getElem_ofFn]
      congr 1
      apply propext
      omega
theorem firstK_get (n k i : Nat) (h : i < n) : (firstK n k).getD i false = decide (i < k) := by simp [firstK, h]

theorem InText.nil {a : Act} {k : Nat} (h : ∀ w, S (firstK ops.size ops.size) w → Q .normal a w) : InText P md ops Q S k [] a := fun hk _ => by
  have hk' : k = ops.size := by simpa using hk
  subst hk'
  refine ⟨?_, h⟩
  unfold Region.ready
  rw [List.filter_eq_nil_iff]
  intro i hi
  have : i < ops.size := by simpa using hi
  simp [firstK, this]

theorem InText.cons {o : Oper} {rest : List Oper} {a : Act} {v : Value} {k : Nat} (hf : textFits md ops = true) (hs : Settles P md ops S k o v a) (h : InText P md ops Q S (k + 1) rest (a.put o.dst v)) : InText P md ops Q S k (o :: rest) a := fun hk hd => by
  unfold textFits at hf
  rw [Bool.and_eq_true, List.all_eq_true] at hf
  have hlt : k < ops.size := by simp at hk; omega
  have hf2 := hf.2 k (by simpa using hlt)
  rw [Bool.and_eq_true] at hf2
  have ho : ops[k]? = some o := by
    have h0 : (ops.toList.drop k)[0]? = some o := by rw [hd]; rfl
    simpa using h0
  have hsel : ∀ (j : Nat) (o : Oper) cs b, ops[j]? = some o → o.op ≠ .select cs b := Region.noSelect_spec hf.1
  refine Every.first ho hsel rest.length (firstK ops.size k) a (Region.free_spec ho hf2.1) (by simpa using hf2.2) hs ?_
  rw [firstK_succ]
  refine h (by simp at hk; omega) ?_
  rw [← List.drop_drop, hd]
  rfl

/-- The start. -/
theorem wp_ord {id : Nat} {a : Act} {w : World} (hm : P.follows .mixedOrders = true) (hf : textFits .any ops = true) (hS : S (firstK ops.size 0) w.drew) (h : textFits .any ops = true → InText P .any ops Q S 0 ops.toList a) : (Code.region id ops true).wp P Q a w :=
  wp_region_any hm (by
    have h0 := h hf (by simp) rfl
    have e : firstK ops.size 0 = Array.replicate ops.size false := by
      apply Array.ext
      · simp [firstK]
      · intro i h1 h2; simp [firstK]
    rw [e] at h0 hS
    simpa using Every.sound _ _ _ h0 _ hS)

/-- Operation k hangs on p at once. -/
def hangs (md : Region.Mode) (ops : Array Oper) (k p : Nat) : Bool :=
  match ops[k]? with
  | some o => o.after.any fun e => Region.binds md e && e.on == p
  | none => false
theorem hangs_listed {l : Array Bool} {k p : Nat} (h : hangs md ops k p = true) (hr : k ∈ Region.ready md ops l) : l.getD p false = true := by
  obtain ⟨_, o, ho, hall⟩ := mem_ready.1 hr
  unfold hangs at h
  rw [ho] at h
  obtain ⟨e, he, h2⟩ := Array.any_eq_true'.1 h
  rw [Bool.and_eq_true] at h2
  have := hall e he h2.1
  rwa [show e.on = p by simpa using h2.2] at this

end

/-! ### One behind the other -/
section
variable {P : Program} {ops : Array Oper} {Q : Exit → Act → World → Prop} {md : Region.Mode} {C : World → Prop} {A : Nat → World → Prop} {ps : List Nat}

/-- What is listed of the operations ps are the first j; then C and A j hold. -/
def Chain (n : Nat) (ps : List Nat) (C : World → Prop) (A : Nat → World → Prop) (l : Array Bool) (w : World) : Prop :=
  l.size = n ∧ C w ∧ ∃ j, j ≤ ps.length ∧ (∀ i p, ps[i]? = some p → p < n ∧ l.getD p false = decide (i < j)) ∧ A j w

theorem chain_start {n : Nat} {w : World} (hlt : ∀ p ∈ ps, p < n) (hC : C w) (hA : A 0 w) : Chain n ps C A (firstK n 0) w := by
  refine ⟨by simp [firstK], hC, 0, Nat.zero_le _, fun i p hp => ?_, hA⟩
  have h := hlt p (List.mem_of_getElem? hp)
  exact ⟨h, by rw [firstK_get _ _ _ h]; simp⟩
theorem chain_end {n : Nat} {w : World} (h : Chain n ps C A (firstK n n) w) : C w ∧ A ps.length w := by
  obtain ⟨_, hC, j, hj, hl, hA⟩ := h
  refine ⟨hC, ?_⟩
  rcases Nat.lt_or_ge j ps.length with hlt | hge
  · exfalso
    have h1 := hl j ps[j] (by simp [hlt])
    rw [firstK_get _ _ _ h1.1] at h1
    simp at h1
    omega
  · rwa [show j = ps.length by omega] at hA

theorem chain_set {n : Nat} {l : Array Bool} {k : Nat} {w w' : World} (hk : k ∉ ps) (h : Chain n ps C A l w) (hC : C w') (hA : ∀ j, A j w → A j w') : Chain n ps C A (l.setIfInBounds k true) w' := by
  obtain ⟨hs, _, j, hj, hl, hA0⟩ := h
  refine ⟨by simpa using hs, hC, j, hj, fun i p hp => ?_, hA j hA0⟩
  have hne : k ≠ p := fun e => hk (e ▸ List.mem_of_getElem? hp)
  rw [Array.getD_eq_getD_getElem?, Array.getElem?_setIfInBounds, if_neg hne, ← Array.getD_eq_getD_getElem?]
  exact hl i p hp

theorem wp_chain (ps : List Nat) (C : World → Prop) (A : Nat → World → Prop) {id : Nat} {a : Act} {w : World} (hm : P.follows .mixedOrders = true) (hf : textFits .any ops = true) (hlt : (ps.all fun p => decide (p < ops.size)) = true) (hC : C w.drew) (hA : A 0 w.drew)
    (h : textFits .any ops = true → InText P .any ops Q (Chain ops.size ps C A) 0 ops.toList a) : (Code.region id ops true).wp P Q a w :=
  wp_ord hm hf (chain_start (fun p hp => by simpa using List.all_eq_true.1 hlt p hp) hC hA) h

/-- A value that hangs on C alone. -/
theorem ch_value {k : Nat} {o : Oper} {rest : List Oper} {a : Act} {v : Value} (hf : textFits md ops = true) (hk : k ∉ ps) (hw : Region.wanted o (yielded ops a.tmps) = true) (hv : ∀ w, C w → (execOp a.eval o).run P w = .ok (.value v) w)
    (h : InText P md ops Q (Chain ops.size ps C A) (k + 1) rest (a.put o.dst v)) : InText P md ops Q (Chain ops.size ps C A) k (o :: rest) a :=
  InText.cons hf (Or.inl ⟨hw, fun l w _ hS => by rw [hv w hS.2.1]; exact ⟨rfl, chain_set hk hS hS.2.1 fun _ h => h⟩⟩) h
theorem ch_off {k : Nat} {o : Oper} {rest : List Oper} {a : Act} (hf : textFits md ops = true) (hk : k ∉ ps) (hw : Region.wanted o (yielded ops a.tmps) = false)
    (h : InText P md ops Q (Chain ops.size ps C A) (k + 1) rest (a.put o.dst undef)) : InText P md ops Q (Chain ops.size ps C A) k (o :: rest) a :=
  InText.cons hf (Or.inr ⟨hw, rfl, fun l w _ hS => chain_set hk hS hS.2.1 fun _ h => h⟩) h
/-- A call that leaves all as it is. -/
theorem ch_call {k : Nat} {o : Oper} {rest : List Oper} {a : Act} {v : Value} {f : FuncId} {args : Array Value} (hf : textFits md ops = true) (hk : k ∉ ps) (hw : Region.wanted o (yielded ops a.tmps) = true)
    (hr : ∀ w, C w → (execOp a.eval o).run P w = .ok (.enter f args) w) (hc : ∀ w, C w → Calls P f args w fun e w' => e = .returned v ∧ C w' ∧ ∀ j, A j w → A j w')
    (h : InText P md ops Q (Chain ops.size ps C A) (k + 1) rest (a.put o.dst v)) : InText P md ops Q (Chain ops.size ps C A) k (o :: rest) a :=
  InText.cons hf (Or.inl ⟨hw, fun l w _ hS => by rw [hr w hS.2.1]; exact (hc w hS.2.1).mono fun e w' he => ⟨he.1, chain_set hk hS he.2.1 he.2.2⟩⟩) h
/-- The j-th that turns the world. -/
theorem ch_turn (j : Nat) {k : Nat} {o : Oper} {rest : List Oper} {a : Act} {v : Value} (hf : textFits md ops = true) (hk : ps[j]? = some k) (hnd : ps.Nodup) (hh : j = 0 ∨ ∃ p, ps[j - 1]? = some p ∧ hangs md ops k p = true) (hw : Region.wanted o (yielded ops a.tmps) = true)
    (hv : ∀ w, C w → A j w → LandsIn P (fun w' => C w' ∧ A (j + 1) w') v ((execOp a.eval o).run P w))
    (h : InText P md ops Q (Chain ops.size ps C A) (k + 1) rest (a.put o.dst v)) : InText P md ops Q (Chain ops.size ps C A) k (o :: rest) a :=
  InText.cons hf (Or.inl ⟨hw, fun l w hr hS => by
    obtain ⟨hs, hC, j', hj', hl, hA⟩ := hS
    have hjl : j < ps.length := (List.getElem?_eq_some_iff.1 hk).1
    have h1 := hl j k hk
    have h2 : l.getD k true = false := (mem_ready.1 hr).1
    have e2 : l.getD k false = false := by
      rw [Array.getD_eq_getD_getElem?] at h2 ⊢
      rcases Nat.lt_or_ge k l.size with hh' | hh'
      · simp [hh'] at h2 ⊢; exact h2
      · simp [Array.getElem?_eq_none hh'] at h2
    have h3 : ¬ j < j' := by rw [h1.2] at e2; simpa using e2
    have h4 : j = j' := by
      rcases hh with rfl | ⟨p, hp, hg⟩
      · omega
      · rcases Nat.eq_zero_or_pos j with rfl | hj
        · omega
        · have h5 := hl (j - 1) p hp
          have h6 := hangs_listed hg hr
          rw [h5.2] at h6
          have : j - 1 < j' := by simpa using h6
          omega
    subst h4
    refine (hv w hC hA).mono fun w' hw' => ⟨by simpa using hs, hw'.1, j + 1, by omega, fun i p hp => ?_, hw'.2⟩
    refine ⟨(hl i p hp).1, ?_⟩
    by_cases hik : p = k
    · subst hik
      have : i = j := (List.getElem?_inj (List.getElem?_eq_some_iff.1 hp).1 hnd).1 (hp.trans hk.symm)
      subst this
      have hp' : p < l.size := by rw [hs]; exact h1.1
      rw [Array.getD_eq_getD_getElem?, Array.getElem?_setIfInBounds, if_pos rfl]
      simp [hp']
    · rw [Array.getD_eq_getD_getElem?, Array.getElem?_setIfInBounds, if_neg (fun e => hik e.symm), ← Array.getD_eq_getD_getElem?, (hl i p hp).2]
      have hne : i ≠ j := fun e => hik (by subst e; exact Option.some.inj (hp.symm.trans hk))
      congr 1
      apply propext
      omega⟩) h
end
end Go.Proofs.Ytnopnnjkabkbaaa.Ord

/- What a call may turn among the blocks that were there; things kept apart. -/
namespace Go.Proofs.Ytnopnnjkabkbaaa
open Go.RowKit
set_option maxRecDepth 100000

/-- Of the blocks that were there those of T alone may have turned. -/
structure Turn (T : Nat → Prop) (w w' : World) : Prop where
  os : w'.os = w.os
  tape : w'.tape = w.tape
  output : w'.output = w.output
  size : w.heap.size ≤ w'.heap.size
  block : ∀ k, k < w.heap.size → ¬ T k → w'.heap[k]? = w.heap[k]?

section
variable {T T' : Nat → Prop} {a b c w w' : World}
theorem Turn.refl (T : Nat → Prop) (w : World) : Turn T w w := ⟨rfl, rfl, rfl, Nat.le_refl _, fun _ _ _ => rfl⟩
theorem Turn.then (h : Turn T a b) (k : Turn T' b c) (hT : ∀ k, k < a.heap.size → T' k → T k) : Turn T a c :=
  ⟨k.os.trans h.os, k.tape.trans h.tape, k.output.trans h.output, Nat.le_trans h.size k.size, fun i hi hn => (k.block i (Nat.lt_of_lt_of_le hi h.size) (fun e => hn (hT i hi e))).trans (h.block i hi hn)⟩
theorem Turn.mono (h : Turn T a b) (hT : ∀ k, k < a.heap.size → T k → T' k) : Turn T' a b := ⟨h.os, h.tape, h.output, h.size, fun k hk hn => h.block k hk fun e => hn (hT k hk e)⟩
theorem Turn.of_below (h : Below a.heap.size a b) : Turn T a b := ⟨h.os, h.tape, h.output, h.size, fun k hk _ => h.block k hk⟩
theorem Turn.to_below (h : Turn (fun _ => False) a b) : Below a.heap.size a b := ⟨h.os, h.tape, h.output, h.size, fun k hk => h.block k hk fun e => e⟩
theorem Turn.drew (h : Turn T a b) : Turn T a b.drew := ⟨h.os, h.tape, h.output, h.size, h.block⟩
theorem Turn.alloc (h : Turn T a b) (o : Obj) : Turn T a (b.alloc o) := h.then (T' := fun _ => False) (Turn.of_below ((Below.refl _ b).alloc (Nat.le_refl _) o)) fun _ _ e => e.elim
theorem Turn.setCell (h : Turn T a b) {p : Addr} (hp : p.block < a.heap.size → T p.block) (u : Value) : Turn T a (b.setCell p u) :=
  h.then (T' := fun k => k = p.block) ⟨rfl, rfl, rfl, by simp [World.setCell], fun k _ hn => Below.heap_setCell _ _ _ _ hn⟩ fun k hk e => by subst e; exact hp hk
theorem Turn.grown (h : Turn T a b) {row : Option Nat} (hg : b.grownBy c row) (hr : ∀ k, k < a.heap.size → row = some k → T k) : Turn T a c :=
  h.then (T' := fun k => row = some k) ⟨hg.os, hg.tape, hg.output, hg.size, fun k hk hn => hg.block k hk (fun e => hn e.symm)⟩ hr
theorem Turn.turned (h : Turn T a b) {m : Nat} (hg : b.mapTurned c m) (hm : m < a.heap.size → T m) : Turn T a c := h.grown hg.grown fun k hk e => by cases e; exact hm hk
theorem Turn.below {n : Nat} (h : Below n a b) (k : Turn T b c) (hn : n ≤ b.heap.size) (hT : ∀ k, T k → n ≤ k) : Below n a c :=
  h.trans ⟨k.os, k.tape, k.output, k.size, fun i hi => k.block i (by omega) fun e => by have := hT i e; omega⟩
end

/-- Two things share no block. -/
def Off (F G : Nat → Prop) : Prop := ∀ k, F k → ¬ G k
theorem Off.symm {F G : Nat → Prop} (h : Off F G) : Off G F := fun k hg hf => h k hf hg
/-- A step that turns F alone, behind which F' stands for it: what was F's, or is new. -/
structure Step (F F' : Nat → Prop) (w w' : World) : Prop where
  turn : Turn F w w'
  from' : ∀ k, F' k → F k ∨ w.heap.size ≤ k
theorem Step.off {F F' G : Nat → Prop} {w w' : World} (h : Step F F' w w') (hG : ∀ k, G k → k < w.heap.size) (hd : Off F G) : Off F' G := fun k hf hg => by
  rcases h.from' k hf with h1 | h1
  · exact hd k h1 hg
  · have := hG k hg; omega
theorem Step.refl (F : Nat → Prop) (w : World) : Step F F w w := ⟨Turn.refl _ _, fun _ h => Or.inl h⟩
theorem Step.trans {F F' F'' : Nat → Prop} {a b c : World} (h : Step F F' a b) (k : Step F' F'' b c) : Step F F'' a c :=
  ⟨h.turn.then k.turn fun i hi e => (h.from' i e).resolve_right (by omega), fun i e => by
    rcases k.from' i e with h1 | h1
    · exact h.from' i h1
    · exact Or.inr (Nat.le_trans h.turn.size h1)⟩
theorem Step.base {F F' : Nat → Prop} {w w' : World} {n : Nat} (h : Step F F' w w') (hn : n ≤ w.heap.size) (hF : ∀ k, F k → n ≤ k) : ∀ k, F' k → n ≤ k := fun k hk => by
  rcases h.from' k hk with h1 | h1
  · exact hF k h1
  · omega

theorem Blk.kept {m n : Nat} {vs : List Value} {w w' : World} (h : Blk m w n vs) (hs : w.heap.size ≤ w'.heap.size) (hb : w'.heap[n]? = w.heap[n]?) : Blk m w' n vs :=
  ⟨Nat.lt_of_lt_of_le h.1 hs, fun i => by rw [World.cell?_of_block (w := w) hb]; exact h.2.1 i, fun hm i hi => by rw [World.frozen?_of_block (w := w) hb]; exact h.2.2 hm i hi⟩
theorem Blk.set {m n i : Nat} {vs : List Value} {w : World} (h : Blk m w n vs) (hi : i < vs.length) (u : Value) : Blk m (w.setCell ⟨n, i, none⟩ u) n (vs.set i u) := by
  refine ⟨by simpa [World.setCell] using h.1, fun j => ?_, fun hm j hj => ?_⟩
  · by_cases hij : j = i
    · subst hij
      rw [World.cell?_setCell_same' _ _ _ (by rw [h.2.1]; simp [hi])]
      simp [hi]
    · have e : (⟨n, i, none⟩ : Addr) ≠ ⟨n, j, none⟩ := fun e => hij (by cases e; rfl)
      have e2 : (w.setCell ⟨n, i, none⟩ u).cell? ⟨n, j, none⟩ = w.cell? ⟨n, j, none⟩ := World.cell?_setCell_other w _ _ u e
      rw [e2, h.2.1, List.getElem?_set, if_neg (fun e => hij e.symm)]
  · rw [World.frozen?_setCell]
    exact h.2.2 hm j (by simpa using hj)
theorem Blk.new (m : Nat) (w : World) (vs : List Value) (t : TypeId) : Blk m (w.alloc (.cells vs.toArray t)) w.heap.size vs := ⟨by simp, fun i => by simp, fun _ i _ => by simp⟩
theorem Blk.more {m n : Nat} {vs : List Value} {w : World} (h : Blk m w n vs) (o : Obj) : Blk m (w.alloc o) n vs := h.kept (by simp) (Below.heap_alloc _ _ _ h.1)
theorem Blk.drew {m n : Nat} {vs : List Value} {w : World} (h : Blk m w n vs) : Blk m w.drew n vs := h
theorem Blk.at {m n n' : Nat} {vs : List Value} {w : World} (h : Blk m w n vs) (e : n = n') : Blk m w n' vs := e ▸ h
theorem Blk.rule {m n : Nat} {vs : List Value} {w : World} (h : Blk m w n vs) : ∀ i, w.cell? ⟨n, i, none⟩ = vs[i]? := h.2.1
theorem Blk.thaw {n : Nat} {vs : List Value} {w : World} (h : Blk 0 w n vs) : ∀ i, i < vs.length → w.frozen? ⟨n, i, none⟩ = false := h.2.2 (Nat.zero_le _)

theorem Fr.turn {w0 w w' : World} {bl : List (Nat × List Value)} {T : Nat → Prop} (h : Fr w0 bl w) (ht : Turn T w w') (hT : ∀ k, T k → w0.heap.size ≤ k) (hbl : ∀ x ∈ bl, ¬ T x.1) : Fr w0 bl w' :=
  ⟨Turn.below h.1 ht h.1.size hT, fun x hx => (h.2 x hx).kept ht.size (ht.block _ (h.2 x hx).1 (hbl x hx))⟩
end Go.Proofs.Ytnopnnjkabkbaaa

/- Things that a call has made, kept apart: a list of them, each with its blocks and what it is good for. -/
namespace Go.Proofs.Ytnopnnjkabkbaaa
open Go.RowKit
set_option maxRecDepth 100000

/-- A thing: its blocks, and what is said of it, which hangs on them alone. -/
structure Item where
  F : Nat → Prop
  says : World → Prop
  loc : ∀ w1 w2, says w1 → (∀ k, F k → w2.heap[k]? = w1.heap[k]?) → w1.heap.size ≤ w2.heap.size → says w2
/-- Since w0 nothing that was there has turned; each thing of the list is what it is; no two share a block. -/
def Env (w0 : World) (L : List Item) (w : World) : Prop :=
  Below w0.heap.size w0 w ∧ L.Pairwise (fun a b => Off a.F b.F) ∧ ∀ a ∈ L, a.says w ∧ ∀ k, a.F k → w0.heap.size ≤ k ∧ k < w.heap.size

section
variable {w0 w w' : World} {L : List Item}
theorem Env.start (w : World) : Env w [] w := ⟨Below.refl _ _, List.Pairwise.nil, by simp⟩
theorem Env.below (h : Env w0 L w) : Below w0.heap.size w0 w := h.1
theorem Env.over (h : Env w0 L w) (hb : Below w.heap.size w w') : Env w0 L w' := by
  refine ⟨h.1.trans (hb.mono h.1.size), h.2.1, fun a ha => ?_⟩
  obtain ⟨h1, h2⟩ := h.2.2 a ha
  exact ⟨a.loc w w' h1 (fun k hk => hb.block k (h2 k hk).2) hb.size, fun k hk => ⟨(h2 k hk).1, Nat.lt_of_lt_of_le (h2 k hk).2 hb.size⟩⟩
theorem Env.more (h : Env w0 L w) (o : Obj) : Env w0 L (w.alloc o) := h.over ((Below.refl _ _).alloc (Nat.le_refl _) o)
theorem Env.drew (h : Env w0 L w) : Env w0 L w.drew := h.over (Below.refl _ w).drew
theorem Env.add (h : Env w0 L w) (a : Item) (hb : Below w.heap.size w w') (ha : a.says w') (hF : ∀ k, a.F k → w.heap.size ≤ k ∧ k < w'.heap.size) : Env w0 (a :: L) w' := by
  have h' := h.over hb
  refine ⟨h'.1, List.pairwise_cons.2 ⟨fun b hb' k hk hk' => ?_, h'.2.1⟩, fun b hb' => ?_⟩
  · have := ((h.2.2 b hb').2 k hk').2
    have := (hF k hk).1
    omega
  · rcases List.mem_cons.1 hb' with rfl | hb'
    · exact ⟨ha, fun k hk => ⟨Nat.le_trans h.1.size (hF k hk).1, (hF k hk).2⟩⟩
    · exact h'.2.2 b hb'
theorem Env.get (h : Env w0 L w) (i : Nat) {a : Item} (hi : L[i]? = some a) : a.says w := (h.2.2 a (List.mem_of_getElem? hi)).1
theorem Env.lt (h : Env w0 L w) (i : Nat) {a : Item} (hi : L[i]? = some a) : ∀ k, a.F k → k < w.heap.size := fun k hk => ((h.2.2 a (List.mem_of_getElem? hi)).2 k hk).2
theorem Env.off (h : Env w0 L w) {i j : Nat} {a b : Item} (hi : L[i]? = some a) (hj : L[j]? = some b) (hij : i ≠ j) : Off a.F b.F := by
  obtain ⟨hi1, hi2⟩ := List.getElem?_eq_some_iff.1 hi
  obtain ⟨hj1, hj2⟩ := List.getElem?_eq_some_iff.1 hj
  have hp := List.pairwise_iff_getElem.1 h.2.1
  rcases Nat.lt_or_gt_of_ne hij with hlt | hlt
  · have := hp i j hi1 hj1 hlt; rw [hi2, hj2] at this; exact this
  · have := hp j i hj1 hi1 hlt; rw [hi2, hj2] at this; exact this.symm
/-- One of them turns. -/
theorem Env.step (h : Env w0 L w) (i : Nat) {a : Item} (b : Item) (hi : L[i]? = some a) (hs : Step a.F b.F w w') (hb : b.says w') (hlt : ∀ k, b.F k → k < w'.heap.size) : Env w0 (L.set i b) w' := by
  have hil : i < L.length := (List.getElem?_eq_some_iff.1 hi).1
  have hai : L[i] = a := (List.getElem?_eq_some_iff.1 hi).2
  have ha := h.2.2 a (List.mem_of_getElem? hi)
  have hB : Below w0.heap.size w0 w' := Turn.below h.1 hs.turn h.1.size fun k hk => (ha.2 k hk).1
  refine ⟨hB, List.pairwise_iff_getElem.2 fun m n hm hn hmn => ?_, fun x hx => ?_⟩
  · rw [List.length_set] at hm hn
    rw [List.getElem_set, List.getElem_set]
    have hof : ∀ j (hj : j < L.length), j ≠ i → Off b.F L[j].F := fun j hj hne => hs.off (h.lt j (by simp)) (h.off hi (j := j) (b := L[j]) (by simp) (fun e => hne e.symm))
    split
    · rename_i e
      split
      · omega
      · rename_i e'; exact hof n hn (fun e2 => e' e2.symm)
    · split
      · rename_i e e'; exact (hof m hm (fun e2 => e e2.symm)).symm
      · exact List.pairwise_iff_getElem.1 h.2.1 m n hm hn hmn
  · obtain ⟨j, hj, rfl⟩ := List.getElem_of_mem hx
    rw [List.length_set] at hj
    rw [List.getElem_set]
    split
    · refine ⟨hb, fun k hk => ⟨?_, hlt k hk⟩⟩
      exact hs.base h.1.size (fun k hk => (ha.2 k hk).1) k hk
    · rename_i e
      obtain ⟨h1, h2⟩ := h.2.2 L[j] (List.getElem_mem hj)
      refine ⟨(L[j]).loc w w' h1 (fun k hk => hs.turn.block k (h2 k hk).2 fun hk' => ?_) hs.turn.size, fun k hk => ⟨(h2 k hk).1, Nat.lt_of_lt_of_le (h2 k hk).2 hs.turn.size⟩⟩
      exact h.off hi (j := j) (b := L[j]) (by simp [hj]) e k hk' hk
theorem Env.sub {L' : List Item} (h : Env w0 L w) (hs : L'.Sublist L) : Env w0 L' w := ⟨h.1, h.2.1.sublist hs, fun a ha => h.2.2 a (hs.subset ha)⟩

theorem Env.perm {L' : List Item} (h : Env w0 L w) (hp : L.Perm L') : Env w0 L' w := ⟨h.1, (hp.pairwise_iff (fun h => Off.symm h)).1 h.2.1, fun a ha => h.2.2 a (hp.mem_iff.2 ha)⟩

/-- A block of cells. -/
def boxI (B : Nat) (vs : List Value) : Item where
  F := fun k => k = B
  says := fun w => Blk 0 w B vs
  loc := fun w1 w2 h hk hs => h.kept hs (hk B rfl)
theorem Env.box (h : Env w0 L w) (n : Nat) (hn : w.heap.size = n) (vs : List Value) (t : TypeId) : Env w0 (boxI n vs :: L) (w.alloc (.cells vs.toArray t)) := by
  subst hn
  exact h.add (boxI w.heap.size vs) ((Below.refl _ _).alloc (Nat.le_refl _) _) (Blk.new 0 w vs t) fun k hk => by subst hk; simp
theorem Env.rule (h : Env w0 L w) (i : Nat) {B : Nat} {vs : List Value} (hi : L[i]? = some (boxI B vs)) : ∀ j, w.cell? ⟨B, j, none⟩ = vs[j]? := Blk.rule (h.get i hi)
theorem Env.thaw (h : Env w0 L w) (i : Nat) {B : Nat} {vs : List Value} (hi : L[i]? = some (boxI B vs)) : ∀ j, j < vs.length → w.frozen? ⟨B, j, none⟩ = false := Blk.thaw (h.get i hi)
theorem Env.boxLt (h : Env w0 L w) (i : Nat) {B : Nat} {vs : List Value} (hi : L[i]? = some (boxI B vs)) : B < w.heap.size := h.lt i hi B rfl
theorem Env.put (h : Env w0 L w) (i : Nat) {B : Nat} {vs : List Value} (hi : L[i]? = some (boxI B vs)) {j : Nat} (hj : j < vs.length) (v : Value) : Env w0 (L.set i (boxI B (vs.set j v))) (w.setCell ⟨B, j, none⟩ v) :=
  h.step i (boxI B (vs.set j v)) hi ⟨(Turn.refl (fun k => k = B) w).setCell (p := ⟨B, j, none⟩) (fun _ => rfl) v, fun k hk => .inl hk⟩ ((show Blk 0 w B vs from h.get i hi).set hj v) fun k hk => by
    have := h.lt i hi k hk
    simpa using this
end
/-- How far it is: of the row the j-th holds. -/
def Stage (Ps : List (World → Prop)) (j : Nat) (w : World) : Prop := ∃ P, Ps[j]? = some P ∧ P w
end Go.Proofs.Ytnopnnjkabkbaaa

/- Rows of the call's own, of whatever: kept while others turn; appended to; as things among others. General. -/
namespace Go.Proofs.Ytnopnnjkabkbaaa
open Go.RowKit
set_option maxRecDepth 100000

theorem ownsRow_lt {w : World} {b : Nat} {v : Value} {e : TypeId} {n s : Nat} {xs : List Value} (h : w.ownsRow b e s v n xs) : ∀ k, v.ownBlock = some k → k < w.heap.size := fun k hk => (h.lt k hk).2
theorem ownsRow_kept {w w' : World} {b : Nat} {v : Value} {e : TypeId} {n s : Nat} {xs : List Value} (h : w.ownsRow b e s v n xs) (hk : ∀ k, v.ownBlock = some k → w'.heap[k]? = w.heap[k]?) : w'.ownsRow b e s v n xs := by
  refine ⟨h.1, ?_⟩
  rcases h.2 with hn | ⟨g, cap, cur, rfl, hb, hg, rest⟩
  · exact .inl hn
  · exact .inr ⟨g, cap, cur, rfl, hb, (hk g rfl).trans hg, rest⟩
theorem run_call_append {P : Program} {o : Oper} {f : Operand → Value} (s x : Operand) (t : TypeId) (ho : o.op = .call { callee := .builtin .append, args := #[s, x], argTypes := #[t, t] }) {vs vx r : Value} {w w' : World} (hs : f s = vs) (hx : f x = vx)
    (hr : (Builtin.append_ #[t, t] o.type #[vs, vx]).run P w = .ok r w') : (execOp f o).run P w = .ok (.value r) w' := by
  unfold execOp
  simp only [ho, resolve, invoke, builtin, Sem.run_bind, Sem.run_pure, Result.andThen_ok, List.map_toArray, List.map_cons, List.map_nil, hs, hx, hr]
theorem append_lands {P : Program} {o : Oper} {f : Operand → Value} {T : World → Prop} {s x : Operand} {t : TypeId} {vs vx r : Value} {w w' : World} (ho : o.op = .call { callee := .builtin .append, args := #[s, x], argTypes := #[t, t] }) (hr : (Builtin.append_ #[t, t] o.type #[vs, vx]).run P w = .ok r w') (hs : f s = vs) (hx : f x = vx) (hT : T w') : Ord.LandsIn P T r ((execOp f o).run P w) := by
  rw [run_call_append s x t ho hs hx hr]
  exact ⟨rfl, hT⟩
theorem Step.of_below {w w' : World} (F : Nat → Prop) (hb : Below w.heap.size w w') : Step F F w w' := ⟨Turn.of_below hb, fun _ h => .inl h⟩
/-- A row appended to a row of ours: what is appended is nothing, or cells behind an address. -/
theorem run_append_rows {P : Program} (t ty : TypeId) (base : Nat) (e : TypeId) (i : TypeInfo) (z : Value) (size bytes : Nat) (ht : P.underlying t = some (.slice e)) (hi : P.info? e = some i) (hz : i.zero = some z)
    (hsize : i.size = size) (hby : i.bytes = bytes) (hzs : z.cells.size = size) (hsz : 0 < size) (w : World)
    (v : Value) (n : Nat) (xs : List Value) (hown : w.ownsRow base e size v n xs) (A : Option Addr) (m c : Nat) (news : List Value) (hl : news.length = m * size)
    (hnews : (A = none ∧ m = 0) ∨ ∃ ad, A = some ad ∧ ∀ j u, news[j]? = some u → w.cell? (ad.add j) = some u) (h1 : ∀ u ∈ news, u.oneCell' = true)
    (h63 : n + m ≤ maxLen) (hbytes : (n + m) * bytes ≤ 140737488355328) (hbase : base ≤ w.heap.size) :
    ∃ v' w', (Builtin.append_ #[t, t] ty #[v, .slice A m c]).run P w = .ok v' w' ∧ w'.ownsRow base e size v' (n + m) (xs ++ news) ∧ w.grownBy w' v.ownBlock ∧ (v'.ownBlock = v.ownBlock ∨ v'.ownBlock = some w.heap.size) := by
  rcases hnews with ⟨rfl, rfl⟩ | ⟨ad, rfl, hn⟩
  · have h0 : news = [] := List.eq_nil_of_length_eq_zero (by simpa using hl)
    subst h0
    refine ⟨v, w, ?_, by simpa using hown, ⟨rfl, rfl, rfl, Nat.le_refl _, fun _ _ _ => rfl⟩, .inl rfl⟩
    rcases hown.2 with ⟨rfl, rfl⟩ | ⟨g, cap, cur, rfl, hb, hg, hnc, hcm, hcs, htk⟩
    · simp [Builtin.append_, run_underlying ht, sizeOf, typeInfo, hi, Builtin.lenOf, Builtin.firstCells]
    · simp [Builtin.append_, run_underlying ht, sizeOf, typeInfo, hi, Builtin.lenOf, Builtin.firstCells, hnc, storeCells]
  · obtain ⟨v', w', hr, h2, h3, _, h5⟩ := run_append_own_at (P := P) w base t ty e i z size bytes ht hi hz hsize hby hzs hsz v n xs hown ad m c news hl hn h1 h63 hbytes hbase
    exact ⟨v', w', hr, h2, h3, h5⟩
theorem wpList_append_run {P : Program} {ops : Array Oper} {rest : List Oper} {o : Oper} {a : Act} {w : World} {Q : Exit → Act → World → Prop} (hgd : o.guard = none) (s x : Operand) (t : TypeId) (ho : o.op = .call { callee := .builtin .append, args := #[s, x], argTypes := #[t, t] })
    {vs vx r : Value} {w' : World} (hr : (Builtin.append_ #[t, t] o.type #[vs, vx]).run P w = .ok r w') (hs : a.eval s = vs) (hx : a.eval x = vx) (h : wpList P ops Q rest (a.put o.dst r) w') : wpList P ops Q (o :: rest) a w :=
  wpList_plain hgd fun K hK => by
    unfold Oper.wp
    rw [run_call_append s x t ho hs hx hr]
    exact hK _ _ h
theorem ownsRow_base {w : World} {b b' : Nat} {e : TypeId} {s n : Nat} {v : Value} {xs : List Value} (h : w.ownsRow b e s v n xs) (hb : b' ≤ b) : w.ownsRow b' e s v n xs :=
  ⟨h.1, h.2.imp id fun ⟨g, cap, cur, h1, h2, h3⟩ => ⟨g, cap, cur, h1, Nat.le_trans hb h2, h3⟩⟩
theorem ownsRow_slice {w : World} {b : Nat} {e : TypeId} {s n : Nat} {v : Value} {xs : List Value} (h : w.ownsRow b e s v n xs) : ∃ A c, v = .slice A n c := by
  rcases h.2 with ⟨rfl, rfl⟩ | ⟨g, cap, cur, rfl, _⟩
  · exact ⟨_, _, rfl⟩
  · exact ⟨_, _, rfl⟩
theorem cells_new (w : World) (vs : List Value) (t : TypeId) : ∀ j u, vs[j]? = some u → (w.alloc (.cells vs.toArray t)).cell? ((⟨w.heap.size, 0, none⟩ : Addr).add j) = some u := fun j u h => by
  have e : (⟨w.heap.size, 0, none⟩ : Addr).add j = ⟨w.heap.size, j, none⟩ := by unfold Addr.add; split <;> simp_all
  rw [e, (Blk.new 0 w vs t).rule j]
  exact h

/-! ### as things -/
/-- A row: the slice v owns the cells xs. -/
def rowI (v : Value) (e : TypeId) (s n : Nat) (xs : List Value) : Item where
  F := fun k => v.ownBlock = some k
  says := fun w => w.ownsRow 0 e s v n xs
  loc := fun w1 w2 h hk _ => ownsRow_kept h hk
end Go.Proofs.Ytnopnnjkabkbaaa

/- A struct by value whose fields are numbers and bools, of however many fields: opened. -/
namespace Go.Proofs.Ytnopnnjkabkbaaa
open Go.RowKit Go.WideShapes Go.ChangeShapes Go.ChangeAt Go.Deep
set_option maxRecDepth 100000

inductive Sca | num (k : IntKind) | boo
/-- A field's type is of that form; a value is. -/
def Sca.fits (P : Program) (t : TypeId) : Sca → Prop
  | .num k => P.underlying t = some (.int k)
  | .boo => P.underlying t = some .bool
def Sca.ok (v : Value) : Sca → Prop
  | .num k => ∃ n, v = .int k n ∧ (Lit.int k n).wf = true
  | .boo => ∃ b, v = .bool b
def FitAll (P : Program) : List Field → List Sca → Prop
  | [], [] => True
  | f :: fs, s :: ss => s.fits P f.type ∧ FitAll P fs ss
  | _, _ => False
theorem FitAll.length {P : Program} : ∀ {fs : List Field} {ss : List Sca}, FitAll P fs ss → fs.length = ss.length
  | [], [], _ => rfl
  | _ :: _, _ :: _, h => by simp [FitAll.length h.2]
theorem FitAll.get {P : Program} : ∀ {fs : List Field} {ss : List Sca}, FitAll P fs ss → ∀ {i : Nat} {s : Sca}, ss[i]? = some s → ∃ f, fs[i]? = some f ∧ s.fits P f.type := by
  intro fs
  induction fs with
  | nil =>
    intro ss h i s e
    cases ss with
    | nil => simp at e
    | cons x ss => exact absurd h (by simp [FitAll])
  | cons f fs ih =>
    intro ss h i s e
    cases ss with
    | nil => exact absurd h (by simp [FitAll])
    | cons x ss =>
      cases i with
      | zero =>
        simp at e
        subst e
        exact ⟨f, rfl, h.1⟩
      | succ i =>
        obtain ⟨f', hf, hs⟩ := ih h.2 (i := i) (by simpa using e)
        exact ⟨f', by simpa using hf, hs⟩

section
variable {H : Type} {enc : TypeId × Value → H} {P : Program} {w : World} {base : Nat} {spare : Nat → Bool} {held : Bool}
theorem open_flat {r : Reach} {b0 : Nat} {t : TypeId} {fs : Array Field} {ss : List Sca} {v : Value} {d : DataW H} {p : List MemPlace} (hs : P.underlying t = some (.struct fs)) (hone : oneCellFields P fs = true) (hC : P.cellsOf t = ss.length) (hfit : FitAll P fs.toList ss)
    (hv : Value.okWide P w r b0 t v) (h : DataW.Trod enc P w base spare held t v d p) :
    ∃ cs : Array Value, v = .agg cs ∧ cs.size = ss.length ∧ ∀ (i : Nat) (s : Sca), ss[i]? = some s → ∃ x, cs[i]? = some x ∧ s.ok x := by
  obtain ⟨cs, rfl, hsz⟩ := okWide_struct hs hv
  obtain ⟨fuel, hf⟩ := h
  obtain ⟨xs, n, -, -, hl, hlen, hall⟩ := DataW.trod_struct hs hf
  refine ⟨cs, rfl, hsz.trans hC, fun i s e => ?_⟩
  obtain ⟨f, hfi, hfs⟩ := hfit.get e
  have hfi' : fs[i]? = some f := by simpa using hfi
  obtain ⟨o, k⟩ := hone_of hone i f hfi'
  have hi : i < cs.size := by
    have : i < ss.length := by
      rcases Nat.lt_or_ge i ss.length with hh | hh
      · exact hh
      · rw [List.getElem?_eq_none hh] at e; cases e
    omega
  have hx : xs[i]? ≠ none := by
    have := (Array.getElem?_eq_some_iff.1 hfi').1
    rw [List.getElem?_eq_getElem (by omega)]
    simp
  have ht := hall i f hfi'
  have hcell : ((Value.agg cs).cells.toList.drop f.offset).take (P.cellsOf f.type) = [cs[i]] := by
    rw [o, k]
    show (cs.toList.drop i).take 1 = _
    have hi' : i < cs.toList.length := by simpa using hi
    rw [List.drop_eq_getElem_cons hi']
    simp
  rw [hcell] at ht
  obtain ⟨y, hy⟩ := Option.ne_none_iff_exists'.1 hx
  rw [hy] at ht
  refine ⟨cs[i], by simp [hi], ?_⟩
  cases s with
  | num k =>
    obtain ⟨n, e1, -, wf⟩ := DataW.trod_int hfs ht
    exact ⟨n, by simpa using e1, wf⟩
  | boo =>
    obtain ⟨b, e1, -⟩ := DataW.trod_bool hfs ht
    exact ⟨b, by simpa using e1⟩
end
theorem list_of {α : Type} {cs : Array α} {n : Nat} (h : cs.size = n) : ∃ l : List α, cs = l.toArray ∧ l.length = n := ⟨cs.toList, rfl, by simpa using h⟩
theorem list2 {α : Type} {l : List α} (h : l.length = 2) : ∃ a b, l = [a, b] := by
  match l, h with
  | [a, b], _ => exact ⟨a, b, rfl⟩
theorem list3 {α : Type} {l : List α} (h : l.length = 3) : ∃ a b c, l = [a, b, c] := by
  match l, h with
  | [a, b, c], _ => exact ⟨a, b, c, rfl⟩
theorem list4 {α : Type} {l : List α} (h : l.length = 4) : ∃ a b c d, l = [a, b, c, d] := by
  match l, h with
  | [a, b, c, d], _ => exact ⟨a, b, c, d, rfl⟩
theorem list5 {α : Type} {l : List α} (h : l.length = 5) : ∃ a b c d e, l = [a, b, c, d, e] := by
  match l, h with
  | [a, b, c, d, e], _ => exact ⟨a, b, c, d, e, rfl⟩
theorem list6 {α : Type} {l : List α} (h : l.length = 6) : ∃ a b c d e f, l = [a, b, c, d, e, f] := by
  match l, h with
  | [a, b, c, d, e, f], _ => exact ⟨a, b, c, d, e, f, rfl⟩
end Go.Proofs.Ytnopnnjkabkbaaa

/- Whatever comes to numbers and bools, structs in structs too: what its cells hold; a slice of such that came in. -/
namespace Go.Proofs.Ytnopnnjkabkbaaa
open Go.RowKit Go.WideShapes Go.ChangeShapes Go.ChangeAt Go.Deep
set_option maxRecDepth 100000

/-- The cells of the fields from offset o on. -/
def flatF (P : Program) (g : TypeId → Option (List Sca)) : List Field → Nat → Option (List Sca)
  | [], _ => some []
  | f :: fs, o => if f.offset = o then (g f.type).bind fun ss => if P.cellsOf f.type = ss.length then (flatF P g fs (o + ss.length)).map fun r => ss ++ r else none else none
/-- The cells of a type, if all are numbers and bools. -/
def flatT (P : Program) : Nat → TypeId → Option (List Sca)
  | 0, _ => none
  | d + 1, t =>
    match P.underlying t with
    | some .bool => some [.boo]
    | some (.int k) => some [.num k]
    | some (.struct fs) => (flatF P (flatT P d) fs.toList 0).bind fun ss => if P.cellsOf t = ss.length then some ss else none
    | _ => none

/-- Each cell is of its kind. -/
def CellsOk (cs : List Value) (ss : List Sca) : Prop := ∀ (i : Nat) (s : Sca), ss[i]? = some s → ∃ v, cs[i]? = some v ∧ s.ok v

section
variable {H : Type} {enc : TypeId × Value → H} {P : Program} {w : World} {base : Nat} {spare : Nat → Bool} {held : Bool}

theorem open_fields {g : TypeId → Option (List Sca)} {n : Nat} (hg : ∀ {t ss} {cs : List Value} {x : DataW H × List MemPlace}, g t = some ss → DataW.trod enc P w base spare held n t cs = some x → CellsOk cs ss) (cs : List Value) :
    ∀ (fs : List Field) (o : Nat) (ss : List Sca), flatF P g fs o = some ss → (∀ f ∈ fs, ∃ y, DataW.trod enc P w base spare held n f.type ((cs.drop f.offset).take (P.cellsOf f.type)) = some y) → CellsOk (cs.drop o) ss
  | [], o, ss, h, _ => by
    simp [flatF] at h
    subst h
    intro i s e
    simp at e
  | f :: fs, o, ss, h, hf => by
    unfold flatF at h
    split at h
    · rename_i ho
      cases h1 : g f.type with
      | none => rw [h1] at h; cases h
      | some s1 =>
        rw [h1] at h
        simp only [Option.bind_some] at h
        split at h
        · rename_i hc
          cases h2 : flatF P g fs (o + s1.length) with
          | none => rw [h2] at h; cases h
          | some s2 =>
            rw [h2] at h
            obtain rfl : s1 ++ s2 = ss := by simpa using h
            obtain ⟨y, hy⟩ := hf f (by simp)
            rw [ho, hc] at hy
            have hk := hg h1 hy
            have hr := open_fields hg cs fs (o + s1.length) s2 h2 fun f' hf' => hf f' (by simp [hf'])
            intro i s e
            by_cases hi : i < s1.length
            · rw [List.getElem?_append_left hi] at e
              obtain ⟨v, hv, hs⟩ := hk i s e
              rw [List.getElem?_take_of_lt hi] at hv
              exact ⟨v, hv, hs⟩
            · rw [List.getElem?_append_right (by omega)] at e
              obtain ⟨v, hv, hs⟩ := hr _ s e
              refine ⟨v, ?_, hs⟩
              rw [List.getElem?_drop] at hv ⊢
              rw [← hv]
              congr 1
              omega
        · cases h
    · cases h

theorem open_cells : ∀ (d : Nat) {t : TypeId} {ss : List Sca} {fuel : Nat} {cs : List Value} {x : DataW H × List MemPlace}, flatT P d t = some ss → DataW.trod enc P w base spare held fuel t cs = some x → CellsOk cs ss
  | 0, _, _, _, _, _, h, _ => by simp [flatT] at h
  | d + 1, t, ss, fuel, cs, x, h, hx => by
    unfold flatT at h
    split at h
    · rename_i hu
      obtain ⟨b, rfl, _⟩ := DataW.trod_bool hu hx
      obtain rfl : [Sca.boo] = ss := by simpa using h
      intro i s e
      cases i with
      | zero => simp at e; subst e; exact ⟨_, rfl, b, rfl⟩
      | succ i => simp at e
    · rename_i k hu
      obtain ⟨n, rfl, _, hw⟩ := DataW.trod_int hu hx
      obtain rfl : [Sca.num k] = ss := by simpa using h
      intro i s e
      cases i with
      | zero => simp at e; subst e; exact ⟨_, rfl, n, rfl, hw⟩
      | succ i => simp at e
    · rename_i fs hu
      cases h1 : flatF P (flatT P d) fs.toList 0 with
      | none => rw [h1] at h; cases h
      | some s1 =>
        rw [h1] at h
        simp only [Option.bind_some] at h
        split at h
        · obtain rfl : s1 = ss := by simpa using h
          obtain ⟨xs, n, _, _, _, hl, hall⟩ := DataW.trod_struct hu hx
          have := open_fields (n := n) (fun {t ss cs x} h1 h2 => open_cells d h1 h2) cs fs.toList 0 s1 h1 fun f hf => by
            obtain ⟨i, hi, he⟩ := List.getElem_of_mem hf
            have hi' : i < fs.size := by simpa using hi
            have := hall i f (by simp [hi']; simpa using he)
            rw [this]
            exact ⟨xs[i]'(by omega), by simp [hl, hi']⟩
          simpa using this
        · cases h
    · cases h

/-- A slice that came in: each cell of each element. -/
theorem open_deep_row {t e : TypeId} {ss : List Sca} {d : Nat} {A : Option Addr} {len cap : Nat} {dt : DataW H} {p : List MemPlace} (ht : P.underlying t = some (.slice e)) (hss : flatT P d e = some ss) (ce : P.cellsOf e = ss.length) (h0 : 0 < ss.length)
    (h : DataW.Trod enc P w 0 (fun _ => true) true t (.slice A len cap) dt p) (hlt : ∀ x ∈ p, x.block < w.heap.size) :
    len ≤ maxLen ∧ (len = 0 ∨ ∃ b off, A = some ⟨b, off, none⟩ ∧ b < w.heap.size ∧ ∀ i, i < len → ∀ (j : Nat) (s : Sca), ss[j]? = some s → ∃ v, w.cell? ⟨b, off + i * ss.length + j, none⟩ = some v ∧ s.ok v) := by
  obtain ⟨fuel, hf⟩ := h
  rcases open_slice ht hf with ⟨hcs, hx⟩ | ⟨a, len', cap', m, n, D, Pl, hcs, _, hl, hm, hmm, hx, hall⟩
  · simp [Value.cells] at hcs
    obtain ⟨rfl, rfl, rfl⟩ := hcs
    exact ⟨Nat.zero_le _, .inl rfl⟩
  · simp [Value.cells] at hcs
    obtain ⟨rfl, rfl, rfl⟩ := hcs
    simp only [Prod.mk.injEq] at hx
    obtain ⟨rfl, rfl⟩ := hx
    simp only [if_true] at hmm
    subst hmm
    refine ⟨by omega, ?_⟩
    by_cases hz : len = 0
    · exact .inl hz
    · right
      have each : ∀ i, i < m → ∀ (j : Nat) (s : Sca), ss[j]? = some s → ∃ v, w.cell? (a.add (i * ss.length + j)) = some v ∧ s.ok v := fun i hi j s hs => by
        obtain ⟨cs', h1, h2⟩ := hall i hi
        obtain ⟨_, hlen, hcell⟩ := World.cells?_some h1
        obtain ⟨v, hv, hok⟩ := open_cells d hss h2 j s hs
        have hj : j < ss.length := (List.getElem?_eq_some_iff.1 hs).1
        have := hcell j (by omega)
        rw [add_add, ce, hv] at this
        exact ⟨v, this, hok⟩
      obtain ⟨b, off, spot⟩ := a
      have hspot : spot = none := by
        obtain ⟨v, hv, _⟩ := each 0 (by omega) 0 (ss[0]) (by simp [h0])
        simpa [Addr.add] using World.cell?_spot hv
      subst hspot
      refine ⟨b, off, rfl, hlt (.cell b off) (List.mem_append_left _ (MemPlace.mem_row.2 ⟨0, by rw [ce]; exact Nat.mul_pos (by omega) h0, by simp⟩)), fun i hi j s hs => ?_⟩
      obtain ⟨v, hv, hok⟩ := each i (by omega) j s hs
      rw [add_plain] at hv
      exact ⟨v, by rw [Nat.add_assoc]; exact hv, hok⟩
/-- A struct by value, structs in it too. -/
theorem open_deep {r : Reach} {b0 : Nat} {t : TypeId} {fs : Array Field} {ss : List Sca} {d : Nat} {v : Value} {dt : DataW H} {p : List MemPlace} (hs : P.underlying t = some (.struct fs)) (hss : flatT P d t = some ss) (hC : P.cellsOf t = ss.length)
    (hv : Value.okWide P w r b0 t v) (h : DataW.Trod enc P w base spare held t v dt p) :
    ∃ cs : Array Value, v = .agg cs ∧ cs.size = ss.length ∧ ∀ (i : Nat) (s : Sca), ss[i]? = some s → ∃ x, cs[i]? = some x ∧ s.ok x := by
  obtain ⟨cs, rfl, hsz⟩ := okWide_struct hs hv
  obtain ⟨fuel, hf⟩ := h
  refine ⟨cs, rfl, hsz.trans hC, fun i s e => ?_⟩
  obtain ⟨x, hx, hk⟩ := open_cells d hss hf i s e
  exact ⟨x, by simpa [Value.cells] using hx, hk⟩
end
end Go.Proofs.Ytnopnnjkabkbaaa

/- Rows that came in: of whatever structs of numbers and bools; each element's cells. General. -/
namespace Go.Proofs.Ytnopnnjkabkbaaa
open Go.RowKit Go.Maps Go.Deep
set_option maxRecDepth 100000

/-- From o on the block b holds vs. -/
def CellsAt (w : World) (b o : Nat) (vs : List Value) : Prop := ∀ (j : Nat) (v : Value), vs[j]? = some v → w.cell? ⟨b, o + j, none⟩ = some v
theorem CellsAt.below {w w' : World} {b o : Nat} {vs : List Value} (h : CellsAt w b o vs) (hb : Below w.heap.size w w') (hl : b < w.heap.size) : CellsAt w' b o vs := fun j v e => by
  rw [hb.cell (p := ⟨b, o + j, none⟩) hl]; exact h j v e
/-- A row of things of m cells. -/
def RowX {α : Type} [Inhabited α] (enc : α → List Value) (m : Nat) (w : World) (A : Option Addr) (xs : List α) : Prop :=
  xs = [] ∨ ∃ b off, A = some ⟨b, off, none⟩ ∧ b < w.heap.size ∧ ∀ i, i < xs.length → CellsAt w b (off + i * m) (enc (xs.getD i default))
theorem RowX.below {α : Type} [Inhabited α] {enc : α → List Value} {m : Nat} {w w' : World} {A : Option Addr} {xs : List α} (h : RowX enc m w A xs) (hb : Below w.heap.size w w') : RowX enc m w' A xs := by
  rcases h with h | ⟨b, off, rfl, hl, hc⟩
  · exact .inl h
  · exact .inr ⟨b, off, rfl, Nat.lt_of_lt_of_le hl hb.size, fun i hi => (hc i hi).below hb hl⟩
theorem open_rowX {α : Type} [Inhabited α] {enc : α → List Value} {Ok : α → Prop} {P : Program} {H : Type} {en : TypeId × Value → H} {W : World} {t e : TypeId} {ss : List Sca} {dd : Nat} {A : Option Addr} {len cap : Nat} {d : DataW H} {p : List MemPlace}
    (ht : P.underlying t = some (.slice e)) (hss : flatT P dd e = some ss) (ce : P.cellsOf e = ss.length) (h0 : 0 < ss.length)
    (hdec : ∀ (w : World) (b o : Nat), (∀ (j : Nat) (s : Sca), ss[j]? = some s → ∃ v, w.cell? ⟨b, o + j, none⟩ = some v ∧ s.ok v) → ∃ r : α, CellsAt w b o (enc r) ∧ Ok r)
    (h : DataW.Trod en P W 0 (fun _ => true) true t (.slice A len cap) d p) (hlt : ∀ x ∈ p, x.block < W.heap.size) :
    ∃ xs : List α, xs.length = len ∧ len ≤ maxLen ∧ (∀ r ∈ xs, Ok r) ∧ RowX enc ss.length W A xs := by
  obtain ⟨hm, hz | ⟨b, off, rfl, hb, hall⟩⟩ := open_deep_row ht hss ce h0 h hlt
  · exact ⟨[], hz.symm, hm, by simp, .inl rfl⟩
  · have each : ∀ i, i < len → ∃ r : α, CellsAt W b (off + i * ss.length) (enc r) ∧ Ok r := fun i hi => hdec W b _ (hall i hi)
    obtain ⟨f, hf⟩ := choose_lt each
    refine ⟨(List.range len).map f, by simp, hm, fun r hr => ?_, ?_⟩
    · obtain ⟨i, hi, rfl⟩ := List.mem_map.1 hr
      exact (hf i (by simpa using hi)).2
    · refine .inr ⟨b, off, rfl, hb, fun i hi => ?_⟩
      have hi' : i < len := by simpa using hi
      have e : ((List.range len).map f).getD i default = f i := by simp [hi']
      rw [e]
      exact (hf i hi').1
end Go.Proofs.Ytnopnnjkabkbaaa
