/- What is proved on the way to the statement, part 4 of 6: contracts of the functions, among other things in memory. -/
import Derived.Test.YtlhhnaccigamjaaDoorE3
import Derived.WalkKit
import Derived.Test.YtlhhnaccigamjaaDoorRows
import Derived.WalkSpells
import Derived.Lib.Hide
import Derived.Deep.RegionHeld3
import Derived.Orders

/- Layer 1: the plain mathematics of fields of a word: numbers and bits. -/
namespace Go.Proofs.YtlhhnaccigamjaaDoor
open Go.RowKit
set_option maxRecDepth 100000

/-- A field can be. -/
def isB (a b : Int) : Bool := decide (0 ≤ a ∧ 1 ≤ b ∧ b ≤ 64 - a)
theorem isB_parts {a b : Int} (h : isB a b = true) : 0 ≤ a ∧ 1 ≤ b ∧ b ≤ 64 - a := by simpa [isB] using h

/-- The greatest number. -/
def maxI (a b : Int) : Int := if isB a b then 2 ^ b.toNat - 1 else 0
theorem maxI_yes {a b : Int} (h : isB a b = true) : maxI a b = 2 ^ b.toNat - 1 := by simp [maxI, h]
theorem maxI_no {a b : Int} (h : isB a b = false) : maxI a b = 0 := by simp [maxI, h]
theorem ones_shift (k : Nat) (h1 : k ≤ 64) : (18446744073709551615 : Int) / 2 ^ (64 - k) = 2 ^ k - 1 := by
  have h : ∀ k ≤ 64, (18446744073709551615 : Int) / 2 ^ (64 - k) = 2 ^ k - 1 := by decide
  exact h k h1

/-- The bits of a field that can be, as numbers: A and B. -/
theorem isB_nat {a b : Int} (h : isB a b = true) : ∃ A B : Nat, a = A ∧ b = B ∧ 1 ≤ B ∧ A + B ≤ 64 := by
  obtain ⟨h1, h2, h3⟩ := isB_parts h
  exact ⟨a.toNat, b.toNat, by omega, by omega, by omega, by omega⟩

theorem pow_le64 {k : Nat} (h : k ≤ 64) : 2 ^ k ≤ 18446744073709551616 := by
  have := Nat.pow_le_pow_right (n := 2) (by omega) h
  simpa using this

theorem maxI_nat {A B : Nat} (h1 : 1 ≤ B) (h2 : A + B ≤ 64) : maxI A B = ((2 ^ B - 1 : Nat) : Int) := by
  rw [maxI_yes (by simp [isB]; omega), Int.toNat_natCast, Int.natCast_sub (Nat.one_le_two_pow)]
  simp

theorem wrap_u8_small {a : Int} (h0 : 0 ≤ a) (h1 : a < 256) : IntKind.u8.wrap a = a := by rw [IntKind.wrap_u8]; omega

/-- The number in a word. -/
def getN (A B X : Nat) : Nat := X / 2 ^ A % 2 ^ B
def getI (a b x : Int) : Int := if isB a b then (getN a.toNat b.toNat x.toNat : Nat) else 0

theorem get_eq (a b x : Int) (h0 : 0 ≤ x) (h1 : x ≤ 18446744073709551615) :
    bits .and .u64 (x / 2 ^ min (IntKind.u8.wrap a).toNat 64) (maxI a b) = getI a b x := by
  obtain ⟨X, rfl⟩ := Int.eq_ofNat_of_zero_le h0
  have e : ∀ k : Nat, (X : Int) / 2 ^ k = ((X / 2 ^ k : Nat) : Int) := fun k => by simp
  have hlt : ∀ k : Nat, X / 2 ^ k < 18446744073709551616 := fun k => Nat.lt_of_le_of_lt (Nat.div_le_self _ _) (by omega)
  cases h : isB a b
  · rw [maxI_no h, e, show (0 : Int) = ((0 : Nat) : Int) from rfl, u64_and_nat _ _ (hlt _) (by decide)]
    simp [getI, h]
  · obtain ⟨A, B, rfl, rfl, hB, hAB⟩ := isB_nat h
    rw [wrap_u8_small (by omega) (by omega), maxI_nat hB hAB, e, u64_and_nat _ _ (hlt _) (by have := pow_le64 (k := B) (by omega); omega)]
    simp only [getI, h, if_true, Int.toNat_natCast, getN]
    rw [Nat.and_two_pow_sub_one_eq_mod, show min A 64 = A by omega]

/-- The field's bits in their places. -/
def maskN (A B : Nat) : Nat := (2 ^ B - 1) * 2 ^ A
def maskI (a b : Int) : Int := if isB a b then (maskN a.toNat b.toNat : Nat) else 0
theorem maskN_lt {A B : Nat} (h : A + B ≤ 64) : maskN A B < 18446744073709551616 := by
  unfold maskN
  have h1 : (2 ^ B - 1) * 2 ^ A < 2 ^ B * 2 ^ A := Nat.mul_lt_mul_of_pos_right (by have := Nat.one_le_two_pow (n := B); omega) (Nat.two_pow_pos A)
  rw [← Nat.pow_add] at h1
  have := pow_le64 (k := B + A) (by omega)
  omega
theorem mask_eq (a b : Int) : IntKind.u64.wrap (maxI a b * 2 ^ min (IntKind.u8.wrap a).toNat 64) = maskI a b := by
  cases h : isB a b
  · simp [maxI_no h, maskI, h, IntKind.wrap_u64]
  · obtain ⟨A, B, rfl, rfl, hB, hAB⟩ := isB_nat h
    rw [wrap_u8_small (by omega) (by omega), maxI_nat hB hAB]
    simp only [maskI, h, if_true, Int.toNat_natCast]
    rw [show min A 64 = A by omega, show (((2 ^ B - 1 : Nat) : Int) * 2 ^ A) = ((maskN A B : Nat) : Int) by simp [maskN], IntKind.wrap_u64]
    have := maskN_lt hAB
    omega

theorem maskN_testBit (A B k : Nat) : (maskN A B).testBit k = (decide (A ≤ k) && decide (k < A + B)) := by
  unfold maskN
  rw [Nat.testBit_mul_two_pow, Nat.testBit_two_pow_sub_one]
  by_cases h : A ≤ k
  · simp [h]; omega
  · simp [h]

/-- Another number there. -/
def putN (A B W X : Nat) : Nat := (W &&& (18446744073709551615 - maskN A B)) ||| X * 2 ^ A
def putI (a b w x : Int) : Int := (putN a.toNat b.toNat w.toNat x.toNat : Nat)
theorem putN_lt {A B W X : Nat} (hAB : A + B ≤ 64) (hW : W < 18446744073709551616) (hX : X < 2 ^ B) : putN A B W X < 18446744073709551616 := by
  have h1 : X * 2 ^ A < 2 ^ 64 := by
    have h1 : X * 2 ^ A < 2 ^ B * 2 ^ A := Nat.mul_lt_mul_of_pos_right hX (Nat.two_pow_pos A)
    rw [← Nat.pow_add] at h1
    have := pow_le64 (k := B + A) (by omega)
    simp only [Nat.reducePow]
    omega
  exact Nat.or_lt_two_pow (n := 64) (Nat.lt_of_le_of_lt Nat.and_le_left (by simpa using hW)) h1
theorem put_eq (a b w x : Int) (h : isB a b = true) (hw0 : 0 ≤ w) (hw1 : w ≤ 18446744073709551615) (hx0 : 0 ≤ x) (hx : x ≤ maxI a b) :
    bits .or .u64 (bits .andNot .u64 w (maskI a b)) (IntKind.u64.wrap (x * 2 ^ min (IntKind.u8.wrap a).toNat 64)) = putI a b w x := by
  obtain ⟨A, B, rfl, rfl, hB, hAB⟩ := isB_nat h
  obtain ⟨W, rfl⟩ := Int.eq_ofNat_of_zero_le hw0
  obtain ⟨X, rfl⟩ := Int.eq_ofNat_of_zero_le hx0
  rw [maxI_nat hB hAB] at hx
  have hX : X < 2 ^ B := by have := Nat.one_le_two_pow (n := B); omega
  have h1 : X * 2 ^ A < 18446744073709551616 := by
    have h1 : X * 2 ^ A < 2 ^ B * 2 ^ A := Nat.mul_lt_mul_of_pos_right hX (Nat.two_pow_pos A)
    rw [← Nat.pow_add] at h1
    have := pow_le64 (k := B + A) (by omega)
    omega
  have e1 : IntKind.u64.wrap ((X : Int) * 2 ^ min A 64) = ((X * 2 ^ A : Nat) : Int) := by
    rw [show min A 64 = A by omega, show ((X : Int) * 2 ^ A) = ((X * 2 ^ A : Nat) : Int) by simp, IntKind.wrap_u64]
    omega
  rw [wrap_u8_small (by omega) (by omega)]
  simp only [maskI, h, if_true, Int.toNat_natCast, putI]
  rw [e1, u64_andNot_nat _ _ (by omega) (maskN_lt hAB), u64_or_nat _ _ (Nat.lt_of_le_of_lt Nat.and_le_left (by omega)) h1]
  rfl

theorem ones_sub_testBit {m k : Nat} (h : m < 18446744073709551616) : (18446744073709551615 - m).testBit k = (decide (k < 64) && !m.testBit k) := by
  have := Nat.testBit_two_pow_sub_succ (n := 64) (x := m) (by simpa using h) k
  rw [← this]
  congr 1
  omega
theorem putN_testBit {A B W X : Nat} (hAB : A + B ≤ 64) (hW : W < 18446744073709551616) (hX : X < 2 ^ B) (k : Nat) :
    (putN A B W X).testBit k = if A ≤ k ∧ k < A + B then X.testBit (k - A) else W.testBit k := by
  unfold putN
  rw [Nat.testBit_or, Nat.testBit_and, ones_sub_testBit (maskN_lt hAB), maskN_testBit, Nat.testBit_mul_two_pow]
  by_cases h : A ≤ k ∧ k < A + B
  · simp [h.1, h.2]
  · rw [if_neg h]
    by_cases hk : A ≤ k
    · have hk2 : ¬ k < A + B := fun hh => h ⟨hk, hh⟩
      have hXk : X.testBit (k - A) = false := Nat.testBit_lt_two_pow (Nat.lt_of_lt_of_le hX (Nat.pow_le_pow_right (by omega) (by omega)))
      by_cases h64 : k < 64
      · simp [hk, hk2, hXk, h64]
      · have hWk : W.testBit k = false := Nat.testBit_lt_two_pow (Nat.lt_of_lt_of_le (show W < 2 ^ 64 by simpa using hW) (Nat.pow_le_pow_right (by omega) (by omega)))
        simp [hXk, hWk]
    · by_cases h64 : k < 64
      · simp [hk, h64]
      · omega
theorem getN_testBit (A B X k : Nat) : (getN A B X).testBit k = (decide (k < B) && X.testBit (A + k)) := by
  unfold getN
  rw [Nat.testBit_mod_two_pow, Nat.testBit_div_two_pow]
  rw [Nat.add_comm]
theorem getN_lt (A B X : Nat) : getN A B X < 2 ^ B := Nat.mod_lt _ (Nat.two_pow_pos B)

/-- Bit by bit, from the highest on. -/
def foldN (f : Nat → Nat) : Nat → Nat → Nat
  | _, 0 => 0
  | top, m + 1 => foldN f top m * 2 + f (top - m)
theorem foldN_testBit (f : Nat → Nat) (hf : ∀ i, f i < 2) (top m : Nat) : ∀ i, (foldN f top m).testBit i = (decide (i < m) && decide (f (top - (m - 1 - i)) = 1)) := by
  induction m with
  | zero => intro i; simp [foldN]
  | succ m ih =>
    intro i
    have h2 := hf (top - m)
    cases i with
    | zero =>
      simp only [foldN, Nat.testBit_zero, Nat.zero_lt_succ, decide_true, Bool.true_and]
      rw [show m + 1 - 1 - 0 = m by omega]
      congr 1
      apply propext
      omega
    | succ i =>
      rw [Nat.testBit_succ, foldN, show (foldN f top m * 2 + f (top - m)) / 2 = foldN f top m by omega, ih i]
      rw [show m + 1 - 1 - (i + 1) = m - 1 - i by omega]
      simp
theorem foldN_lt (f : Nat → Nat) (hf : ∀ i, f i < 2) (top m : Nat) : foldN f top m < 2 ^ m := by
  induction m with
  | zero => simp [foldN]
  | succ m ih =>
    have h2 := hf (top - m)
    simp only [foldN, Nat.pow_succ]
    omega
/-- All 64 bits, told one by one. -/
theorem foldN_eq {f : Nat → Nat} (hf : ∀ i, f i < 2) {Y : Nat} (hY : Y < 18446744073709551616) (h : ∀ i, i < 64 → decide (f i = 1) = Y.testBit i) : foldN f 63 64 = Y := by
  apply Nat.eq_of_testBit_eq
  intro i
  rw [foldN_testBit f hf]
  by_cases h64 : i < 64
  · rw [show 63 - (64 - 1 - i) = i by omega, h i h64]; simp [h64]
  · have hYk : Y.testBit i = false := Nat.testBit_lt_two_pow (Nat.lt_of_lt_of_le (show Y < 2 ^ 64 by simpa using hY) (Nat.pow_le_pow_right (by omega) (by omega)))
    simp [h64, hYk]

/-- The bit k of a word. -/
def bitN (X k : Nat) : Nat := X / 2 ^ k % 2
theorem bitN_lt (X k : Nat) : bitN X k < 2 := Nat.mod_lt _ (by omega)
theorem bitN_testBit (X k : Nat) : decide (bitN X k = 1) = X.testBit k := by
  unfold bitN
  rw [Nat.testBit_eq_decide_div_mod_eq]

/-- With a sign. -/
def sgnN (A B X : Nat) : Int := if 2 ^ (B - 1) ≤ getN A B X then (getN A B X : Int) - 2 ^ B else getN A B X
def sgnI (a b x : Int) : Int := if isB a b then sgnN a.toNat b.toNat x.toNat else 0

theorem sgn_eq (a b x : Int) (h : isB a b = true) (h0 : 0 ≤ x) :
    wrap64 (IntKind.u64.wrap (x * 2 ^ (64 - b - a).toNat)) / 2 ^ (64 - b).toNat = sgnI a b x := by
  obtain ⟨A, B, rfl, rfl, hB, hAB⟩ := isB_nat h
  obtain ⟨X, rfl⟩ := Int.eq_ofNat_of_zero_le h0
  simp only [sgnI, h, if_true, Int.toNat_natCast]
  rw [show (64 - (B : Int) - (A : Int)).toNat = 64 - B - A by omega, show (64 - (B : Int)).toNat = 64 - B by omega]
  -- the word, moved up
  have e1 : IntKind.u64.wrap ((X : Int) * 2 ^ (64 - B - A)) = ((X % 2 ^ (A + B) * 2 ^ (64 - B - A) : Nat) : Int) := by
    rw [show ((X : Int) * 2 ^ (64 - B - A)) = ((X * 2 ^ (64 - B - A) : Nat) : Int) by simp, IntKind.wrap_u64]
    have : (18446744073709551616 : Nat) = 2 ^ (A + B) * 2 ^ (64 - B - A) := by rw [← Nat.pow_add, show A + B + (64 - B - A) = 64 by omega]
    rw [← Nat.mul_mod_mul_right, ← this]
    omega
  rw [e1]
  have hsplit : (2 : Nat) ^ (64 - B) = 2 ^ A * 2 ^ (64 - B - A) := by rw [← Nat.pow_add]; congr 1; omega
  have hd : X % 2 ^ (A + B) * 2 ^ (64 - B - A) / 2 ^ (64 - B) = getN A B X := by
    rw [hsplit, Nat.mul_div_mul_right _ _ (Nat.two_pow_pos _), getN, Nat.pow_add, Nat.mod_mul_right_div_self]
  have hlt : X % 2 ^ (A + B) * 2 ^ (64 - B - A) < 18446744073709551616 := by
    have h1 : X % 2 ^ (A + B) * 2 ^ (64 - B - A) < 2 ^ (A + B) * 2 ^ (64 - B - A) := Nat.mul_lt_mul_of_pos_right (Nat.mod_lt _ (Nat.two_pow_pos _)) (Nat.two_pow_pos _)
    rw [← Nat.pow_add, show A + B + (64 - B - A) = 64 by omega] at h1
    simpa using h1
  generalize X % 2 ^ (A + B) * 2 ^ (64 - B - A) = Y at *
  have hhalf : (9223372036854775808 : Nat) = 2 ^ (B - 1) * 2 ^ (64 - B) := by rw [← Nat.pow_add, show B - 1 + (64 - B) = 63 by omega]
  have hwhole : (18446744073709551616 : Int) = 2 ^ B * 2 ^ (64 - B) := by rw [← Int.pow_add, show B + (64 - B) = 64 by omega]; rfl
  have hcmp : 2 ^ (B - 1) ≤ getN A B X ↔ 9223372036854775808 ≤ Y := by
    rw [← hd, hhalf, Nat.le_div_iff_mul_le (Nat.two_pow_pos _)]
  have hpos : (0 : Int) < 2 ^ (64 - B) := by exact_mod_cast Nat.two_pow_pos (64 - B)
  have hdI : (Y : Int) / 2 ^ (64 - B) = getN A B X := by rw [← hd]; simp
  unfold sgnN wrap64
  by_cases hc : 9223372036854775808 ≤ Y
  · rw [if_pos (hcmp.2 hc), show ((Y : Int) + 9223372036854775808) % 18446744073709551616 - 9223372036854775808 = (Y : Int) + (-18446744073709551616) by omega, hwhole, ← Int.neg_mul, Int.add_mul_ediv_right _ _ (by omega), hdI]
    omega
  · rw [if_neg (fun hh => hc (hcmp.1 hh)), show ((Y : Int) + 9223372036854775808) % 18446744073709551616 - 9223372036854775808 = (Y : Int) by omega, hdI]

/-- Bits, turned round by k towards the highest. -/
def turnN (W k : Nat) : Nat := W * 2 ^ k % 18446744073709551616 ||| W / 2 ^ (64 - k)
theorem turnN_lt {W k : Nat} (hW : W < 18446744073709551616) : turnN W k < 18446744073709551616 :=
  Nat.or_lt_two_pow (n := 64) (Nat.mod_lt _ (by decide)) (Nat.lt_of_le_of_lt (Nat.div_le_self _ _) (by simpa using hW))
theorem turnN_testBit {W k i : Nat} (hW : W < 18446744073709551616) (hk : k < 64) (hi : i < 64) : (turnN W k).testBit i = W.testBit ((i + 64 - k) % 64) := by
  unfold turnN
  rw [Nat.testBit_or, show (18446744073709551616 : Nat) = 2 ^ 64 by rfl, Nat.testBit_mod_two_pow, Nat.testBit_mul_two_pow, Nat.testBit_div_two_pow]
  by_cases h : k ≤ i
  · rw [show (i + 64 - k) % 64 = i - k by omega]
    have : W.testBit (i + (64 - k)) = false := Nat.testBit_lt_two_pow (Nat.lt_of_lt_of_le (show W < 2 ^ 64 by simpa using hW) (Nat.pow_le_pow_right (by omega) (by omega)))
    simp [hi, h, this]
  · rw [show (i + 64 - k) % 64 = i + (64 - k) by omega]
    simp [h]
/-- Turned by n, whatever n is. -/
def turnI (w n : Int) : Int := (turnN w.toNat (n % 64).toNat : Nat)
theorem turn_eq (w n : Int) (h0 : 0 ≤ w) (h1 : w ≤ 18446744073709551615) :
    bits .or .u64 (IntKind.u64.wrap (w * 2 ^ (n % 64).toNat)) (w / 2 ^ (64 - n % 64).toNat) = turnI w n := by
  obtain ⟨W, rfl⟩ := Int.eq_ofNat_of_zero_le h0
  obtain ⟨k, hk⟩ := Int.eq_ofNat_of_zero_le (show 0 ≤ n % 64 by omega)
  have hk64 : k < 64 := by omega
  unfold turnI
  rw [hk, show (64 - (k : Int)).toNat = 64 - k by omega]
  simp only [Int.toNat_natCast]
  rw [show IntKind.u64.wrap ((W : Int) * 2 ^ k) = ((W * 2 ^ k % 18446744073709551616 : Nat) : Int) by rw [IntKind.wrap_u64]; simp,
    show (W : Int) / 2 ^ (64 - k) = ((W / 2 ^ (64 - k) : Nat) : Int) by simp,
    u64_or_nat _ _ (Nat.mod_lt _ (by decide)) (Nat.lt_of_le_of_lt (Nat.div_le_self _ _) (by omega))]
  rfl

theorem foldN_get {A B X : Nat} : foldN (fun i => bitN X (A + i)) (B - 1) B = getN A B X := by
  apply Nat.eq_of_testBit_eq
  intro i
  rw [foldN_testBit _ (fun _ => bitN_lt _ _), getN_testBit]
  by_cases h : i < B
  · rw [show B - 1 - (B - 1 - i) = i by omega, bitN_testBit]
  · simp [h]

/-- A bit of the word with another number there. -/
def putF (A B W X k : Nat) : Nat := if A ≤ k ∧ k < A + B then bitN X (k - A) else bitN W k
theorem putF_lt (A B W X k : Nat) : putF A B W X k < 2 := by unfold putF; split <;> exact bitN_lt _ _
theorem foldN_put {A B W X : Nat} (hAB : A + B ≤ 64) (hW : W < 18446744073709551616) (hX : X < 2 ^ B) : foldN (putF A B W X) 63 64 = putN A B W X :=
  foldN_eq (putF_lt A B W X) (putN_lt hAB hW hX) fun i _ => by
    rw [putN_testBit hAB hW hX]
    unfold putF
    split <;> exact bitN_testBit _ _

/-- A bit of a word that is turned round. -/
def turnF (W k i : Nat) : Nat := bitN W ((i + 64 - k) % 64)
theorem foldN_turn {W k : Nat} (hW : W < 18446744073709551616) (hk : k < 64) : foldN (turnF W k) 63 64 = turnN W k :=
  foldN_eq (fun _ => bitN_lt _ _) (turnN_lt hW) fun i hi => by rw [turnN_testBit hW hk hi]; exact bitN_testBit _ _

/-- The number with a sign, bit by bit: the highest one counts below 0. -/
def sgnF (A B X m : Nat) : Int := (foldN (fun i => bitN X (A + i)) (B - 1) m : Nat) - (bitN X (A + (B - 1)) : Nat) * 2 ^ m
theorem sgnF_one (A B X : Nat) : sgnF A B X 1 = - (bitN X (A + (B - 1)) : Nat) := by
  simp only [sgnF, foldN, Nat.sub_zero]
  omega
theorem sgnF_succ (A B X m : Nat) : sgnF A B X (m + 1) = sgnF A B X m * 2 + (bitN X (A + (B - 1 - m)) : Nat) := by
  simp only [sgnF, foldN, Int.pow_succ]
  rw [← Int.mul_assoc]
  omega
theorem sgnF_bound (A B X m : Nat) (h : 1 ≤ m) : - 2 ^ (m - 1) ≤ sgnF A B X m ∧ sgnF A B X m ≤ 2 ^ (m - 1) - 1 := by
  induction m with
  | zero => omega
  | succ m ih =>
    have hb := bitN_lt X (A + (B - 1 - m))
    by_cases hm : m = 0
    · subst hm
      rw [sgnF_one]
      have := bitN_lt X (A + (B - 1))
      simp; omega
    · obtain ⟨h1, h2⟩ := ih (by omega)
      rw [sgnF_succ, show m + 1 - 1 = (m - 1) + 1 by omega, Int.pow_succ]
      omega
theorem sgnF_small (A B X m : Nat) (h : 1 ≤ m) (h63 : m ≤ 63) : -4611686018427387904 ≤ sgnF A B X m ∧ sgnF A B X m ≤ 4611686018427387903 := by
  obtain ⟨h1, h2⟩ := sgnF_bound A B X m h
  have : (2 : Int) ^ (m - 1) ≤ 2 ^ 62 := by exact_mod_cast Nat.pow_le_pow_right (by omega) (by omega)
  simp only [Int.reducePow] at this
  omega
theorem sgnF_all {A B X : Nat} (hB : 1 ≤ B) : sgnF A B X B = sgnN A B X := by
  unfold sgnF sgnN
  rw [foldN_get]
  have hg := getN_lt A B X
  have e : 2 ^ B = 2 * 2 ^ (B - 1) := by rw [← Nat.pow_succ', show (B - 1).succ = B by omega]
  have hbit : bitN X (A + (B - 1)) = getN A B X / 2 ^ (B - 1) := by
    unfold bitN getN
    rw [e, Nat.mul_comm 2, Nat.mod_mul_right_div_self, Nat.div_div_eq_div_mul, Nat.pow_add]
  have hp := Nat.two_pow_pos (B - 1)
  by_cases hc : 2 ^ (B - 1) ≤ getN A B X
  · have h1 : getN A B X / 2 ^ (B - 1) = 1 := by rw [Nat.div_eq_iff hp]; omega
    rw [if_pos hc, hbit, h1]
    simp
  · have h0 : getN A B X / 2 ^ (B - 1) = 0 := Nat.div_eq_of_lt (by omega)
    rw [if_neg hc, hbit, h0]
    simp
theorem foldN_small (f : Nat → Nat) (hf : ∀ i, f i < 2) (top m : Nat) (h : m ≤ 63) : foldN f top m ≤ 9223372036854775807 := by
  have h1 := foldN_lt f hf top m
  have h2 : 2 ^ m ≤ 2 ^ 63 := Nat.pow_le_pow_right (by omega) h
  simp only [Nat.reducePow] at h2
  omega

theorem tmod64 (n : Int) : (n.tmod 64 < 0 → wrap64 (n.tmod 64 + 64) = n % 64) ∧ (0 ≤ n.tmod 64 → n.tmod 64 = n % 64) := by
  have h : n.tmod 64 = n % 64 ∨ n.tmod 64 = n % 64 - 64 := by
    rw [Int.tmod_eq_emod]
    split
    · exact Or.inl (by omega)
    · exact Or.inr (by rfl)
  unfold wrap64
  omega
end Go.Proofs.YtlhhnaccigamjaaDoor

/- Contracts of layer 1's own functions: Is, Max, Get, mask, Put. -/
namespace Go.Proofs.YtlhhnaccigamjaaDoor
open Go.RowKit
set_option maxRecDepth 100000


set_option maxHeartbeats 400000 in
theorem is_any (a b : Int) (w : World) (ha : a ≤ 9223372036854775807) (_hb : -9223372036854775808 ≤ b) :
    Calls Tryd.prog 76 #[.agg #[.int .i64 a, .int .i64 b]] w fun e w' => e = .returned (.bool (isB a b)) ∧ Below w.heap.size w w' := by
  by_cases h1 : 0 ≤ a
  · by_cases h2 : 1 ≤ b
    · go_enter Tryd.func76, Tryd.ntmps76
      go_wp2
      go_ret
      exact ⟨ret_bool (by simp [isB, h1, h2]), (Below.refl _ _).alloc (Nat.le_refl _) _⟩
    · go_enter Tryd.func76, Tryd.ntmps76
      go_wp2
      go_ret
      exact ⟨ret_bool (by simp [isB]; omega), (Below.refl _ _).alloc (Nat.le_refl _) _⟩
  · go_enter Tryd.func76, Tryd.ntmps76
    go_wp2
    go_ret
    exact ⟨ret_bool (by simp [isB]; omega), (Below.refl _ _).alloc (Nat.le_refl _) _⟩

theorem ret_int_bool {k : IntKind} {x y : Int} {c : Bool} (h : x = y) : Ending.returned (.tuple #[.int k x, .bool c]) = .returned (.tuple #[.int k y, .bool c]) := by rw [h]

/-- What stood below B reads on as it did. -/
theorem old_cell {B : Nat} {v v' : World} (h : Below B v v') (n k : Nat) (hn : n < B) : v'.cell? ⟨n, k, none⟩ = v.cell? ⟨n, k, none⟩ := Below.cell h (p := ⟨n, k, none⟩) hn
theorem old_frozen {B : Nat} {v v' : World} (h : Below B v v') (n k : Nat) (hn : n < B) : v'.frozen? ⟨n, k, none⟩ = v.frozen? ⟨n, k, none⟩ := Below.frozen h (p := ⟨n, k, none⟩) hn

/-- What stands above block n is the call's own. -/
theorem hold_step {n : Nat} {w w1 w2 : World} {x y : Value} (c0 : w1.cell? ⟨n, 0, none⟩ = some x) (c1 : w1.cell? ⟨n, 1, none⟩ = some y) (hB : Below n w w1) (hs : n < w1.heap.size) (hb : Below w1.heap.size w1 w2) :
    w2.cell? ⟨n, 0, none⟩ = some x ∧ w2.cell? ⟨n, 1, none⟩ = some y ∧ Below n w w2 ∧ n < w2.heap.size :=
  ⟨by rw [hb.cell (p := ⟨n, 0, none⟩) hs]; exact c0, by rw [hb.cell (p := ⟨n, 1, none⟩) hs]; exact c1, hB.trans (hb.mono (by omega)), by have := hb.size; omega⟩

set_option maxHeartbeats 400000 in
theorem max_any (a b : Int) (w : World) (ha : a ≤ 9223372036854775807) (hb : -9223372036854775808 ≤ b) :
    Calls Tryd.prog 72 #[.agg #[.int .i64 a, .int .i64 b]] w fun e w' => e = .returned (.int .u64 (maxI a b)) ∧ Below w.heap.size w w' := by
  cases h : isB a b
  · have H := Lib.hid h
    clear h
    go_enter Tryd.func72, Tryd.ntmps72
    go_wp2_with fail
    refine (is_any a b _ ha hb).mono ?_
    rintro e w1 ⟨rfl, hb⟩
    rw [H.out]
    go_wp2
    go_ret
    exact ⟨ret_int (maxI_no H.out).symm, ((Below.refl _ _).alloc (Nat.le_refl _) _).trans (hb.mono (by simp))⟩
  · have hp := isB_parts h
    have H := Lib.hid h
    clear h
    go_enter Tryd.func72, Tryd.ntmps72
    go_wp2_with fail
    refine (is_any a b _ ha hb).mono ?_
    rintro e w1 ⟨rfl, hb⟩
    rw [H.out]
    have hc := old_cell hb
    have hf := old_frozen hb
    go_wp2
    go_ret
    refine ⟨ret_int ?_, ((Below.refl _ _).alloc (Nat.le_refl _) _).trans (hb.mono (by simp))⟩
    rw [maxI_yes H.out, show (64 - b).toNat = 64 - b.toNat by omega]
    exact ones_shift _ (by omega)

set_option maxHeartbeats 400000 in
theorem get_any (a b x : Int) (w : World) (ha : a ≤ 9223372036854775807) (hb : -9223372036854775808 ≤ b) (h0 : 0 ≤ x) (h1 : x ≤ 18446744073709551615) :
    Calls Tryd.prog 59 #[.agg #[.int .i64 a, .int .i64 b], .int .u64 x] w fun e w' => e = .returned (.int .u64 (getI a b x)) ∧ Below w.heap.size w w' := by
  go_enter Tryd.func59, Tryd.ntmps59
  go_wp2_with fail
  go_region_held3 (fun w' => w'.cell? ⟨w.heap.size, 0, none⟩ = some (.int .i64 a) ∧ w'.cell? ⟨w.heap.size, 1, none⟩ = some (.int .i64 b) ∧ Below w.heap.size w w' ∧ w.heap.size < w'.heap.size)
    (first | (go_split_ands; exact hold_step (by assumption) (by assumption) (by assumption) (by assumption) (by assumption)) | (refine ⟨?_, ?_, ?_, ?_⟩ <;> first | exact ((Below.refl _ _).alloc (Nat.le_refl _) _).drew | go_keep | simp))
    (first | (go_at_call 72; refine (max_any a b _ ha hb).mono ?_; rintro e w1 ⟨rfl, hb1⟩))
  all_goals
    go_wp2
    go_ret
    go_split_ands
    exact ⟨ret_int (get_eq a b x h0 h1), by assumption⟩

set_option maxHeartbeats 400000 in
theorem mask_any (a b : Int) (w : World) (ha : a ≤ 9223372036854775807) (hb : -9223372036854775808 ≤ b) :
    Calls Tryd.prog 78 #[.agg #[.int .i64 a, .int .i64 b]] w fun e w' => e = .returned (.int .u64 (maskI a b)) ∧ Below w.heap.size w w' := by
  go_enter Tryd.func78, Tryd.ntmps78
  go_wp2_with fail
  go_region_held3 (fun w' => w'.cell? ⟨w.heap.size, 0, none⟩ = some (.int .i64 a) ∧ w'.cell? ⟨w.heap.size, 1, none⟩ = some (.int .i64 b) ∧ Below w.heap.size w w' ∧ w.heap.size < w'.heap.size)
    (first | (go_split_ands; exact hold_step (by assumption) (by assumption) (by assumption) (by assumption) (by assumption)) | (refine ⟨?_, ?_, ?_, ?_⟩ <;> first | exact ((Below.refl _ _).alloc (Nat.le_refl _) _).drew | go_keep | simp))
    (first | (go_at_call 72; refine (max_any a b _ ha hb).mono ?_; rintro e w1 ⟨rfl, hb1⟩))
  all_goals
    go_wp2
    go_ret
    go_split_ands
    exact ⟨ret_int (mask_eq a b), by assumption⟩

set_option maxHeartbeats 400000 in
theorem put_no (a b x y : Int) (w : World) (ha : a ≤ 9223372036854775807) (hb : -9223372036854775808 ≤ b) (h : isB a b = false) :
    Calls Tryd.prog 74 #[.agg #[.int .i64 a, .int .i64 b], .int .u64 x, .int .u64 y] w fun e w' => e = .returned (.tuple #[.int .u64 0, .bool false]) ∧ Below w.heap.size w w' := by
  have H := Lib.hid h
  clear h
  go_enter Tryd.func74, Tryd.ntmps74
  go_wp2_with fail
  refine (is_any a b _ ha hb).mono ?_
  rintro e w1 ⟨rfl, hb⟩
  rw [H.out]
  go_wp2_with fail
  go_ret2
  exact ⟨rfl, ((Below.refl _ _).alloc (Nat.le_refl _) _).trans (hb.mono (by simp))⟩

set_option maxHeartbeats 400000 in
theorem put_above (a b x y : Int) (w : World) (ha : a ≤ 9223372036854775807) (hb : -9223372036854775808 ≤ b) (h : isB a b = true) (hy : maxI a b < y) :
    Calls Tryd.prog 74 #[.agg #[.int .i64 a, .int .i64 b], .int .u64 x, .int .u64 y] w fun e w' => e = .returned (.tuple #[.int .u64 0, .bool false]) ∧ Below w.heap.size w w' := by
  have H := Lib.hid h
  clear h
  go_enter Tryd.func74, Tryd.ntmps74
  go_wp2_with fail
  refine (is_any a b _ ha hb).mono ?_
  rintro e w1 ⟨rfl, hb1⟩
  rw [H.out]
  have hc := old_cell hb1
  have hf := old_frozen hb1
  go_wp2_with fail
  refine (max_any a b _ ha hb).mono ?_
  rintro e w2 ⟨rfl, hb2⟩
  go_wp2_with fail
  go_ret2
  exact ⟨rfl, (((Below.refl _ _).alloc (Nat.le_refl _) _).trans (hb1.mono (by simp))).trans (hb2.mono (by have := hb1.size; simp at this; omega))⟩

set_option maxHeartbeats 400000 in
theorem put_yes (a b x y : Int) (w : World) (ha : a ≤ 9223372036854775807) (hb : -9223372036854775808 ≤ b) (h : isB a b = true) (hx0 : 0 ≤ x) (hx1 : x ≤ 18446744073709551615) (hy0 : 0 ≤ y) (hy : y ≤ maxI a b) :
    Calls Tryd.prog 74 #[.agg #[.int .i64 a, .int .i64 b], .int .u64 x, .int .u64 y] w fun e w' => e = .returned (.tuple #[.int .u64 (putI a b x y), .bool true]) ∧ Below w.heap.size w w' := by
  have hp := isB_parts h
  have H := Lib.hid h
  clear h
  go_enter Tryd.func74, Tryd.ntmps74
  go_wp2_with fail
  refine (is_any a b _ ha hb).mono ?_
  rintro e w1 ⟨rfl, hb1⟩
  rw [H.out]
  have hc := old_cell hb1
  have hf := old_frozen hb1
  go_wp2_with fail
  refine (max_any a b _ ha hb).mono ?_
  rintro e w2 ⟨rfl, hb2⟩
  have hs1 := hb1.size
  have hs2 := hb2.size
  simp at hs1
  have c0 : w2.cell? ⟨w.heap.size, 0, none⟩ = some (.int .i64 a) := by rw [hb2.cell (p := ⟨w.heap.size, 0, none⟩) (by simp; omega), hc _ _ (by simp)]; simp
  have c1 : w2.cell? ⟨w.heap.size, 1, none⟩ = some (.int .i64 b) := by rw [hb2.cell (p := ⟨w.heap.size, 1, none⟩) (by simp; omega), hc _ _ (by simp)]; simp
  have hB : Below w.heap.size w w2 := (((Below.refl _ _).alloc (Nat.le_refl _) _).trans (hb1.mono (by simp))).trans (hb2.mono (by omega))
  have hlt : w.heap.size < w2.heap.size := by omega
  clear hc hf hb1 hb2 hs1 hs2
  go_wp2_with fail
  go_region_held3 (fun w' => w'.cell? ⟨w.heap.size, 0, none⟩ = some (.int .i64 a) ∧ w'.cell? ⟨w.heap.size, 1, none⟩ = some (.int .i64 b) ∧ Below w.heap.size w w' ∧ w.heap.size < w'.heap.size)
    (first | (go_split_ands; exact hold_step (by assumption) (by assumption) (by assumption) (by assumption) (by assumption)) | exact ⟨c0, c1, hB.drew, hlt⟩)
    (first | (go_at_call 78; refine (mask_any a b _ ha hb).mono ?_; rintro e w1 ⟨rfl, hb1⟩))
  all_goals
    go_wp2
    go_ret2
    go_split_ands
    exact ⟨ret_int_bool (put_eq a b x y H.out hx0 hx1 hy0 hy), by assumption⟩
end Go.Proofs.YtlhhnaccigamjaaDoor

/- Layer 2: the plain mathematics of links: words, slots, versions, marks. -/
namespace Go.Proofs.YtlhhnaccigamjaaDoor
open Go.RowKit
set_option maxRecDepth 100000

/-- A word's parts. -/
def slotI (x : Int) : Int := x / 1099511627776 % 8388608
def verI (x : Int) : Int := x % 1099511627776
def markB (x : Int) : Bool := decide (9223372036854775808 ≤ x)
def isS (s : Int) : Bool := decide (0 ≤ s ∧ s ≤ 8388607)
def isL (s v : Int) : Bool := decide (0 ≤ s ∧ s ≤ 8388607 ∧ 0 ≤ v ∧ v ≤ 1099511627775)
def bitI (m : Bool) : Int := if m then 9223372036854775808 else 0
def wordI (m : Bool) (s v : Int) : Int := if isL s v then v + s * 1099511627776 + bitI m else 0

theorem isL_parts {s v : Int} (h : isL s v = true) : 0 ≤ s ∧ s ≤ 8388607 ∧ 0 ≤ v ∧ v ≤ 1099511627775 := by simpa [isL] using h
theorem isL_mk {s v : Int} (h1 : 0 ≤ s) (h2 : s ≤ 8388607) (h3 : 0 ≤ v) (h4 : v ≤ 1099511627775) : isL s v = true := by simp [isL, h1, h2, h3, h4]
theorem isS_parts {s : Int} (h : isS s = true) : 0 ≤ s ∧ s ≤ 8388607 := by simpa [isS] using h
theorem isS_mk {s : Int} (h1 : 0 ≤ s) (h2 : s ≤ 8388607) : isS s = true := by simp [isS, h1, h2]
theorem slotI_in (x : Int) : 0 ≤ slotI x ∧ slotI x ≤ 8388607 := by unfold slotI; omega
theorem verI_in (x : Int) : 0 ≤ verI x ∧ verI x ≤ 1099511627775 := by unfold verI; omega
theorem bitI_in (m : Bool) : 0 ≤ bitI m ∧ bitI m ≤ 9223372036854775808 := by cases m <;> simp [bitI]
theorem wordI_in (m : Bool) (s v : Int) : 0 ≤ wordI m s v ∧ wordI m s v ≤ 18446744073709551615 := by
  unfold wordI
  split
  · have := isL_parts ‹_›
    cases m <;> simp [bitI] <;> omega
  · omega
theorem wordI_yes {m : Bool} {s v : Int} (h : isL s v = true) : wordI m s v = v + s * 1099511627776 + bitI m := by simp [wordI, h]
theorem wordI_no {m : Bool} {s v : Int} (h : isL s v = false) : wordI m s v = 0 := by simp [wordI, h]

theorem slot_word {m : Bool} {s v : Int} (h : isL s v = true) : slotI (wordI m s v) = s := by
  have := isL_parts h
  rw [wordI_yes h]
  cases m <;> simp only [bitI, slotI, if_true, if_false, Bool.false_eq_true] <;> omega
theorem ver_word {m : Bool} {s v : Int} (h : isL s v = true) : verI (wordI m s v) = v := by
  have := isL_parts h
  rw [wordI_yes h]
  cases m <;> simp only [bitI, verI, if_true, if_false, Bool.false_eq_true] <;> omega
theorem mark_word {m : Bool} {s v : Int} (h : isL s v = true) : markB (wordI m s v) = m := by
  have := isL_parts h
  rw [wordI_yes h]
  cases m <;> simp only [bitI, markB, if_true, if_false, Bool.false_eq_true, decide_eq_true_eq, decide_eq_false_iff_not] <;> omega
theorem isL_of (x : Int) : isL (slotI x) (verI x) = true := isL_mk (slotI_in x).1 (slotI_in x).2 (verI_in x).1 (verI_in x).2
theorem word_of (x : Int) (h0 : 0 ≤ x) (h1 : x ≤ 18446744073709551615) : wordI (markB x) (slotI x) (verI x) = x := by
  rw [wordI_yes (isL_of x)]
  by_cases h : 9223372036854775808 ≤ x
  · simp only [markB, h, decide_true, bitI, if_true, slotI, verI]; omega
  · simp only [markB, h, decide_false, bitI, Bool.false_eq_true, if_false, slotI, verI]; omega
theorem word_inj {m n : Bool} {s v t u : Int} (h : isL s v = true) (h' : isL t u = true) (e : wordI m s v = wordI n t u) : m = n ∧ s = t ∧ v = u := by
  have e1 := congrArg markB e
  have e2 := congrArg slotI e
  have e3 := congrArg verI e
  rw [mark_word h, mark_word h'] at e1
  rw [slot_word h, slot_word h'] at e2
  rw [ver_word h, ver_word h'] at e3
  exact ⟨e1, e2, e3⟩

/-- The three fields, of a word. -/
theorem get_version (x : Int) (h0 : 0 ≤ x) : getI 0 40 x = verI x := by
  obtain ⟨X, rfl⟩ := Int.eq_ofNat_of_zero_le h0
  simp only [getI, show isB 0 40 = true from rfl, if_true, getN, verI, Int.toNat_natCast]
  simp
theorem get_slot (x : Int) (h0 : 0 ≤ x) : getI 40 23 x = slotI x := by
  obtain ⟨X, rfl⟩ := Int.eq_ofNat_of_zero_le h0
  simp only [getI, show isB 40 23 = true from rfl, if_true, getN, slotI, Int.toNat_natCast]
  simp
theorem get_mark (x : Int) (h0 : 0 ≤ x) : getI 63 1 x = x / 9223372036854775808 % 2 := by
  obtain ⟨X, rfl⟩ := Int.eq_ofNat_of_zero_le h0
  simp only [getI, show isB 63 1 = true from rfl, if_true, getN, Int.toNat_natCast]
  simp
theorem mark_one (x : Int) (h0 : 0 ≤ x) (h1 : x ≤ 18446744073709551615) : decide (getI 63 1 x = 1) = markB x := by
  rw [get_mark x h0]
  unfold markB
  by_cases h : 9223372036854775808 ≤ x
  · simp only [h, decide_true, decide_eq_true_eq]; omega
  · simp only [h, decide_false, decide_eq_false_iff_not]; omega

/-- To put above all that is there is to add. -/
theorem putN_above {A B W X : Nat} (hAB : A + B ≤ 64) (hW : W < 2 ^ A) : putN A B W X = W + X * 2 ^ A := by
  have e1 : W &&& (18446744073709551615 - maskN A B) = W := by
    apply Nat.eq_of_testBit_eq
    intro i
    rw [Nat.testBit_and, ones_sub_testBit (maskN_lt hAB), maskN_testBit]
    by_cases hi : i < A
    · have h1 : ¬ A ≤ i := by omega
      have h2 : i < 64 := by omega
      simp [h1, h2]
    · have := Nat.testBit_lt_two_pow (Nat.lt_of_lt_of_le hW (Nat.pow_le_pow_right (n := 2) (by omega) (show A ≤ i by omega)))
      simp [this]
  unfold putN
  rw [e1, Nat.or_comm, Nat.mul_comm, ← Nat.two_pow_add_eq_or_of_lt hW]
  omega
theorem put_version (v : Int) (h0 : 0 ≤ v) : putI 0 40 0 v = v := by
  obtain ⟨V, rfl⟩ := Int.eq_ofNat_of_zero_le h0
  have := putN_above (A := 0) (B := 40) (W := 0) (X := V) (by omega) (by simp)
  simp only [putI, Int.toNat_natCast, Int.toNat_zero, show (40 : Int).toNat = 40 from rfl]
  rw [this]
  simp
theorem put_slot (v s : Int) (h0 : 0 ≤ v) (h1 : v ≤ 1099511627775) (h2 : 0 ≤ s) : putI 40 23 v s = v + s * 1099511627776 := by
  obtain ⟨V, rfl⟩ := Int.eq_ofNat_of_zero_le h0
  obtain ⟨S, rfl⟩ := Int.eq_ofNat_of_zero_le h2
  have := putN_above (A := 40) (B := 23) (W := V) (X := S) (by omega) (by simp; omega)
  simp only [putI, Int.toNat_natCast, show (40 : Int).toNat = 40 from rfl, show (23 : Int).toNat = 23 from rfl]
  rw [this]
  simp
theorem put_mark (x : Int) (h0 : 0 ≤ x) (h1 : x < 9223372036854775808) : putI 63 1 x 1 = x + 9223372036854775808 := by
  obtain ⟨X, rfl⟩ := Int.eq_ofNat_of_zero_le h0
  have := putN_above (A := 63) (B := 1) (W := X) (X := 1) (by omega) (by simp; omega)
  simp only [putI, Int.toNat_natCast, show (63 : Int).toNat = 63 from rfl, show (1 : Int).toNat = 1 from rfl]
  rw [this]
  simp
theorem max_parts : maxI 0 40 = 1099511627775 ∧ maxI 40 23 = 8388607 ∧ maxI 63 1 = 1 ∧ isB 0 40 = true ∧ isB 40 23 = true ∧ isB 63 1 = true := by decide +kernel

/-- How two numbers stand. -/
def cmpI (a b : Int) : Int := if a < b then -1 else if b < a then 1 else 0
theorem cmpI_self (a : Int) : cmpI a a = 0 := by simp [cmpI]
theorem cmpI_lt {a b : Int} (h : a < b) : cmpI a b = -1 := by simp [cmpI, h]
theorem cmpI_gt {a b : Int} (h : b < a) : cmpI a b = 1 := by unfold cmpI; rw [if_neg (by omega), if_pos h]
theorem cmpI_in (a b : Int) : -1 ≤ cmpI a b ∧ cmpI a b ≤ 1 := by unfold cmpI; split; omega; split <;> omega

/-- The next version's link. -/
def nextE (x s : Int) : Int := if isS s then (if verI x = 1099511627775 then 7 else 0) else 3
def nextW (x s : Int) : Int := if isS s then (if verI x = 1099511627775 then 0 else wordI false s (verI x + 1)) else 0
/-- With a mark; what is marked stays. -/
def markedW (x s v : Int) : Int := if markB x then x else wordI true s v
theorem markedW_in (x s v : Int) (h0 : 0 ≤ x) (h1 : x ≤ 18446744073709551615) : 0 ≤ markedW x s v ∧ markedW x s v ≤ 18446744073709551615 := by
  unfold markedW
  split
  · exact ⟨h0, h1⟩
  · exact wordI_in _ _ _
end Go.Proofs.YtlhhnaccigamjaaDoor

/- Contracts of the functions of layer 2. -/
namespace Go.Proofs.YtlhhnaccigamjaaDoor
open Go.RowKit
set_option maxRecDepth 100000

/-- The three fields stand in their variables. -/
def Glo (w : World) : Prop :=
  (w.cell? ⟨1, 0, none⟩ = some (.int .i64 0) ∧ w.cell? ⟨1, 1, none⟩ = some (.int .i64 40)) ∧
  (w.cell? ⟨2, 0, none⟩ = some (.int .i64 40) ∧ w.cell? ⟨2, 1, none⟩ = some (.int .i64 23)) ∧
  (w.cell? ⟨0, 0, none⟩ = some (.int .i64 63) ∧ w.cell? ⟨0, 1, none⟩ = some (.int .i64 1)) ∧
  1 < w.heap.size ∧ 2 < w.heap.size ∧ 0 < w.heap.size
theorem Glo.keep {n : Nat} {w w' : World} (h : Glo w) (hb : Below n w w') (hn : w.heap.size ≤ n) : Glo w' := by
  obtain ⟨⟨a0, a1⟩, ⟨b0, b1⟩, ⟨c0, c1⟩, h1, h2, h3⟩ := h
  have := hb.size
  refine ⟨⟨?_, ?_⟩, ⟨?_, ?_⟩, ⟨?_, ?_⟩, by omega, by omega, by omega⟩
  · rw [hb.cell (p := ⟨_, 0, none⟩) (by simp; omega)]; exact a0
  · rw [hb.cell (p := ⟨_, 1, none⟩) (by simp; omega)]; exact a1
  · rw [hb.cell (p := ⟨_, 0, none⟩) (by simp; omega)]; exact b0
  · rw [hb.cell (p := ⟨_, 1, none⟩) (by simp; omega)]; exact b1
  · rw [hb.cell (p := ⟨_, 0, none⟩) (by simp; omega)]; exact c0
  · rw [hb.cell (p := ⟨_, 1, none⟩) (by simp; omega)]; exact c1
theorem Glo.keep' {w1 w2 : World} (h : Glo w1) (hb : Below w1.heap.size w1 w2) : Glo w2 := h.keep hb (Nat.le_refl _)
theorem Glo.alloc {w : World} (h : Glo w) (o : Obj) : Glo (w.alloc o) := h.keep ((Below.refl _ _).alloc (Nat.le_refl _) _) (Nat.le_refl _)

set_option maxHeartbeats 400000 in
theorem isSlot_any (s : Int) (w : World) : Calls Tryd.prog 77 #[.int .i64 s] w fun e w' => e = .returned (.bool (isS s)) ∧ w = w' := by
  by_cases h1 : 0 ≤ s
  · go_enter Tryd.func77, Tryd.ntmps77
    go_wp2
    go_ret
    exact ⟨ret_bool (by simp [isS, h1]), rfl⟩
  · have hd : decide (0 ≤ s) = false := by simpa using h1
    go_enter Tryd.func77, Tryd.ntmps77
    go_wp2
    go_ret
    exact ⟨ret_bool (by simp [isS]; omega), rfl⟩

set_option maxHeartbeats 400000 in
theorem slot_any (x : Int) (w : World) (hg : Glo w) (h0 : 0 ≤ x) (h1 : x ≤ 18446744073709551615) :
    Calls Tryd.prog 55 #[.int .u64 x] w fun e w' => e = .returned (.int .i64 (slotI x)) ∧ Below w.heap.size w w' := by
  obtain ⟨-, ⟨c0, c1⟩, -, -, hs, -⟩ := hg
  obtain ⟨k0, k1⟩ := slotI_in x
  have HG := Lib.hid (get_slot x h0)
  go_enter Tryd.func55, Tryd.ntmps55
  go_wp2_with fail
  refine (get_any 40 23 x _ (by decide) (by decide) h0 h1).mono ?_
  rintro e w1 ⟨rfl, hb⟩
  rw [HG.out]
  go_wp2
  go_ret
  exact ⟨rfl, hb⟩

set_option maxHeartbeats 400000 in
theorem version_any (x : Int) (w : World) (hg : Glo w) (h0 : 0 ≤ x) (h1 : x ≤ 18446744073709551615) :
    Calls Tryd.prog 34 #[.int .u64 x] w fun e w' => e = .returned (.int .i64 (verI x)) ∧ Below w.heap.size w w' := by
  obtain ⟨⟨c0, c1⟩, -, -, hs, -, -⟩ := hg
  obtain ⟨k0, k1⟩ := verI_in x
  have HG := Lib.hid (get_version x h0)
  go_enter Tryd.func34, Tryd.ntmps34
  go_wp2_with fail
  refine (get_any 0 40 x _ (by decide) (by decide) h0 h1).mono ?_
  rintro e w1 ⟨rfl, hb⟩
  rw [HG.out]
  go_wp2
  go_ret
  exact ⟨rfl, hb⟩

set_option maxHeartbeats 400000 in
theorem isMarked_any (x : Int) (w : World) (hg : Glo w) (h0 : 0 ≤ x) (h1 : x ≤ 18446744073709551615) :
    Calls Tryd.prog 33 #[.int .u64 x] w fun e w' => e = .returned (.bool (markB x)) ∧ Below w.heap.size w w' := by
  obtain ⟨-, -, ⟨c0, c1⟩, -, -, hs⟩ := hg
  have HG := Lib.hid (mark_one x h0 h1)
  go_enter Tryd.func33, Tryd.ntmps33
  go_wp2_with fail
  refine (get_any 63 1 x _ (by decide) (by decide) h0 h1).mono ?_
  rintro e w1 ⟨rfl, hb⟩
  generalize getI 63 1 x = y at *
  go_wp2
  go_ret
  exact ⟨ret_bool (by rw [← HG.out]; rfl), hb⟩

theorem hold3 {n : Nat} {w w1 w2 : World} {x y z : Value} (c0 : w1.cell? ⟨n, 0, none⟩ = some x) (c1 : w1.cell? ⟨n, 1, none⟩ = some y) (c2 : w1.cell? ⟨n, 2, none⟩ = some z) (hB : Below n w w1) (hs : n < w1.heap.size) (hb : Below w1.heap.size w1 w2) :
    w2.cell? ⟨n, 0, none⟩ = some x ∧ w2.cell? ⟨n, 1, none⟩ = some y ∧ w2.cell? ⟨n, 2, none⟩ = some z ∧ Below n w w2 ∧ n < w2.heap.size :=
  ⟨by rw [hb.cell (p := ⟨n, 0, none⟩) hs]; exact c0, by rw [hb.cell (p := ⟨n, 1, none⟩) hs]; exact c1, by rw [hb.cell (p := ⟨n, 2, none⟩) hs]; exact c2, hB.trans (hb.mono (by omega)), by have := hb.size; omega⟩

/-- A block of the call's own that may be written. -/
theorem thaw3 {n : Nat} {w1 w2 : World} (f0 : w1.frozen? ⟨n, 0, none⟩ = false) (f1 : w1.frozen? ⟨n, 1, none⟩ = false) (f2 : w1.frozen? ⟨n, 2, none⟩ = false) (hs : n < w1.heap.size) (hb : Below w1.heap.size w1 w2) :
    w2.frozen? ⟨n, 0, none⟩ = false ∧ w2.frozen? ⟨n, 1, none⟩ = false ∧ w2.frozen? ⟨n, 2, none⟩ = false :=
  ⟨by rw [hb.frozen (p := ⟨n, 0, none⟩) hs]; exact f0, by rw [hb.frozen (p := ⟨n, 1, none⟩) hs]; exact f1, by rw [hb.frozen (p := ⟨n, 2, none⟩) hs]; exact f2⟩

set_option maxHeartbeats 400000 in
theorem linkIs_any (m : Bool) (s v : Int) (w : World) :
    Calls Tryd.prog 73 #[.agg #[.bool m, .int .i64 s, .int .i64 v]] w fun e w' => e = .returned (.bool (isL s v)) ∧ Below w.heap.size w w' := by
  cases hS : isS s
  · have H := Lib.hid hS
    go_enter Tryd.func73, Tryd.ntmps73
    go_wp2_with fail
    refine (isSlot_any s _).mono ?_
    rintro e w1 ⟨rfl, rfl⟩
    rw [H.out]
    go_wp2
    go_ret
    exact ⟨ret_bool (by have := H.out; simp [isS] at this; simp [isL]; omega), (Below.refl _ _).alloc (Nat.le_refl _) _⟩
  · obtain ⟨k0, k1⟩ := isS_parts hS
    have H := Lib.hid hS
    clear hS
    by_cases h2 : 0 ≤ v
    · go_enter Tryd.func73, Tryd.ntmps73
      go_wp2_with fail
      refine (isSlot_any s _).mono ?_
      rintro e w1 ⟨rfl, rfl⟩
      rw [H.out]
      go_wp2
      go_ret
      exact ⟨ret_bool (by simp [isL, h2, k0, k1]), (Below.refl _ _).alloc (Nat.le_refl _) _⟩
    · have hd : decide (0 ≤ v) = false := by simpa using h2
      go_enter Tryd.func73, Tryd.ntmps73
      go_wp2_with fail
      refine (isSlot_any s _).mono ?_
      rintro e w1 ⟨rfl, rfl⟩
      rw [H.out]
      go_wp2
      go_ret
      exact ⟨ret_bool (by simp [isL]; omega), (Below.refl _ _).alloc (Nat.le_refl _) _⟩

/-- The three Puts that make a link's word. -/
theorem put1 (v : Int) (w : World) (h0 : 0 ≤ v) (h1 : v ≤ 1099511627775) :
    Calls Tryd.prog 74 #[.agg #[.int .i64 0, .int .i64 40], .int .u64 0, .int .u64 v] w fun e w' => e = .returned (.tuple #[.int .u64 v, .bool true]) ∧ Below w.heap.size w w' := by
  have := put_yes 0 40 0 v w (by decide) (by decide) max_parts.2.2.2.1 (by decide) (by decide) h0 (by rw [max_parts.1]; exact h1)
  rw [put_version v h0] at this
  exact this
theorem put2 (v s : Int) (w : World) (h0 : 0 ≤ v) (h1 : v ≤ 1099511627775) (h2 : 0 ≤ s) (h3 : s ≤ 8388607) :
    Calls Tryd.prog 74 #[.agg #[.int .i64 40, .int .i64 23], .int .u64 v, .int .u64 s] w fun e w' => e = .returned (.tuple #[.int .u64 (v + s * 1099511627776), .bool true]) ∧ Below w.heap.size w w' := by
  have := put_yes 40 23 v s w (by decide) (by decide) max_parts.2.2.2.2.1 h0 (by omega) h2 (by rw [max_parts.2.1]; exact h3)
  rw [put_slot v s h0 h1 h2] at this
  exact this
theorem put3 (x : Int) (w : World) (h0 : 0 ≤ x) (h1 : x < 9223372036854775808) :
    Calls Tryd.prog 74 #[.agg #[.int .i64 63, .int .i64 1], .int .u64 x, .int .u64 1] w fun e w' => e = .returned (.tuple #[.int .u64 (x + 9223372036854775808), .bool true]) ∧ Below w.heap.size w w' := by
  have := put_yes 63 1 x 1 w (by decide) (by decide) max_parts.2.2.2.2.2 h0 (by omega) (by decide) (by rw [max_parts.2.2.1]; decide)
  rw [put_mark x h0 h1] at this
  exact this

set_option maxHeartbeats 800000 in
theorem word_any (m : Bool) (s v : Int) (w : World) (hg : Glo w) :
    Calls Tryd.prog 60 #[.agg #[.bool m, .int .i64 s, .int .i64 v]] w fun e w' => e = .returned (.int .u64 (wordI m s v)) ∧ Below w.heap.size w w' := by
  cases h : isL s v
  · have H := Lib.hid h
    clear h
    go_enter Tryd.func60, Tryd.ntmps60
    go_wp2_with fail
    refine (linkIs_any m s v _).mono ?_
    rintro e w1 ⟨rfl, hb⟩
    rw [H.out]
    go_wp2
    go_ret
    exact ⟨ret_int (wordI_no H.out).symm, ((Below.refl _ _).alloc (Nat.le_refl _) _).trans (hb.mono (by simp))⟩
  · have hp := isL_parts h
    have H := Lib.hid h
    clear h
    obtain ⟨k0, k1, k2, k3⟩ := hp
    have hA := hg.alloc (.cells #[.bool m, .int .i64 s, .int .i64 v] 123)
    clear hg
    go_enter Tryd.func60, Tryd.ntmps60
    go_wp2_with fail
    refine (linkIs_any m s v _).mono ?_
    rintro e w1 ⟨rfl, hb⟩
    have hA1 := hA.keep' hb
    obtain ⟨d0, d1, d2, hB, hs⟩ := hold3 (n := w.heap.size) (w := w) (x := .bool m) (y := .int .i64 s) (z := .int .i64 v) (by simp) (by simp) (by simp) ((Below.refl _ _).alloc (Nat.le_refl _) _) (by simp) hb
    clear hb hA
    rw [H.out]
    obtain ⟨⟨a0, a1⟩, ⟨b0, b1⟩, ⟨c0, c1⟩, g1, g2, g3⟩ := id hA1
    go_wp2_with fail
    refine (put1 v _ k2 k3).mono ?_
    rintro e w2 ⟨rfl, hb⟩
    have hA2 := hA1.keep' hb
    obtain ⟨e0, e1, e2, hB2, hs2⟩ := hold3 d0 d1 d2 hB hs hb
    clear hb hA1 d0 d1 d2 hB hs a0 a1 b0 b1 c0 c1 g1 g2 g3
    obtain ⟨⟨a0, a1⟩, ⟨b0, b1⟩, ⟨c0, c1⟩, g1, g2, g3⟩ := id hA2
    go_wp2_with fail
    refine (put2 v s _ k2 k3 k0 k1).mono ?_
    rintro e w3 ⟨rfl, hb⟩
    have hA3 := hA2.keep' hb
    obtain ⟨d0, d1, d2, hB, hs⟩ := hold3 e0 e1 e2 hB2 hs2 hb
    clear hb hA2 e0 e1 e2 hB2 hs2 a0 a1 b0 b1 c0 c1 g1 g2 g3
    obtain ⟨⟨a0, a1⟩, ⟨b0, b1⟩, ⟨c0, c1⟩, g1, g2, g3⟩ := id hA3
    have q0 : 0 ≤ v + s * 1099511627776 := by omega
    have q1 : v + s * 1099511627776 < 9223372036854775808 := by omega
    cases m
    · have HW := Lib.hid (wordI_yes (m := false) H.out)
      clear hA3
      go_wp2_with fail
      go_ret
      exact ⟨ret_int (by rw [HW.out]; simp [bitI]), hB⟩
    · have HW := Lib.hid (wordI_yes (m := true) H.out)
      clear hA3
      go_wp2_with fail
      refine (put3 _ _ q0 q1).mono ?_
      rintro e w4 ⟨rfl, hb⟩
      go_wp2_with fail
      go_ret
      exact ⟨ret_int (by rw [HW.out]; simp [bitI]), hB.trans (hb.mono (by omega))⟩
end Go.Proofs.YtlhhnaccigamjaaDoor

/- Contracts of functions of layer 2 that go by the others: To, Marked. -/
namespace Go.Proofs.YtlhhnaccigamjaaDoor
open Go.RowKit
set_option maxRecDepth 100000

set_option maxHeartbeats 400000 in
theorem to_any (s v : Int) (w : World) (hg : Glo w) :
    Calls Tryd.prog 36 #[.int .i64 s, .int .i64 v] w fun e w' => e = .returned (.int .u64 (wordI false s v)) ∧ Below w.heap.size w w' := by
  go_enter Tryd.func36, Tryd.ntmps36
  go_wp2_with fail
  refine (word_any false s v _ hg).mono ?_
  rintro e w1 ⟨rfl, hb⟩
  go_wp2_with fail
  go_ret
  exact ⟨rfl, hb⟩

set_option maxHeartbeats 400000 in
theorem marked_any (x s v : Int) (w : World) (hg : Glo w) (h0 : 0 ≤ x) (h1 : x ≤ 18446744073709551615) :
    Calls Tryd.prog 54 #[.int .u64 x, .int .i64 s, .int .i64 v] w fun e w' => e = .returned (.int .u64 (markedW x s v)) ∧ Below w.heap.size w w' := by
  cases h : markB x
  · have hm : markedW x s v = wordI true s v := by simp [markedW, h]
    have H := Lib.hid h
    have HM := Lib.hid hm
    clear h hm
    go_enter Tryd.func54, Tryd.ntmps54
    go_wp2_with fail
    refine (isMarked_any x _ hg h0 h1).mono ?_
    rintro e w1 ⟨rfl, hb⟩
    rw [H.out]
    go_wp2_with fail
    refine (word_any true s v _ (hg.keep' hb)).mono ?_
    rintro e w2 ⟨rfl, hb2⟩
    go_wp2_with fail
    go_ret
    exact ⟨ret_int HM.out.symm, hb.trans (hb2.mono (by have := hb.size; omega))⟩
  · have hm : markedW x s v = x := by simp [markedW, h]
    have H := Lib.hid h
    have HM := Lib.hid hm
    clear h hm
    go_enter Tryd.func54, Tryd.ntmps54
    go_wp2_with fail
    refine (isMarked_any x _ hg h0 h1).mono ?_
    rintro e w1 ⟨rfl, hb⟩
    rw [H.out]
    go_wp2_with fail
    go_ret
    exact ⟨ret_int HM.out.symm, hb⟩
end Go.Proofs.YtlhhnaccigamjaaDoor

/- Threads: contracts of New, To, Mark, Lead. -/
namespace Go.Proofs.YtlhhnaccigamjaaDoor
open Go.RowKit Go.Maps
set_option maxRecDepth 100000


section
variable {w0 w : World} {L : List Item}
set_option maxHeartbeats 1600000 in
theorem newNo_c (k s b h l : Int) (hc : chkI k s b h l ≠ 0) (w : World) :
    Calls Tryd.prog 8 #[.agg #[.int .i64 k, .int .i64 s, .int .i64 b, .int .i64 h, .int .i64 l]] w fun o w' => o = .returned (.pointer none) ∧ Below w.heap.size w w' := by
  have hF := (Fr.start w).push w.heap.size rfl [.int .i64 k, .int .i64 s, .int .i64 b, .int .i64 h, .int .i64 l] 23
  have r := hF.rule 0 rfl
  have hn : (chkI k s b h l != 0) = true := by simpa using hc
  go_enter Tryd.func8, Tryd.ntmps8
  go_wp2_with fail
  refine (check_any k s b h l _).mono ?_
  rintro o w1 ⟨rfl, hb⟩
  replace hF := hF.over hb
  clear hb r
  go_wp2_with fail
  go_ret
  exact ⟨rfl, hF.below⟩

set_option maxHeartbeats 1600000 in
theorem newYes_c (k s b h l : Int) (hc : chkI k s b h l = 0) (hE : Env w0 L w) :
    Calls Tryd.prog 8 #[.agg #[.int .i64 k, .int .i64 s, .int .i64 b, .int .i64 h, .int .i64 l]] w fun o w' => ∃ c q F, o = .returned (.pointer (some ⟨c, 0, none⟩)) ∧ Env w0 (coreI c k s b h l 0 0 0 0 q :: queueI q F [] 2 :: L) w' := by
  have HC := Lib.hid hc
  clear hc
  have hE1 := hE.box w.heap.size rfl [.int .i64 k, .int .i64 s, .int .i64 b, .int .i64 h, .int .i64 l] 23
  clear hE
  have r := hE1.rule 0 rfl
  go_enter Tryd.func8, Tryd.ntmps8
  go_wp2_with fail
  refine (check_any k s b h l _).mono ?_
  rintro o w1 ⟨rfl, hb⟩
  rw [HC.out]
  replace hE1 := hE1.over hb
  clear hb r
  generalize w.heap.size = X at *
  go_wp2_with fail
  refine Ord3.wp_chain [?_, ?_, ?_, ?_, ?_] [1, 2, 3, 4] (fun w' => Blk 0 w' X [.int .i64 k, .int .i64 s, .int .i64 b, .int .i64 h, .int .i64 l]) (Ord3.Stage fun κs => [Env w0 (boxI X [.int .i64 k, .int .i64 s, .int .i64 b, .int .i64 h, .int .i64 l] :: L), fun w' => ∃ q, κs.getD 0 undef = .pointer (some ⟨q, 0, none⟩) ∧ ∃ F, Env w0 (queueI q F [] 2 :: boxI X [.int .i64 k, .int .i64 s, .int .i64 b, .int .i64 h, .int .i64 l] :: L) w', fun w' => ∃ q, κs.getD 1 undef = (.agg #[.int .i64 k, .int .i64 s, .int .i64 b, .int .i64 h, .int .i64 l, .int .i64 0, .int .i64 0, .int .i64 0, .int .i64 0, .pointer (some ⟨q, 0, none⟩)]) ∧ ∃ F, Env w0 (queueI q F [] 2 :: boxI X [.int .i64 k, .int .i64 s, .int .i64 b, .int .i64 h, .int .i64 l] :: L) w', fun w' => ∃ c, κs.getD 2 undef = .pointer (some ⟨c, 0, none⟩) ∧ ∃ q F, Env w0 (coreI c k s b h l 0 0 0 0 q :: queueI q F [] 2 :: boxI X [.int .i64 k, .int .i64 s, .int .i64 b, .int .i64 h, .int .i64 l] :: L) w', fun w' => ∃ c, κs.getD 3 undef = .pointer (some ⟨c, 0, none⟩) ∧ ∃ q F, Env w0 (coreI c k s b h l 0 0 0 0 q :: queueI q F [] 2 :: boxI X [.int .i64 k, .int .i64 s, .int .i64 b, .int .i64 h, .int .i64 l] :: L) w']) (by kernel_rfl) (by kernel_rfl) (by kernel_rfl) (hE1.drew.get 0 rfl) ⟨_, rfl, hE1.drew⟩ (fun hT => ?_)
  rotate_left 5
  have hT9 := Lib.hid hT
  clear hT
  repeat (first
    | (focus (refine Ord3.in_value (v := ?_) hT9.out (by decide) ?_ (by rfl) ?_ ?_; rotate_left 2; (focus (intro w5 hS; have r := Blk.rule hS; go_simp <;> with_reducible rfl)); rotate_right; (focus rfl); (try simp only [Act.put, List.setIfInBounds_toArray, List.set_cons_zero, List.set_cons_succ])))
    | (focus (refine Ord3.in_off hT9.out (by decide) ?_ (by rfl) ?_; (focus rfl); (try simp only [Act.put, List.setIfInBounds_toArray, List.set_cons_zero, List.set_cons_succ]))))
  refine Ord3.in_turn (fun u => ∃ q, u = .pointer (some ⟨q, 0, none⟩)) _ ⟨0, rfl⟩ hT9.out rfl (by decide) (by rfl) ?_ (Or.inl rfl) (by rfl) ?_ ?_
  · rfl
  · rintro w7 hC7 ⟨P7, hP7, hA7⟩
    cases hP7
    go_simp
    simp only [Ord3.Lands]
    refine (newQ_any (xs := []) (A := none) (cap := 0) (by simp) Row3.nil).mono ?_
    rintro o w8 ⟨q8, F8, k8, rfl, hrm, hQ, hb8, hF8⟩
    have hk8 := hrm.unique (Rm.same (by simp))
    subst hk8
    have hE8 := hA7.madeQ hQ hF8 hb8
    exact ⟨_, rfl, ⟨q8, rfl⟩, hE8.get 1 rfl, _, rfl, q8, rfl, F8, hE8⟩
  rintro _ ⟨q9, rfl⟩
  (try simp only [Act.put, List.setIfInBounds_toArray, List.set_cons_zero, List.set_cons_succ])
  refine Ord3.in_turn (fun u => ∃ q, u = (.agg #[.int .i64 k, .int .i64 s, .int .i64 b, .int .i64 h, .int .i64 l, .int .i64 0, .int .i64 0, .int .i64 0, .int .i64 0, .pointer (some ⟨q, 0, none⟩)])) _ ⟨0, rfl⟩ hT9.out rfl (by decide) (by rfl) ?_ (Or.inr ⟨_, 1, [], rfl, by kernel_rfl, by kernel_rfl, rfl⟩) (by rfl) ?_ ?_
  · rfl
  · rintro w7 hC7 ⟨P7, hP7, hA7⟩
    cases hP7
    obtain ⟨q8, he, F8, hA7⟩ := hA7
    cases he
    go_simp
    simp only [Ord3.Lands]
    exact ⟨⟨_, rfl⟩, hC7, _, rfl, q9, rfl, F8, hA7⟩
  rintro _ ⟨q10, rfl⟩
  (try simp only [Act.put, List.setIfInBounds_toArray, List.set_cons_zero, List.set_cons_succ])
  refine Ord3.in_turn (fun u => ∃ c, u = .pointer (some ⟨c, 0, none⟩)) _ ⟨0, rfl⟩ hT9.out rfl (by decide) (by rfl) ?_ (Or.inr ⟨_, 2, [], rfl, by kernel_rfl, by kernel_rfl, rfl⟩) (by rfl) ?_ ?_
  · rfl
  · rintro w7 hC7 ⟨P7, hP7, hA7⟩
    cases hP7
    obtain ⟨q8, he, F8, hA7⟩ := hA7
    cases he
    go_simp
    simp only [Ord3.Lands]
    have hE8 := hA7.box w7.heap.size rfl (crv k s b h l 0 0 0 0 q10) 98
    exact ⟨⟨_, rfl⟩, hE8.get 2 rfl, _, rfl, w7.heap.size, rfl, q10, F8, hE8⟩
  rintro _ ⟨c8, rfl⟩
  (try simp only [Act.put, List.setIfInBounds_toArray, List.set_cons_zero, List.set_cons_succ])
  refine Ord3.in_turn (fun u => ∃ c, u = .pointer (some ⟨c, 0, none⟩)) _ ⟨0, rfl⟩ hT9.out rfl (by decide) (by rfl) ?_ (Or.inr ⟨_, 3, [], rfl, by kernel_rfl, by kernel_rfl, rfl⟩) (by rfl) ?_ ?_
  · rfl
  · rintro w7 hC7 ⟨P7, hP7, hA7⟩
    cases hP7
    obtain ⟨c7, he, q8, F8, hA7⟩ := hA7
    cases he
    go_simp
    simp only [Ord3.Lands]
    exact ⟨⟨_, rfl⟩, hC7, _, rfl, c8, rfl, q8, F8, hA7⟩
  rintro _ ⟨c9, rfl⟩
  (try simp only [Act.put, List.setIfInBounds_toArray, List.set_cons_zero, List.set_cons_succ])
  refine Ord3.in_nil rfl ?_
  rintro w9 hC9 ⟨P9, hP9, hA9⟩
  cases hP9
  obtain ⟨c8, he, q8, F8, hA9⟩ := hA9
  cases he
  clear hT9 hC9
  go_wp2_with fail
  go_ret
  exact ⟨c9, q8, F8, rfl, hA9.sub (.cons_cons _ (.cons_cons _ (.cons _ (List.Sublist.refl _))))⟩
end

section
variable {w : World} {c q : Nat} {k s b h l e r hs hi : Int}
set_option maxHeartbeats 1600000 in
theorem to_c (a d : Int) (hg : Glo w) (hb : Blk 0 w c (crv k s b h l e r hs hi q)) :
    Calls Tryd.prog 24 #[.pointer (some ⟨c, 0, none⟩), .agg #[.int .i64 a, .int .i64 d]] w fun o w' => o = .returned (.agg #[.int .u64 (wordI false a e), .int .i64 d, .bool false]) ∧ Below w.heap.size w w' := by
  have hcl := hb.1
  have HGB := Lib.hid fun (v : World) (hv : Below w.heap.size w v) => to_any a e v (hg.keep' hv)
  clear hg
  have hb1 := (hb.more (.cells [.int .i64 a, .int .i64 d].toArray 43)).more (.cells [.int .u64 0, .int .i64 0, .bool false].toArray 45)
  have hX := (Blk.new 0 w [.int .i64 a, .int .i64 d] 43).more (.cells [.int .u64 0, .int .i64 0, .bool false].toArray 45)
  have hB := (Blk.new 0 (w.alloc (.cells [.int .i64 a, .int .i64 d].toArray 43)) [.int .u64 0, .int .i64 0, .bool false] 45).at (n' := w.heap.size + 1) (by simp)
  have hE := ((Below.refl w.heap.size w).alloc (Nat.le_refl _) (.cells [.int .i64 a, .int .i64 d].toArray 43)).alloc (by simp) (.cells [.int .u64 0, .int .i64 0, .bool false].toArray 45)
  unfold crv at hb1
  clear hb
  go_enter Tryd.func24, Tryd.ntmps24
  go_wp2_with fail
  refine Ord.wp_chain [10] (fun w' => Below w.heap.size w w' ∧ Blk 0 w' c [.int .i64 k, .int .i64 s, .int .i64 b, .int .i64 h, .int .i64 l, .int .i64 e, .int .i64 r, .int .i64 hs, .int .i64 hi, .pointer (some ⟨q, 0, none⟩)] ∧ Blk 0 w' w.heap.size [.int .i64 a, .int .i64 d]) (fun j w' => Blk 0 w' (w.heap.size + 1) (if j = 0 then [.int .u64 0, .int .i64 0, .bool false] else [.int .u64 (wordI false a e), .int .i64 d, .bool false])) (by kernel_rfl) (by kernel_rfl) (by kernel_rfl) ⟨hE.drew, hb1.drew, hX.drew⟩ hB.drew (fun hT => ?_)
  have hT9 := Lib.hid hT
  clear hT
  repeat (first
    | (refine Ord.ch_value (v := ?_) hT9.out (by decide) (by rfl) ?_ ?_; rotate_left; (focus (intro w5 hS; have r := Blk.rule hS.2.1; have r2 := Blk.rule hS.2.2; go_simp <;> with_reducible rfl)); (try simp only [Act.put, List.setIfInBounds_toArray, List.set_cons_zero, List.set_cons_succ]))
    | (refine Ord.ch_off hT9.out (by decide) (by rfl) ?_; (try simp only [Act.put, List.setIfInBounds_toArray, List.set_cons_zero, List.set_cons_succ]))
    | (refine Ord.ch_call (v := ?_) (f := ?_) (args := ?_) hT9.out (by decide) (by rfl) ?_ ?_ ?_; rotate_left 3; (focus (intro w5 hS; have r := Blk.rule hS.2.1; have r2 := Blk.rule hS.2.2; go_simp; constructor <;> with_reducible rfl)); (focus (intro w5 hS; (first | (with_reducible refine (HGB.out _ hS.1).mono ?_; rintro o w6 ⟨rfl, hb6⟩; constructor; with_reducible rfl; exact ⟨⟨hS.1.trans (hb6.mono hS.1.size), hS.2.1.under hb6, hS.2.2.under hb6⟩, fun _ h => h.under hb6⟩)))); (try simp only [Act.put, List.setIfInBounds_toArray, List.set_cons_zero, List.set_cons_succ])))
  refine Ord.ch_turn (v := undef) 0 hT9.out rfl (by decide) (Or.inl rfl) (by rfl) ?_ ?_
  · rintro w5 hS hA2
    simp only [if_true] at hA2
    have r := hA2.rule
    have f0 := hA2.thaw 0 (by simp)
    have f1 := hA2.thaw 1 (by simp)
    have f2 := hA2.thaw 2 (by simp)
    have hz := hS.1.size
    go_simp
    refine ⟨rfl, ⟨?_, ?_, ?_⟩, ?_⟩
    · exact below_set (below_set (below_set hS.1 hz (by omega) _) (by simp; omega) (by omega) _) (by simp; omega) (by omega) _
    · exact ((hS.2.1.off (by omega) _).off (by omega) _).off (by omega) _
    · exact ((hS.2.2.off (by omega) _).off (by omega) _).off (by omega) _
    · exact Blk.put3 hA2 _ _ _
  (try simp only [Act.put, List.setIfInBounds_toArray, List.set_cons_zero, List.set_cons_succ])
  repeat (first
    | (refine Ord.ch_value (v := ?_) hT9.out (by decide) (by rfl) ?_ ?_; rotate_left; (focus (intro w5 hS; skip; go_simp <;> with_reducible rfl)); (try simp only [Act.put, List.setIfInBounds_toArray, List.set_cons_zero, List.set_cons_succ]))
    | (refine Ord.ch_off hT9.out (by decide) (by rfl) ?_; (try simp only [Act.put, List.setIfInBounds_toArray, List.set_cons_zero, List.set_cons_succ])))
  refine Ord.InText.nil fun w5 hS => ?_
  clear hT9
  obtain ⟨hC9, hA9⟩ := Ord.chain_end hS
  clear hS
  have q := hA9.rule
  simp only [show ¬ [10].length = 0 by decide, if_false] at q
  go_wp2
  exact bodyPost_ret (v := .agg #[.int .u64 (wordI false a e), .int .i64 d, .bool false]) (by simp [results, Tryd.results24, go_sem, q]) rfl ⟨rfl, hC9.1⟩
set_option maxHeartbeats 1600000 in
theorem markStays_c (v d2 : Int) (t : Bool) (a d : Int) (hv : InU v) (hm : markB v = true) (hg : Glo w) (hb : Blk 0 w c (crv k s b h l e r hs hi q)) :
    Calls Tryd.prog 25 #[.pointer (some ⟨c, 0, none⟩), .agg #[.int .u64 v, .int .i64 d2, .bool t], .agg #[.int .i64 a, .int .i64 d]] w fun o w' => o = .returned (.agg #[.int .u64 v, .int .i64 d2, .bool t]) ∧ Below w.heap.size w w' := by
  unfold InU at hv
  have HM := Lib.hid hm
  clear hm hb
  have hF := (((Fr.start w).push w.heap.size rfl [.int .u64 v, .int .i64 d2, .bool t] 45).push (w.heap.size + 1) (by simp) [.int .i64 a, .int .i64 d] 43).push (w.heap.size + 1 + 1) (by simp) [.int .u64 0, .int .i64 0, .bool false] 45
  have r := hF.rule 2 rfl
  have hg1 := hg.keep' hF.below
  go_enter Tryd.func25, Tryd.ntmps25
  go_wp2_with fail
  refine (isMarked_any v _ hg1 hv.1 hv.2).mono ?_
  rintro o w1 ⟨rfl, hb⟩
  rw [HM.out]
  replace hF := hF.over hb
  clear hb r hg1
  have r := hF.rule 2 rfl
  have rz := hF.rule 0 rfl
  have ff := hF.thaw 0 rfl (by omega)
  have f0 := ff 0 (by simp)
  have f1 := ff 1 (by simp)
  have f2 := ff 2 (by simp)
  clear ff
  go_wp2_with fail
  have hF9 := hF.put3 (by omega) (by simp; omega) (.int .u64 v) (.int .i64 d2) (.bool t)
  have q := hF9.rule 0 rfl
  exact bodyPost_ret (v := .agg #[.int .u64 v, .int .i64 d2, .bool t]) (by simp [results, Tryd.results25, go_sem, q]) rfl ⟨rfl, hF9.below⟩

set_option maxHeartbeats 1600000 in
theorem markNew_c (v d2 : Int) (t : Bool) (a d : Int) (hv : InU v) (hm : markB v = false) (hg : Glo w) (hb : Blk 0 w c (crv k s b h l e r hs hi q)) :
    Calls Tryd.prog 25 #[.pointer (some ⟨c, 0, none⟩), .agg #[.int .u64 v, .int .i64 d2, .bool t], .agg #[.int .i64 a, .int .i64 d]] w fun o w' => o = .returned (.agg #[.int .u64 (wordI true a e), .int .i64 d, .bool false]) ∧ Below w.heap.size w w' := by
  unfold InU at hv
  have hmw : markedW v a e = wordI true a e := by simp [markedW, hm]
  have HGB : Hid (∀ (x : World) (hx : Below w.heap.size w x), Calls Tryd.prog 54 #[.int .u64 v, .int .i64 a, .int .i64 e] x fun o w' => o = .returned (.int .u64 (wordI true a e)) ∧ Below x.heap.size x w') := Lib.hid fun x hx => by
    rw [← hmw]; exact marked_any v a e x (hg.keep' hx) hv.1 hv.2
  have HM := Lib.hid hm
  clear hm hmw
  have hF := (((Fr.start w).push w.heap.size rfl [.int .u64 v, .int .i64 d2, .bool t] 45).push (w.heap.size + 1) (by simp) [.int .i64 a, .int .i64 d] 43).push (w.heap.size + 1 + 1) (by simp) [.int .u64 0, .int .i64 0, .bool false] 45
  have r := hF.rule 2 rfl
  have hg1 := hg.keep' hF.below
  have hcl := hb.1
  have hb1 := hb.under hF.below
  clear hb hg
  go_enter Tryd.func25, Tryd.ntmps25
  go_wp2_with fail
  refine (isMarked_any v _ hg1 hv.1 hv.2).mono ?_
  rintro o w1 ⟨rfl, hb⟩
  rw [HM.out]
  replace hF := hF.over hb
  replace hb1 := hb1.under hb
  clear hb r hg1
  unfold crv at hb1
  go_wp2_with fail
  have hX := hF.blk 2 rfl (by omega)
  have hY := hF.blk 1 rfl (by omega)
  have hZ := hF.blk 0 rfl (by omega)
  have hE := hF.below
  clear hF
  refine Ord.wp_chain [12] (fun w' => Below w.heap.size w w' ∧ Blk 0 w' c [.int .i64 k, .int .i64 s, .int .i64 b, .int .i64 h, .int .i64 l, .int .i64 e, .int .i64 r, .int .i64 hs, .int .i64 hi, .pointer (some ⟨q, 0, none⟩)] ∧ Blk 0 w' w.heap.size [.int .u64 v, .int .i64 d2, .bool t] ∧ Blk 0 w' (w.heap.size + 1) [.int .i64 a, .int .i64 d]) (fun j w' => Blk 0 w' (w.heap.size + 1 + 1) (if j = 0 then [.int .u64 0, .int .i64 0, .bool false] else [.int .u64 (wordI true a e), .int .i64 d, .bool false])) (by kernel_rfl) (by kernel_rfl) (by kernel_rfl) ⟨hE.drew, hb1.drew, hX.drew, hY.drew⟩ hZ.drew (fun hT => ?_)
  have hT9 := Lib.hid hT
  clear hT
  repeat (first
    | (refine Ord.ch_value (v := ?_) hT9.out (by decide) (by rfl) ?_ ?_; rotate_left; (focus (intro w5 hS; have r1 := Blk.rule hS.2.1; have r2 := Blk.rule hS.2.2.1; have r3 := Blk.rule hS.2.2.2; go_simp <;> with_reducible rfl)); (try simp only [Act.put, List.setIfInBounds_toArray, List.set_cons_zero, List.set_cons_succ]))
    | (refine Ord.ch_off hT9.out (by decide) (by rfl) ?_; (try simp only [Act.put, List.setIfInBounds_toArray, List.set_cons_zero, List.set_cons_succ]))
    | (refine Ord.ch_call (v := ?_) (f := ?_) (args := ?_) hT9.out (by decide) (by rfl) ?_ ?_ ?_; rotate_left 3; (focus (intro w5 hS; have r1 := Blk.rule hS.2.1; have r2 := Blk.rule hS.2.2.1; have r3 := Blk.rule hS.2.2.2; go_simp; constructor <;> with_reducible rfl)); (focus (intro w5 hS; (first | (with_reducible refine (HGB.out _ hS.1).mono ?_; rintro o w6 ⟨rfl, hb6⟩; constructor; with_reducible rfl; exact ⟨⟨hS.1.trans (hb6.mono hS.1.size), hS.2.1.under hb6, hS.2.2.1.under hb6, hS.2.2.2.under hb6⟩, fun _ h => h.under hb6⟩)))); (try simp only [Act.put, List.setIfInBounds_toArray, List.set_cons_zero, List.set_cons_succ])))
  refine Ord.ch_turn (v := undef) 0 hT9.out rfl (by decide) (Or.inl rfl) (by rfl) ?_ ?_
  · rintro w5 hS hA2
    simp only [if_true] at hA2
    have r := hA2.rule
    have f0 := hA2.thaw 0 (by simp)
    have f1 := hA2.thaw 1 (by simp)
    have f2 := hA2.thaw 2 (by simp)
    have hz := hS.1.size
    go_simp
    refine ⟨rfl, ⟨?_, ?_, ?_, ?_⟩, ?_⟩
    · exact below_set (below_set (below_set hS.1 hz (by omega) _) (by simp; omega) (by omega) _) (by simp; omega) (by omega) _
    · exact ((hS.2.1.off (by omega) _).off (by omega) _).off (by omega) _
    · exact ((hS.2.2.1.off (by omega) _).off (by omega) _).off (by omega) _
    · exact ((hS.2.2.2.off (by omega) _).off (by omega) _).off (by omega) _
    · exact Blk.put3 hA2 _ _ _
  (try simp only [Act.put, List.setIfInBounds_toArray, List.set_cons_zero, List.set_cons_succ])
  repeat (first
    | (refine Ord.ch_value (v := ?_) hT9.out (by decide) (by rfl) ?_ ?_; rotate_left; (focus (intro w5 hS; skip; go_simp <;> with_reducible rfl)); (try simp only [Act.put, List.setIfInBounds_toArray, List.set_cons_zero, List.set_cons_succ]))
    | (refine Ord.ch_off hT9.out (by decide) (by rfl) ?_; (try simp only [Act.put, List.setIfInBounds_toArray, List.set_cons_zero, List.set_cons_succ])))
  refine Ord.InText.nil fun w5 hS => ?_
  clear hT9
  obtain ⟨hC9, hA9⟩ := Ord.chain_end hS
  clear hS
  have q := hA9.rule
  simp only [show ¬ [12].length = 0 by decide, if_false] at q
  go_wp2
  exact bodyPost_ret (v := .agg #[.int .u64 (wordI true a e), .int .i64 d, .bool false]) (by simp [results, Tryd.results25, go_sem, q]) rfl ⟨rfl, hC9.1⟩
end

set_option maxHeartbeats 1600000 in
theorem lead_c (v d : Int) (t : Bool) (w : World) (hv : InU v) (hg : Glo w) :
    Calls Tryd.prog 26 #[.agg #[.int .u64 v, .int .i64 d, .bool t]] w fun o w' => o = .returned (.agg #[.int .i64 (slotI v), .int .i64 d]) ∧ Below w.heap.size w w' := by
  unfold InU at hv
  have HGB := Lib.hid fun (x : World) (hx : Below w.heap.size w x) => slot_any v x (hg.keep' hx) hv.1 hv.2
  clear hg
  have hF := ((Fr.start w).push w.heap.size rfl [.int .u64 v, .int .i64 d, .bool t] 45).push (w.heap.size + 1) (by simp) [.int .i64 0, .int .i64 0] 43
  have hX := hF.blk 1 rfl (by omega)
  have hZ := hF.blk 0 rfl (by omega)
  have hE := hF.below
  clear hF
  go_enter Tryd.func26, Tryd.ntmps26
  go_wp2_with fail
  refine Ord.wp_chain [6] (fun w' => Below w.heap.size w w' ∧ Blk 0 w' w.heap.size [.int .u64 v, .int .i64 d, .bool t]) (fun j w' => Blk 0 w' (w.heap.size + 1) (if j = 0 then [.int .i64 0, .int .i64 0] else [.int .i64 (slotI v), .int .i64 d])) (by kernel_rfl) (by kernel_rfl) (by kernel_rfl) ⟨hE.drew, hX.drew⟩ hZ.drew (fun hT => ?_)
  have hT9 := Lib.hid hT
  clear hT
  repeat (first
    | (refine Ord.ch_value (v := ?_) hT9.out (by decide) (by rfl) ?_ ?_; rotate_left; (focus (intro w5 hS; have r := Blk.rule hS.2; go_simp <;> with_reducible rfl)); (try simp only [Act.put, List.setIfInBounds_toArray, List.set_cons_zero, List.set_cons_succ]))
    | (refine Ord.ch_off hT9.out (by decide) (by rfl) ?_; (try simp only [Act.put, List.setIfInBounds_toArray, List.set_cons_zero, List.set_cons_succ]))
    | (refine Ord.ch_call (v := ?_) (f := ?_) (args := ?_) hT9.out (by decide) (by rfl) ?_ ?_ ?_; rotate_left 3; (focus (intro w5 hS; have r := Blk.rule hS.2; go_simp; constructor <;> with_reducible rfl)); (focus (intro w5 hS; (first | (with_reducible refine (HGB.out _ hS.1).mono ?_; rintro o w6 ⟨rfl, hb6⟩; constructor; with_reducible rfl; exact ⟨⟨hS.1.trans (hb6.mono hS.1.size), hS.2.under hb6⟩, fun _ h => h.under hb6⟩)))); (try simp only [Act.put, List.setIfInBounds_toArray, List.set_cons_zero, List.set_cons_succ])))
  refine Ord.ch_turn (v := undef) 0 hT9.out rfl (by decide) (Or.inl rfl) (by rfl) ?_ ?_
  · rintro w5 hS hA2
    simp only [if_true] at hA2
    have r := hA2.rule
    have f0 := hA2.thaw 0 (by simp)
    have f1 := hA2.thaw 1 (by simp)
    have hz := hS.1.size
    go_simp
    refine ⟨rfl, ⟨?_, ?_⟩, ?_⟩
    · exact below_set (below_set hS.1 hz (by omega) _) (by simp; omega) (by omega) _
    · exact (hS.2.off (by omega) _).off (by omega) _
    · exact (hA2.set (i := 0) (by simp) _).set (i := 1) (by simp) _
  (try simp only [Act.put, List.setIfInBounds_toArray, List.set_cons_zero, List.set_cons_succ])
  repeat (first
    | (refine Ord.ch_value (v := ?_) hT9.out (by decide) (by rfl) ?_ ?_; rotate_left; (focus (intro w5 hS; skip; go_simp <;> with_reducible rfl)); (try simp only [Act.put, List.setIfInBounds_toArray, List.set_cons_zero, List.set_cons_succ]))
    | (refine Ord.ch_off hT9.out (by decide) (by rfl) ?_; (try simp only [Act.put, List.setIfInBounds_toArray, List.set_cons_zero, List.set_cons_succ])))
  refine Ord.InText.nil fun w5 hS => ?_
  clear hT9
  obtain ⟨hC9, hA9⟩ := Ord.chain_end hS
  clear hS
  have q := hA9.rule
  simp only [show ¬ [6].length = 0 by decide, if_false] at q
  go_wp2
  exact bodyPost_ret (v := .agg #[.int .i64 (slotI v), .int .i64 d]) (by simp [results, Tryd.results26, go_sem, q]) rfl ⟨rfl, hC9.1⟩
end Go.Proofs.YtlhhnaccigamjaaDoor

/- A drawn region whose operations each come to one value, whatever the order: walked once, in the order of the text. S says what every world on the way keeps (cells that are read, what has not turned); loads, arithmetic and calls (of functions that may make memory) go by it. -/
namespace Go.Proofs.YtlhhnaccigamjaaDoor
open Go
set_option maxRecDepth 100000

section
variable {P : Program} {ops : Array Oper} {Q : Exit → Act → World → Prop} {md : Region.Mode} {S : World → Prop}

/-- What a run comes to: the value v, or a call that comes to v; S is kept. -/
def LandsIn (P : Program) (S : World → Prop) (v : Value) : Result Next → Prop
  | .ok (.value u) w' => u = v ∧ S w'
  | .ok .skip w' => v = undef ∧ S w'
  | .ok (.enter f args) w' => Calls P f args w' fun e w'' => e = .returned v ∧ S w''
  | _ => False

/-- In frame a the operation comes to v from every world that meets S. -/
def Settles (P : Program) (ops : Array Oper) (S : World → Prop) (o : Oper) (v : Value) (a : Act) : Prop :=
  (Region.wanted o (yielded ops a.tmps) = true ∧ ∀ w, S w → LandsIn P S v ((execOp a.eval o).run P w)) ∨ (Region.wanted o (yielded ops a.tmps) = false ∧ v = undef)

theorem Settles.of_same {o : Oper} {v : Value} {a a' : Act} (h : Settles P ops S o v a) (he : execOp a'.eval o = execOp a.eval o)
    (hw : Region.wanted o (yielded ops a'.tmps) = Region.wanted o (yielded ops a.tmps)) : Settles P ops S o v a' := by
  unfold Settles at *
  rw [he, hw]
  exact h

theorem Settles.wpOp {i : Nat} {o : Oper} {v : Value} {a : Act} (hi : ops[i]? = some o) (h : Settles P ops S o v a) {K : Act → World → Prop} {w : World} (hS : S w)
    (hK : ∀ w', S w' → K (a.put o.dst v) w') : wpOp P ops Q i K a w := by
  unfold Go.wpOp
  simp only [hi]
  rcases h with ⟨hw, hv⟩ | ⟨hw, rfl⟩
  · simp only [hw, if_true]
    have := hv w hS
    refine .inl ?_
    unfold Oper.wp
    generalize (execOp a.eval o).run P w = r at *
    cases r with
    | ok n w' =>
      cases n <;> simp only [LandsIn] at this <;> simp only [Oper.upon]
      case value u => obtain ⟨rfl, h2⟩ := this; exact hK _ h2
      case skip => obtain ⟨rfl, h2⟩ := this; exact hK _ h2
      case enter f args =>
        refine Calls.mono this fun e w'' he => ?_
        obtain ⟨rfl, h2⟩ := he
        exact hK _ h2
    | halt x w' => simp only [LandsIn] at this
  · simp only [hw, Bool.false_eq_true, if_false]
    exact hK _ hS

/-- Whatever order is picked: each operation comes to a value that hangs on the frame alone. -/
def Every (P : Program) (md : Region.Mode) (ops : Array Oper) (Q : Exit → Act → World → Prop) (S : World → Prop) : Nat → Array Bool → Act → Prop
  | 0, listed, a => Region.ready md ops listed = [] ∧ ∀ w, S w → Q .normal a w
  | fuel + 1, listed, a => (Region.ready md ops listed = [] → ∀ w, S w → Q .normal a w) ∧
    ∀ i ∈ Region.ready md ops listed, ∃ o v, ops[i]? = some o ∧ Settles P ops S o v a ∧ Every P md ops Q S fuel (listed.setIfInBounds i true) (a.put o.dst v)

theorem Every.sound : ∀ (fuel : Nat) (listed : Array Bool) (a : Act), Every P md ops Q S fuel listed a → ∀ w, S w → wpAny P md ops Q fuel listed a w
  | 0, _, _, h, w, hS => ⟨h.1, h.2 w hS⟩
  | fuel + 1, listed, a, h, w, hS => ⟨fun h0 => h.1 h0 w hS, fun i hi => by
      obtain ⟨o, v, ho, hs, hE⟩ := h.2 i hi
      exact hs.wpOp ho hS fun w' hS' => Every.sound fuel _ _ hE w' hS'⟩

theorem Every.first {i : Nat} {oi : Oper} {v : Value} (hi : ops[i]? = some oi) (hsel : ∀ (j : Nat) (o : Oper) cs b, ops[j]? = some o → o.op ≠ .select cs b) :
    ∀ (fuel : Nat) (listed : Array Bool) (a : Act),
      (∀ j oj, ops[j]? = some oj → j ≠ i → listed.getD j true = false → (∀ e ∈ oj.after, Region.binds md e = true → e.on ≠ i) → oi.apart ops oj = true) →
      i ∈ Region.ready md ops listed → Settles P ops S oi v a →
      Every P md ops Q S fuel (listed.setIfInBounds i true) (a.put oi.dst v) → Every P md ops Q S (fuel + 1) listed a := by
  intro fuel
  induction fuel with
  | zero =>
    intro listed a _ hr hy H
    refine ⟨fun h => (by rw [h] at hr; cases hr), fun j hj => ?_⟩
    by_cases hji : j = i
    · subst hji; exact ⟨oi, v, hi, hy, H⟩
    · have := ready_mono hj hji
      rw [H.1] at this
      cases this
  | succ fuel ih =>
    intro listed a hfree hr hy H
    refine ⟨fun h => (by rw [h] at hr; cases hr), fun j hj => ?_⟩
    by_cases hji : j = i
    · subst hji; exact ⟨oi, v, hi, hy, H⟩
    · obtain ⟨oj, u, hoj, hsj, hE⟩ := H.2 j (ready_mono hj hji)
      obtain ⟨hjun, oj', hoj', hall⟩ := mem_ready.1 hj
      obtain rfl : oj = oj' := Option.some.inj (hoj.symm.trans hoj')
      have hnot : ∀ e ∈ oj.after, Region.binds md e = true → e.on ≠ i := fun e he hb heq => by
        have h1 := hall e he hb
        have h0 := (mem_ready.1 hr).1
        rw [heq] at h1
        rcases Nat.lt_or_ge i listed.size with h' | h'
        · simp [h'] at h0 h1; rw [h0] at h1; cases h1
        · simp [Array.getElem?_eq_none h'] at h1
      have hap := hfree j oj hoj hji hjun hnot
      obtain ⟨p1, p2, p3⟩ := Oper.apart_spec hap
      have hfree' : ∀ k ok, ops[k]? = some ok → k ≠ i → (listed.setIfInBounds j true).getD k true = false →
          (∀ e ∈ ok.after, Region.binds md e = true → e.on ≠ i) → oi.apart ops ok = true := fun k ok hk hki hun hno => by
        refine hfree k ok hk hki ?_ hno
        by_cases hjk : j = k
        · subst hjk; exact hjun
        · rw [getD_set_ne true hjk] at hun; exact hun
      refine ⟨oj, u, hoj, hsj.of_same (execOp_put oj (fun cs b => hsel j oj cs b hoj) a oi.dst v p1).symm (wanted_put oj a oi.dst v p1).symm, ?_⟩
      refine ih (listed.setIfInBounds j true) (a.put oj.dst u) hfree' (ready_mono hr (Ne.symm hji)) (hy.of_same (execOp_put oi (fun cs b => hsel i oi cs b hi) a oj.dst u p3) (wanted_put oi a oj.dst u p3)) ?_
      rw [Array.setIfInBounds_comm _ _ hji, ← Act.put_comm a v u p2]
      exact hE

/-- The operations of the text from k on, in its order. -/
def firstK (n k : Nat) : Array Bool := Array.ofFn (n := n) fun i => decide (i.1 < k)
def textFits (md : Region.Mode) (ops : Array Oper) : Bool :=
  Region.noSelect ops && (List.range ops.size).all fun k => Region.free md ops (firstK ops.size k) k && (Region.ready md ops (firstK ops.size k)).contains k
def InText (P : Program) (md : Region.Mode) (ops : Array Oper) (Q : Exit → Act → World → Prop) (S : World → Prop) (rest : List Oper) (a : Act) : Prop :=
  ∀ k, k + rest.length = ops.size → ops.toList.drop k = rest → Every P md ops Q S rest.length (firstK ops.size k) a

theorem firstK_succ (n k : Nat) : (firstK n k).setIfInBounds k true = firstK n (k + 1) := by
  apply Array.ext
  · simp [firstK]
  · intro i h1 h2
    by_cases hik : i = k
    · subst hik
      simp [firstK]
    · have e := Array.getElem_setIfInBounds_ne (xs := firstK n k) (i := k) (j := i) (a := true) (by simpa using h1) (by omega)
      rw [e]
      simp only [firstK, Array.getElem_ofFn]
      congr 1
      apply propext
      omega

theorem InText.nil {a : Act} (h : ∀ w, S w → Q .normal a w) : InText P md ops Q S [] a := fun k hk _ => by
  refine ⟨?_, h⟩
  have hk' : k = ops.size := by simpa using hk
  subst hk'
  unfold Region.ready
  rw [List.filter_eq_nil_iff]
  intro i hi
  have : i < ops.size := by simpa using hi
  simp [firstK, this]

theorem InText.cons {o : Oper} {rest : List Oper} {a : Act} {v : Value} (hf : textFits md ops = true) (hs : Settles P ops S o v a) (h : InText P md ops Q S rest (a.put o.dst v)) : InText P md ops Q S (o :: rest) a := fun k hk hd => by
  unfold textFits at hf
  rw [Bool.and_eq_true, List.all_eq_true] at hf
  have hlt : k < ops.size := by simp at hk; omega
  have hf2 := hf.2 k (by simpa using hlt)
  rw [Bool.and_eq_true] at hf2
  have ho : ops[k]? = some o := by
    have h0 : (ops.toList.drop k)[0]? = some o := by rw [hd]; rfl
    simpa using h0
  have hsel : ∀ (j : Nat) (o : Oper) cs b, ops[j]? = some o → o.op ≠ .select cs b := Region.noSelect_spec hf.1
  refine Every.first ho hsel rest.length (firstK ops.size k) a (Region.free_spec ho hf2.1) (by simpa using hf2.2) hs ?_
  rw [firstK_succ]
  refine h (k + 1) (by simp at hk; omega) ?_
  rw [← List.drop_drop, hd]
  rfl

/-- The start. -/
theorem wp_text {id : Nat} {a : Act} {w : World} (hm : P.follows .mixedOrders = true) (hf : textFits .any ops = true) (hS : S w.drew) (h : textFits .any ops = true → InText P .any ops Q S ops.toList a) : (Code.region id ops true).wp P Q a w :=
  wp_region_any hm (by
    have h0 := h hf 0 (by simp) rfl
    have e : firstK ops.size 0 = Array.replicate ops.size false := by
      apply Array.ext
      · simp [firstK]
      · intro i h1 h2; simp [firstK]
    rw [e] at h0
    simpa using Every.sound _ _ _ h0 _ hS)

/-- One step each: a value (arithmetic, a load, a move). -/
theorem text_value {o : Oper} {rest : List Oper} {a : Act} {v : Value} (hf : textFits md ops = true) (hw : Region.wanted o (yielded ops a.tmps) = true) (hv : ∀ w, S w → (execOp a.eval o).run P w = .ok (.value v) w)
    (h : InText P md ops Q S rest (a.put o.dst v)) : InText P md ops Q S (o :: rest) a :=
  InText.cons hf (Or.inl ⟨hw, fun w hS => by rw [hv w hS]; exact ⟨rfl, hS⟩⟩) h
/-- .. an operation that is not wanted .. -/
theorem text_off {o : Oper} {rest : List Oper} {a : Act} (hf : textFits md ops = true) (hw : Region.wanted o (yielded ops a.tmps) = false) (h : InText P md ops Q S rest (a.put o.dst undef)) : InText P md ops Q S (o :: rest) a :=
  InText.cons hf (Or.inr ⟨hw, rfl⟩) h
/-- .. a call. -/
theorem text_call {o : Oper} {rest : List Oper} {a : Act} {v : Value} {f : FuncId} {args : Array Value} (hf : textFits md ops = true) (hw : Region.wanted o (yielded ops a.tmps) = true) (hr : ∀ w, S w → (execOp a.eval o).run P w = .ok (.enter f args) w)
    (hc : ∀ w, S w → Calls P f args w fun e w' => e = .returned v ∧ S w') (h : InText P md ops Q S rest (a.put o.dst v)) : InText P md ops Q S (o :: rest) a :=
  InText.cons hf (Or.inl ⟨hw, fun w hS => by rw [hr w hS]; exact hc w hS⟩) h
end
end Go.Proofs.YtlhhnaccigamjaaDoor

/- Threads: contracts of Hold, Take, Drop. -/
namespace Go.Proofs.YtlhhnaccigamjaaDoor
open Go.RowKit Go.Maps
set_option maxRecDepth 100000

section
variable {w0 w : World} {L : List Item} {c q kq : Nat} {F : Nat → Prop} {ql : List Trip} {k s b h l e r hs hi : Int}

set_option maxHeartbeats 1600000 in
theorem holdState_c (a d : Int) (hh : hs ≠ 0) (hb : Blk 0 w c (crv k s b h l e r hs hi q)) :
    Calls Tryd.prog 22 #[.pointer (some ⟨c, 0, none⟩), .agg #[.int .i64 a, .int .i64 d]] w fun o w' => o = .returned (.int .i64 10) ∧ Below w.heap.size w w' := by
  have hF := (Fr.start w).push w.heap.size rfl [.int .i64 a, .int .i64 d] 43
  have hb1 := hb.under hF.below
  have hn : (hs != 0) = true := by simpa using hh
  clear hb hh
  go_enter Tryd.func22, Tryd.ntmps22
  go_wp2_with fail
  refine (held_c hb1).mono ?_
  rintro o w1 ⟨rfl, hb⟩
  rw [hn]
  replace hF := hF.over hb
  clear hb hb1
  go_wp2_with fail
  go_ret
  exact ⟨rfl, hF.below.alloc hF.below.size _⟩

set_option maxHeartbeats 1600000 in
theorem holdArg_c (a d : Int) (hh : hs = 0) (ha : a < 1 ∨ s < a) (hb : Blk 0 w c (crv k s b h l e r hs hi q)) :
    Calls Tryd.prog 22 #[.pointer (some ⟨c, 0, none⟩), .agg #[.int .i64 a, .int .i64 d]] w fun o w' => o = .returned (.int .i64 1) ∧ Below w.heap.size w w' := by
  have hF := (Fr.start w).push w.heap.size rfl [.int .i64 a, .int .i64 d] 43
  have hb1 := hb.under hF.below
  have hn : (hs != 0) = false := by simpa using hh
  clear hh
  clear hb
  go_enter Tryd.func22, Tryd.ntmps22
  go_wp2_with fail
  refine (held_c hb1).mono ?_
  rintro o w1 ⟨rfl, hb⟩
  rw [hn]
  replace hF := hF.over hb
  replace hb1 := hb1.under hb
  clear hb
  unfold crv at hb1
  replace hF := hF.push w1.heap.size rfl [.int .i64 hs, .int .i64 hi] 43
  replace hb1 := hb1.more (.cells [.int .i64 hs, .int .i64 hi].toArray 43)
  have hX := hF.blk 1 rfl (by omega)
  have hE := hF.below
  clear hF
  go_wp2_with fail
  by_cases ha1 : a < 1
  · have hd : decide (a < 1) = true := by simpa using ha1
    refine wp_text (S := (fun w' => Below w.heap.size w w' ∧ Blk 0 w' c [.int .i64 k, .int .i64 s, .int .i64 b, .int .i64 h, .int .i64 l, .int .i64 e, .int .i64 r, .int .i64 hs, .int .i64 hi, .pointer (some ⟨q, 0, none⟩)] ∧ Blk 0 w' w.heap.size [.int .i64 a, .int .i64 d])) (by kernel_rfl) (by kernel_rfl) ⟨hE.drew, hb1.drew, hX.drew⟩ (fun hT => ?_)
    have hT9 := Lib.hid hT
    clear hT
    repeat (first
      | (refine text_value (v := ?_) hT9.out (by rfl) ?_ ?_; rotate_left; (focus (intro w5 hS; have r1 := Blk.rule hS.2.1; have r2 := Blk.rule hS.2.2; go_simp <;> with_reducible rfl)); (try simp only [Act.put, List.setIfInBounds_toArray, List.set_cons_zero, List.set_cons_succ]))
      | (refine text_off hT9.out (by rfl) ?_; (try simp only [Act.put, List.setIfInBounds_toArray, List.set_cons_zero, List.set_cons_succ]))
      | (refine text_call (v := ?_) (f := ?_) (args := ?_) hT9.out (by rfl) ?_ ?_ ?_; rotate_left 3; (focus (intro w5 hS; have r1 := Blk.rule hS.2.1; have r2 := Blk.rule hS.2.2; go_simp; constructor <;> with_reducible rfl)); (focus (intro w5 hS; (first | fail))); (try simp only [Act.put, List.setIfInBounds_toArray, List.set_cons_zero, List.set_cons_succ])))
    refine InText.nil fun w5 hS5 => ?_
    clear hT9
    go_wp2_with fail
    go_ret
    exact ⟨rfl, hS5.1⟩
  · have hd : decide (a < 1) = false := by simpa using ha1
    have hd2 : decide (s < a) = true := by simp; omega
    refine wp_text (S := (fun w' => Below w.heap.size w w' ∧ Blk 0 w' c [.int .i64 k, .int .i64 s, .int .i64 b, .int .i64 h, .int .i64 l, .int .i64 e, .int .i64 r, .int .i64 hs, .int .i64 hi, .pointer (some ⟨q, 0, none⟩)] ∧ Blk 0 w' w.heap.size [.int .i64 a, .int .i64 d])) (by kernel_rfl) (by kernel_rfl) ⟨hE.drew, hb1.drew, hX.drew⟩ (fun hT => ?_)
    have hT9 := Lib.hid hT
    clear hT
    repeat (first
      | (refine text_value (v := ?_) hT9.out (by rfl) ?_ ?_; rotate_left; (focus (intro w5 hS; have r1 := Blk.rule hS.2.1; have r2 := Blk.rule hS.2.2; go_simp <;> with_reducible rfl)); (try simp only [Act.put, List.setIfInBounds_toArray, List.set_cons_zero, List.set_cons_succ]))
      | (refine text_off hT9.out (by rfl) ?_; (try simp only [Act.put, List.setIfInBounds_toArray, List.set_cons_zero, List.set_cons_succ]))
      | (refine text_call (v := ?_) (f := ?_) (args := ?_) hT9.out (by rfl) ?_ ?_ ?_; rotate_left 3; (focus (intro w5 hS; have r1 := Blk.rule hS.2.1; have r2 := Blk.rule hS.2.2; go_simp; constructor <;> with_reducible rfl)); (focus (intro w5 hS; (first | fail))); (try simp only [Act.put, List.setIfInBounds_toArray, List.set_cons_zero, List.set_cons_succ])))
    refine InText.nil fun w5 hS5 => ?_
    clear hT9
    go_wp2_with fail
    go_ret
    exact ⟨rfl, hS5.1⟩

set_option maxHeartbeats 1600000 in
theorem holdYes_c (a d : Int) (hh : hs = 0) (ha : 1 ≤ a ∧ a ≤ s) (m : Nat) (hE : Env w0 L w) (hm : L[m]? = some (coreI c k s b h l e r hs hi q)) :
    Calls Tryd.prog 22 #[.pointer (some ⟨c, 0, none⟩), .agg #[.int .i64 a, .int .i64 d]] w fun o w' => o = .returned (.int .i64 0) ∧ Env w0 (L.set m (coreI c k s b h l e r a d q)) w' := by
  have hE1 := hE.box w.heap.size rfl [.int .i64 a, .int .i64 d] 43
  have hm1 : (boxI w.heap.size [.int .i64 a, .int .i64 d] :: L)[m + 1]? = some (coreI c k s b h l e r hs hi q) := hm
  have hn : (hs != 0) = false := by simpa using hh
  clear hh
  have hd : decide (a < 1) = false := by simp; omega
  have hd2 : decide (s < a) = false := by simp; omega
  clear hE
  go_enter Tryd.func22, Tryd.ntmps22
  go_wp2_with fail
  refine (held_c (hE1.get (m + 1) hm1)).mono ?_
  rintro o w1 ⟨rfl, hb⟩
  rw [hn]
  replace hE1 := hE1.over hb
  clear hb
  replace hE1 := hE1.box w1.heap.size rfl [.int .i64 hs, .int .i64 hi] 43
  generalize w.heap.size = X at *
  go_wp2_with fail
  generalize w1.heap.size = Y at *
  generalize w1.alloc _ = w2 at *
  have hm2 : (boxI Y [.int .i64 hs, .int .i64 hi] :: boxI X [.int .i64 a, .int .i64 d] :: L)[m + 2]? = some (coreI c k s b h l e r hs hi q) := hm
  have HCB : Hid (∀ v, Env w0 (boxI Y [.int .i64 hs, .int .i64 hi] :: boxI X [.int .i64 a, .int .i64 d] :: L) v → Blk 0 v c [.int .i64 k, .int .i64 s, .int .i64 b, .int .i64 h, .int .i64 l, .int .i64 e, .int .i64 r, .int .i64 hs, .int .i64 hi, .pointer (some ⟨q, 0, none⟩)]) := Lib.hid fun v hv => hv.get (m + 2) hm2
  refine wp_text (S := (Env w0 (boxI Y [.int .i64 hs, .int .i64 hi] :: boxI X [.int .i64 a, .int .i64 d] :: L))) (by kernel_rfl) (by kernel_rfl) hE1.drew (fun hT => ?_)
  have hT9 := Lib.hid hT
  clear hT
  repeat (first
    | (refine text_value (v := ?_) hT9.out (by rfl) ?_ ?_; rotate_left; (focus (intro w5 hS; have r1 := Blk.rule (HCB.out _ hS); have r2 := hS.rule 1 rfl; go_simp <;> with_reducible rfl)); (try simp only [Act.put, List.setIfInBounds_toArray, List.set_cons_zero, List.set_cons_succ]))
    | (refine text_off hT9.out (by rfl) ?_; (try simp only [Act.put, List.setIfInBounds_toArray, List.set_cons_zero, List.set_cons_succ]))
    | (refine text_call (v := ?_) (f := ?_) (args := ?_) hT9.out (by rfl) ?_ ?_ ?_; rotate_left 3; (focus (intro w5 hS; have r1 := Blk.rule (HCB.out _ hS); have r2 := hS.rule 1 rfl; go_simp; constructor <;> with_reducible rfl)); (focus (intro w5 hS; (first | fail))); (try simp only [Act.put, List.setIfInBounds_toArray, List.set_cons_zero, List.set_cons_succ])))
  refine InText.nil fun w5 hS5 => ?_
  clear hT9
  clear hE1
  have r1 := Blk.rule (HCB.out _ hS5)
  have r2 := hS5.rule 1 rfl
  have ff := hS5.thaw (m + 2) hm2
  have f7 := ff 7 (by simp [crv])
  have f8 := ff 8 (by simp [crv])
  clear ff
  go_wp2_with fail
  go_ret
  have hE9 := hS5.put (m + 2) hm2 (j := 7) (by simp [crv]) (.int .i64 a)
  have hml : m < L.length := (List.getElem?_eq_some_iff.1 hm).1
  have hE10 := hE9.put (m + 2) (by rw [List.getElem?_set_self (by simpa using hml)]) (j := 8) (by simp [crv]) (.int .i64 d)
  rw [List.set_set] at hE10
  exact ⟨rfl, hE10.sub (.cons _ (.cons _ (List.Sublist.refl _)))⟩

set_option maxHeartbeats 1600000 in
theorem takeNo_c (hh : hs = 0) (hb : Blk 0 w c (crv k s b h l e r hs hi q)) :
    Calls Tryd.prog 20 #[.pointer (some ⟨c, 0, none⟩)] w fun o w' => o = .returned (.tuple #[.agg #[.int .i64 hs, .int .i64 hi], .bool false]) ∧ Below w.heap.size w w' := by
  have hF := (Fr.start w).push w.heap.size rfl [.int .i64 0, .int .i64 0] 43
  have hb1 := hb.under hF.below
  have hn : (hs != 0) = false := by simpa using hh
  clear hb hh
  go_enter Tryd.func20, Tryd.ntmps20
  go_wp2_with fail
  refine (held_c hb1).mono ?_
  rintro o w1 ⟨rfl, hb⟩
  rw [hn]
  replace hF := hF.over hb
  clear hb hb1
  replace hF := hF.push w1.heap.size rfl [.int .i64 hs, .int .i64 hi] 43
  have hlt := hF.lt 1 rfl
  have hX := hF.blk 1 rfl (by omega)
  have hZ := hF.blk 0 rfl (by have := hF.below.size; have := hF.lt 1 rfl; simp at this; omega)
  have hE := hF.below
  clear hF
  go_upto_region 2 with fail
  generalize w1.alloc _ = w2 at *
  generalize w1.heap.size = Y at *
  have r0 := hX.rule
  have r1 := hZ.rule
  have f0 := hX.thaw 0 (by simp)
  have f1 := hX.thaw 1 (by simp)
  go_wp2_with fail
  have q := ((hX.set (i := 0) (by simp) (.int .i64 hs)).set (i := 1) (by simp) (.int .i64 hi)).rule
  exact bodyPost_ret (v := .tuple #[.agg #[.int .i64 hs, .int .i64 hi], .bool false]) (by simp [results, Tryd.results20, go_sem, q]) rfl ⟨rfl, below_set (below_set hE (by omega) (Nat.le_refl _) _) (by simp; omega) (Nat.le_refl _) _⟩

set_option maxHeartbeats 1600000 in
theorem takeYes_c (hh : hs ≠ 0) (m : Nat) (hE : Env w0 L w) (hm : L[m]? = some (coreI c k s b h l e r hs hi q)) :
    Calls Tryd.prog 20 #[.pointer (some ⟨c, 0, none⟩)] w fun o w' => o = .returned (.tuple #[.agg #[.int .i64 hs, .int .i64 hi], .bool true]) ∧ Env w0 (L.set m (coreI c k s b h l e r 0 0 q)) w' := by
  have hn : (hs != 0) = true := by simpa using hh
  have hml : m < L.length := (List.getElem?_eq_some_iff.1 hm).1
  have hE1 := hE.box w.heap.size rfl [.int .i64 0, .int .i64 0] 43
  have hm1 : (boxI w.heap.size [.int .i64 0, .int .i64 0] :: L)[m + 1]? = some (coreI c k s b h l e r hs hi q) := hm
  clear hE hh
  go_enter Tryd.func20, Tryd.ntmps20
  go_wp2_with fail
  refine (held_c (hE1.get (m + 1) hm1)).mono ?_
  rintro o w1 ⟨rfl, hb⟩
  rw [hn]
  replace hE1 := (hE1.over hb).box w1.heap.size rfl [.int .i64 hs, .int .i64 hi] 43
  clear hb
  generalize w.heap.size = X at *
  go_upto_region 2 with fail
  generalize w1.alloc _ = w2 at *
  generalize w1.heap.size = Y at *
  have hm2 : (boxI Y [.int .i64 hs, .int .i64 hi] :: boxI X [.int .i64 0, .int .i64 0] :: L)[m + 2]? = some (coreI c k s b h l e r hs hi q) := hm
  have rc := hE1.rule (m + 2) hm2
  unfold crv at rc
  have ff := hE1.thaw (m + 2) hm2
  have f7 := ff 7 (by simp [crv])
  have f8 := ff 8 (by simp [crv])
  clear ff
  go_upto_region 4 with fail
  have hE2 := hE1.put (m + 2) hm2 (j := 7) (by simp [crv]) (.int .i64 0)
  have hE3 := hE2.put (m + 2) (by rw [List.getElem?_set_self (by simpa using hml)]) (j := 8) (by simp [crv]) (.int .i64 0)
  rw [List.set_set] at hE3
  generalize World.setCell (World.setCell w2 ⟨c, 7, none⟩ _) ⟨c, 8, none⟩ _ = w3 at *
  replace hE3 : Env w0 (boxI Y [.int .i64 hs, .int .i64 hi] :: boxI X [.int .i64 0, .int .i64 0] :: L.set m (coreI c k s b h l e r 0 0 q)) w3 := hE3
  have r0 := hE3.rule 0 rfl
  have r1 := hE3.rule 1 rfl
  have ff := hE3.thaw 1 rfl
  have f0 := ff 0 (by simp)
  have f1 := ff 1 (by simp)
  clear ff
  clear rc f7 f8
  go_wp2_with fail
  have hE4 := (hE3.put 1 rfl (j := 0) (by simp) (.int .i64 hs)).put 1 rfl (j := 1) (by simp) (.int .i64 hi)
  have q := hE4.rule 1 rfl
  exact bodyPost_ret (v := .tuple #[.agg #[.int .i64 hs, .int .i64 hi], .bool true]) (by simp [results, Tryd.results20, go_sem, q]) rfl ⟨rfl, hE4.sub (.cons _ (.cons _ (List.Sublist.refl _)))⟩

set_option maxHeartbeats 1600000 in
theorem dropNo_c (hh : hs = 0) (hb : Blk 0 w c (crv k s b h l e r hs hi q)) :
    Calls Tryd.prog 19 #[.pointer (some ⟨c, 0, none⟩)] w fun o w' => o = .returned (.tuple #[]) ∧ Below w.heap.size w w' := by
  go_enter Tryd.func19, Tryd.ntmps19
  go_wp2_with fail
  refine (takeNo_c hh hb).mono ?_
  rintro o w1 ⟨rfl, hb1⟩
  clear hh hb
  go_wp2_with fail
  go_end0
  exact ⟨rfl, hb1.alloc hb1.size _⟩

set_option maxHeartbeats 1600000 in
theorem dropYes_c (hh : hs ≠ 0) (m n : Nat) (hnm : n ≠ m) (hE : Env w0 L w) (hm : L[m]? = some (coreI c k s b h l e r hs hi q)) (hn : L[n]? = some (queueI q F ql kq)) (hl : ql.length + 1 ≤ 1048576) :
    Calls Tryd.prog 19 #[.pointer (some ⟨c, 0, none⟩)] w fun o w' => o = .returned (.tuple #[]) ∧ ∃ k' F', Rm kq (ql.length + 1) k' ∧ Env w0 ((L.set m (coreI c k s b h l e r 0 0 q)).set n (queueI q F' (ql ++ [(hs, 0, hi)]) k')) w' := by
  have hml : m < L.length := (List.getElem?_eq_some_iff.1 hm).1
  have hn1 := wset (b := coreI c k s b h l e r 0 0 q) hnm.symm hn
  have hm1 : (L.set m (coreI c k s b h l e r 0 0 q))[m]? = some (coreI c k s b h l e r 0 0 q) := by rw [List.getElem?_set_self hml]
  have HT := Lib.hid (takeYes_c hh m hE hm)
  clear hh hE hm hn
  generalize L.set m (coreI c k s b h l e r 0 0 q) = M at *
  go_enter Tryd.func19, Tryd.ntmps19
  go_wp2_with fail
  refine HT.out.mono ?_
  rintro o w1 ⟨rfl, hE1⟩
  clear HT
  replace hE1 := hE1.box w1.heap.size rfl [.int .i64 hs, .int .i64 hi] 43
  go_wp2_with fail
  generalize w1.alloc _ = w2 at *
  generalize w1.heap.size = Y at *
  have hn2 : (boxI Y [.int .i64 hs, .int .i64 hi] :: M)[n + 1]? = some (queueI q F ql kq) := hn1
  have hm2 : (boxI Y [.int .i64 hs, .int .i64 hi] :: M)[m + 1]? = some (coreI c k s b h l e r 0 0 q) := hm1
  refine Ord3.wp_chain [?_, ?_, ?_, ?_, ?_, ?_, ?_, ?_, ?_, ?_, ?_] [9, 10] (fun w' => Blk 0 w' c [.int .i64 k, .int .i64 s, .int .i64 b, .int .i64 h, .int .i64 l, .int .i64 e, .int .i64 r, .int .i64 0, .int .i64 0, .pointer (some ⟨q, 0, none⟩)] ∧ Blk 0 w' Y [.int .i64 hs, .int .i64 hi]) (Ord3.Stage fun κs => [Env w0 (boxI Y [.int .i64 hs, .int .i64 hi] :: M), fun w' => ∃ z, κs.getD 0 undef = .slice (some ⟨z, 0, none⟩) 1 1 ∧ Env w0 (boxI z [.int .i64 hs, .int .i64 0, .int .i64 hi] :: boxI Y [.int .i64 hs, .int .i64 hi] :: M) w', fun w' => ∃ k', Rm kq (ql.length + 1) k' ∧ ∃ F' z, Env w0 (boxI z [.int .i64 hs, .int .i64 0, .int .i64 hi] :: boxI Y [.int .i64 hs, .int .i64 hi] :: M.set n (queueI q F' (ql ++ [(hs, 0, hi)]) k')) w']) (by kernel_rfl) (by kernel_rfl) (by kernel_rfl) ⟨hE1.drew.get (m + 1) hm2, hE1.drew.get 0 rfl⟩ ⟨_, rfl, hE1.drew⟩ (fun hT => ?_)
  rotate_left 11
  have hT9 := Lib.hid hT
  clear hT
  repeat (first
    | (focus (refine Ord3.in_value (v := ?_) hT9.out (by decide) ?_ (by rfl) ?_ ?_; rotate_left 2; (focus (intro w5 hS; have r1 := Blk.rule hS.1; have r2 := Blk.rule hS.2; go_simp <;> with_reducible rfl)); rotate_right; (focus rfl); (try simp only [Act.put, List.setIfInBounds_toArray, List.set_cons_zero, List.set_cons_succ])))
    | (focus (refine Ord3.in_off hT9.out (by decide) ?_ (by rfl) ?_; (focus rfl); (try simp only [Act.put, List.setIfInBounds_toArray, List.set_cons_zero, List.set_cons_succ]))))
  refine Ord3.in_turn (fun u => ∃ z, u = .slice (some ⟨z, 0, none⟩) 1 1) _ ⟨0, rfl⟩ hT9.out rfl (by decide) (by rfl) ?_ (Or.inl rfl) (by rfl) ?_ ?_
  · rfl
  · rintro w7 hC7 ⟨P7, hP7, hA7⟩
    cases hP7
    go_simp
    simp only [Ord3.Lands]
    have hE8 := hA7.box w7.heap.size rfl [.int .i64 hs, .int .i64 0, .int .i64 hi] 62
    exact ⟨⟨_, rfl⟩, ⟨hE8.get (m + 2) hm1, hE8.get 1 rfl⟩, _, rfl, w7.heap.size, rfl, hE8⟩
  rintro _ ⟨z9, rfl⟩
  (try simp only [Act.put, List.setIfInBounds_toArray, List.set_cons_zero, List.set_cons_succ])
  refine Ord3.in_turn (fun u => u = .int .i64 0) _ rfl hT9.out rfl (by decide) (by rfl) ?_ (Or.inr ⟨_, 9, [], rfl, by kernel_rfl, by kernel_rfl, rfl⟩) (by rfl) ?_ ?_
  · rfl
  · rintro w7 hC7 ⟨P7, hP7, hA7⟩
    cases hP7
    obtain ⟨z8, he, hA7⟩ := hA7
    cases he
    go_simp
    simp only [Ord3.Lands]
    have hA : Row3 w7 (some ⟨z9, 0, none⟩) [(hs, 0, hi)] := Blk.row3 (l := [(hs, 0, hi)]) (hA7.get 0 rfl)
    refine (push_any (l := ql) (xs := [(hs, 0, hi)]) (A := some ⟨z9, 0, none⟩) (cap := 1) (by simp; omega) hA (fun _ b hb hFb => ?_) (hA7.queue (n + 2) hn1)).mono ?_
    · obtain ⟨off, he⟩ := hb
      cases he
      exact (hA7.off (i := 0) (j := n + 2) rfl hn1 (by omega)) z9 rfl hFb
    rintro o w8 ⟨rfl, k8, F8, hrm, hQ8, hs8⟩
    have hE8 := hA7.turnQ (n + 2) hn1 hQ8 hs8
    simp only [List.set_cons_succ, List.set_cons_zero] at hE8
    have hm8 := wset (b := queueI q F8 (ql ++ [(hs, 0, hi)]) k8) hnm hm1
    exact ⟨_, rfl, rfl, ⟨hE8.get (m + 2) hm8, hE8.get 1 rfl⟩, _, rfl, k8, by simpa using hrm, F8, z9, hE8⟩
  rintro _ rfl
  (try simp only [Act.put, List.setIfInBounds_toArray, List.set_cons_zero, List.set_cons_succ])
  refine Ord3.in_nil rfl ?_
  rintro w9 hC9 ⟨P9, hP9, hA9⟩
  cases hP9
  obtain ⟨k8, hrm, F8, z8, hA9⟩ := hA9
  clear hT9 hC9
  go_wp2_with fail
  go_end0
  exact ⟨rfl, k8, F8, hrm, hA9.sub (.cons _ (.cons _ (List.Sublist.refl _)))⟩
theorem takeNil_c (w : World) : Calls Tryd.prog 20 #[.pointer none] w fun o w' => o = .returned (.tuple #[.agg #[.int .i64 0, .int .i64 0], .bool false]) ∧ Below w.heap.size w w' := by
  have hF := (Fr.start w).push w.heap.size rfl [.int .i64 0, .int .i64 0] 43
  go_enter Tryd.func20, Tryd.ntmps20
  go_wp2_with fail
  refine (heldNil_c _).mono ?_
  rintro o w1 ⟨rfl, hb⟩
  replace hF := hF.over hb
  clear hb
  replace hF := hF.push w1.heap.size rfl [.int .i64 0, .int .i64 0] 43
  have hlt := hF.lt 1 rfl
  have hX := hF.blk 1 rfl (by omega)
  have hZ := hF.blk 0 rfl (by have := hF.below.size; have := hF.lt 1 rfl; simp at this; omega)
  have hE := hF.below
  clear hF
  go_upto_region 2 with fail
  generalize w1.alloc _ = w2 at *
  generalize w1.heap.size = Y at *
  have r0 := hX.rule
  have r1 := hZ.rule
  have f0 := hX.thaw 0 (by simp)
  have f1 := hX.thaw 1 (by simp)
  go_wp2_with fail
  have q := ((hX.set (i := 0) (by simp) (.int .i64 0)).set (i := 1) (by simp) (.int .i64 0)).rule
  exact bodyPost_ret (v := .tuple #[.agg #[.int .i64 0, .int .i64 0], .bool false]) (by simp [results, Tryd.results20, go_sem, q]) rfl ⟨rfl, below_set (below_set hE (by omega) (Nat.le_refl _) _) (by simp; omega) (Nat.le_refl _) _⟩
theorem dropNil_c (w : World) : Calls Tryd.prog 19 #[.pointer none] w fun o w' => o = .returned (.tuple #[]) ∧ Below w.heap.size w w' := by
  go_enter Tryd.func19, Tryd.ntmps19
  go_wp2_with fail
  refine (takeNil_c _).mono ?_
  rintro o w1 ⟨rfl, hb1⟩
  go_wp2_with fail
  go_end0
  exact ⟨rfl, hb1.alloc hb1.size _⟩
end
end Go.Proofs.YtlhhnaccigamjaaDoor
