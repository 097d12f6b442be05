/- Layer 1: the plain mathematics of fields of a word: numbers and bits. -/
import Derived.WalkKit
namespace Go.Proofs.YtbkdacbpapedgaaDoor
open Go.RowKit

/-- A field can be. -/
def isB (a b : Int) : Bool := decide (0 ≤ a ∧ 1 ≤ b ∧ b ≤ 64 - a)
theorem isB_parts {a b : Int} (h : isB a b = true) : 0 ≤ a ∧ 1 ≤ b ∧ b ≤ 64 - a := by simpa [isB] using h

/-- The greatest number. -/
def maxI (a b : Int) : Int := if isB a b then 2 ^ b.toNat - 1 else 0
theorem maxI_yes {a b : Int} (h : isB a b = true) : maxI a b = 2 ^ b.toNat - 1 := by simp [maxI, h]
theorem maxI_no {a b : Int} (h : isB a b = false) : maxI a b = 0 := by simp [maxI, h]
theorem ones_shift (k : Nat) (h1 : k ≤ 64) : (18446744073709551615 : Int) / 2 ^ (64 - k) = 2 ^ k - 1 := by
  have h : ∀ k ≤ 64, (18446744073709551615 : Int) / 2 ^ (64 - k) = 2 ^ k - 1 := by decide
  exact h k h1

/-- The bits of a field that can be, as numbers: A and B. -/
theorem isB_nat {a b : Int} (h : isB a b = true) : ∃ A B : Nat, a = A ∧ b = B ∧ 1 ≤ B ∧ A + B ≤ 64 := by
  obtain ⟨h1, h2, h3⟩ := isB_parts h
  exact ⟨a.toNat, b.toNat, by omega, by omega, by omega, by omega⟩

theorem pow_le64 {k : Nat} (h : k ≤ 64) : 2 ^ k ≤ 18446744073709551616 := by
  have := Nat.pow_le_pow_right (n := 2) (by omega) h
  simpa using this

theorem maxI_nat {A B : Nat} (h1 : 1 ≤ B) (h2 : A + B ≤ 64) : maxI A B = ((2 ^ B - 1 : Nat) : Int) := by
  rw [maxI_yes (by simp [isB]; omega), Int.toNat_natCast, Int.natCast_sub (Nat.one_le_two_pow)]
  simp

theorem wrap_u8_small {a : Int} (h0 : 0 ≤ a) (h1 : a < 256) : IntKind.u8.wrap a = a := by rw [IntKind.wrap_u8]; omega

/-- The number in a word. -/
def getN (A B X : Nat) : Nat := X / 2 ^ A % 2 ^ B
def getI (a b x : Int) : Int := if isB a b then (getN a.toNat b.toNat x.toNat : Nat) else 0

theorem get_eq (a b x : Int) (h0 : 0 ≤ x) (h1 : x ≤ 18446744073709551615) :
    bits .and .u64 (x / 2 ^ min (IntKind.u8.wrap a).toNat 64) (maxI a b) = getI a b x := by
  obtain ⟨X, rfl⟩ := Int.eq_ofNat_of_zero_le h0
  have e : ∀ k : Nat, (X : Int) / 2 ^ k = ((X / 2 ^ k : Nat) : Int) := fun k => by simp
  have hlt : ∀ k : Nat, X / 2 ^ k < 18446744073709551616 := fun k => Nat.lt_of_le_of_lt (Nat.div_le_self _ _) (by omega)
  cases h : isB a b
  · rw [maxI_no h, e, show (0 : Int) = ((0 : Nat) : Int) from rfl, u64_and_nat _ _ (hlt _) (by decide)]
    simp [getI, h]
  · obtain ⟨A, B, rfl, rfl, hB, hAB⟩ := isB_nat h
    rw [wrap_u8_small (by omega) (by omega), maxI_nat hB hAB, e, u64_and_nat _ _ (hlt _) (by have := pow_le64 (k := B) (by omega); omega)]
    simp only [getI, h, if_true, Int.toNat_natCast, getN]
    rw [Nat.and_two_pow_sub_one_eq_mod, show min A 64 = A by omega]

/-- The field's bits in their places. -/
def maskN (A B : Nat) : Nat := (2 ^ B - 1) * 2 ^ A
def maskI (a b : Int) : Int := if isB a b then (maskN a.toNat b.toNat : Nat) else 0
theorem maskN_lt {A B : Nat} (h : A + B ≤ 64) : maskN A B < 18446744073709551616 := by
  unfold maskN
  have h1 : (2 ^ B - 1) * 2 ^ A < 2 ^ B * 2 ^ A := Nat.mul_lt_mul_of_pos_right (by have := Nat.one_le_two_pow (n := B); omega) (Nat.two_pow_pos A)
  rw [← Nat.pow_add] at h1
  have := pow_le64 (k := B + A) (by omega)
  omega
theorem mask_eq (a b : Int) : IntKind.u64.wrap (maxI a b * 2 ^ min (IntKind.u8.wrap a).toNat 64) = maskI a b := by
  cases h : isB a b
  · simp [maxI_no h, maskI, h, IntKind.wrap_u64]
  · obtain ⟨A, B, rfl, rfl, hB, hAB⟩ := isB_nat h
    rw [wrap_u8_small (by omega) (by omega), maxI_nat hB hAB]
    simp only [maskI, h, if_true, Int.toNat_natCast]
    rw [show min A 64 = A by omega, show (((2 ^ B - 1 : Nat) : Int) * 2 ^ A) = ((maskN A B : Nat) : Int) by simp [maskN], IntKind.wrap_u64]
    have := maskN_lt hAB
    omega

theorem maskN_testBit (A B k : Nat) : (maskN A B).testBit k = (decide (A ≤ k) && decide (k < A + B)) := by
  unfold maskN
  rw [Nat.testBit_mul_two_pow, Nat.testBit_two_pow_sub_one]
  by_cases h : A ≤ k
  · simp [h]; omega
  · simp [h]

/-- Another number there. -/
def putN (A B W X : Nat) : Nat := (W &&& (18446744073709551615 - maskN A B)) ||| X * 2 ^ A
def putI (a b w x : Int) : Int := (putN a.toNat b.toNat w.toNat x.toNat : Nat)
theorem putN_lt {A B W X : Nat} (hAB : A + B ≤ 64) (hW : W < 18446744073709551616) (hX : X < 2 ^ B) : putN A B W X < 18446744073709551616 := by
  have h1 : X * 2 ^ A < 2 ^ 64 := by
    have h1 : X * 2 ^ A < 2 ^ B * 2 ^ A := Nat.mul_lt_mul_of_pos_right hX (Nat.two_pow_pos A)
    rw [← Nat.pow_add] at h1
    have := pow_le64 (k := B + A) (by omega)
    simp only [Nat.reducePow]
    omega
  exact Nat.or_lt_two_pow (n := 64) (Nat.lt_of_le_of_lt Nat.and_le_left (by simpa using hW)) h1
theorem put_eq (a b w x : Int) (h : isB a b = true) (hw0 : 0 ≤ w) (hw1 : w ≤ 18446744073709551615) (hx0 : 0 ≤ x) (hx : x ≤ maxI a b) :
    bits .or .u64 (bits .andNot .u64 w (maskI a b)) (IntKind.u64.wrap (x * 2 ^ min (IntKind.u8.wrap a).toNat 64)) = putI a b w x := by
  obtain ⟨A, B, rfl, rfl, hB, hAB⟩ := isB_nat h
  obtain ⟨W, rfl⟩ := Int.eq_ofNat_of_zero_le hw0
  obtain ⟨X, rfl⟩ := Int.eq_ofNat_of_zero_le hx0
  rw [maxI_nat hB hAB] at hx
  have hX : X < 2 ^ B := by have := Nat.one_le_two_pow (n := B); omega
  have h1 : X * 2 ^ A < 18446744073709551616 := by
    have h1 : X * 2 ^ A < 2 ^ B * 2 ^ A := Nat.mul_lt_mul_of_pos_right hX (Nat.two_pow_pos A)
    rw [← Nat.pow_add] at h1
    have := pow_le64 (k := B + A) (by omega)
    omega
  have e1 : IntKind.u64.wrap ((X : Int) * 2 ^ min A 64) = ((X * 2 ^ A : Nat) : Int) := by
    rw [show min A 64 = A by omega, show ((X : Int) * 2 ^ A) = ((X * 2 ^ A : Nat) : Int) by simp, IntKind.wrap_u64]
    omega
  rw [wrap_u8_small (by omega) (by omega)]
  simp only [maskI, h, if_true, Int.toNat_natCast, putI]
  rw [e1, u64_andNot_nat _ _ (by omega) (maskN_lt hAB), u64_or_nat _ _ (Nat.lt_of_le_of_lt Nat.and_le_left (by omega)) h1]
  rfl

theorem ones_sub_testBit {m k : Nat} (h : m < 18446744073709551616) : (18446744073709551615 - m).testBit k = (decide (k < 64) && !m.testBit k) := by
  have := Nat.testBit_two_pow_sub_succ (n := 64) (x := m) (by simpa using h) k
  rw [← this]
  congr 1
  omega
theorem putN_testBit {A B W X : Nat} (hAB : A + B ≤ 64) (hW : W < 18446744073709551616) (hX : X < 2 ^ B) (k : Nat) :
    (putN A B W X).testBit k = if A ≤ k ∧ k < A + B then X.testBit (k - A) else W.testBit k := by
  unfold putN
  rw [Nat.testBit_or, Nat.testBit_and, ones_sub_testBit (maskN_lt hAB), maskN_testBit, Nat.testBit_mul_two_pow]
  by_cases h : A ≤ k ∧ k < A + B
  · simp [h.1, h.2]
  · rw [if_neg h]
    by_cases hk : A ≤ k
    · have hk2 : ¬ k < A + B := fun hh => h ⟨hk, hh⟩
      have hXk : X.testBit (k - A) = false := Nat.testBit_lt_two_pow (Nat.lt_of_lt_of_le hX (Nat.pow_le_pow_right (by omega) (by omega)))
      by_cases h64 : k < 64
      · simp [hk, hk2, hXk, h64]
      · have hWk : W.testBit k = false := Nat.testBit_lt_two_pow (Nat.lt_of_lt_of_le (show W < 2 ^ 64 by simpa using hW) (Nat.pow_le_pow_right (by omega) (by omega)))
        simp [hXk, hWk]
    · by_cases h64 : k < 64
      · simp [hk, h64]
      · omega
theorem getN_testBit (A B X k : Nat) : (getN A B X).testBit k = (decide (k < B) && X.testBit (A + k)) := by
  unfold getN
  rw [Nat.testBit_mod_two_pow, Nat.testBit_div_two_pow]
  rw [Nat.add_comm]
theorem getN_lt (A B X : Nat) : getN A B X < 2 ^ B := Nat.mod_lt _ (Nat.two_pow_pos B)

/-- Bit by bit, from the highest on. -/
def foldN (f : Nat → Nat) : Nat → Nat → Nat
  | _, 0 => 0
  | top, m + 1 => foldN f top m * 2 + f (top - m)
theorem foldN_testBit (f : Nat → Nat) (hf : ∀ i, f i < 2) (top m : Nat) : ∀ i, (foldN f top m).testBit i = (decide (i < m) && decide (f (top - (m - 1 - i)) = 1)) := by
  induction m with
  | zero => intro i; simp [foldN]
  | succ m ih =>
    intro i
    have h2 := hf (top - m)
    cases i with
    | zero =>
      simp only [foldN, Nat.testBit_zero, Nat.zero_lt_succ, decide_true, Bool.true_and]
      rw [show m + 1 - 1 - 0 = m by omega]
      congr 1
      apply propext
      omega
    | succ i =>
      rw [Nat.testBit_succ, foldN, show (foldN f top m * 2 + f (top - m)) / 2 = foldN f top m by omega, ih i]
      rw [show m + 1 - 1 - (i + 1) = m - 1 - i by omega]
      simp
theorem foldN_lt (f : Nat → Nat) (hf : ∀ i, f i < 2) (top m : Nat) : foldN f top m < 2 ^ m := by
  induction m with
  | zero => simp [foldN]
  | succ m ih =>
    have h2 := hf (top - m)
    simp only [foldN, Nat.pow_succ]
    omega
/-- All 64 bits, told one by one. -/
theorem foldN_eq {f : Nat → Nat} (hf : ∀ i, f i < 2) {Y : Nat} (hY : Y < 18446744073709551616) (h : ∀ i, i < 64 → decide (f i = 1) = Y.testBit i) : foldN f 63 64 = Y := by
  apply Nat.eq_of_testBit_eq
  intro i
  rw [foldN_testBit f hf]
  by_cases h64 : i < 64
  · rw [show 63 - (64 - 1 - i) = i by omega, h i h64]; simp [h64]
  · have hYk : Y.testBit i = false := Nat.testBit_lt_two_pow (Nat.lt_of_lt_of_le (show Y < 2 ^ 64 by simpa using hY) (Nat.pow_le_pow_right (by omega) (by omega)))
    simp [h64, hYk]

/-- The bit k of a word. -/
def bitN (X k : Nat) : Nat := X / 2 ^ k % 2
theorem bitN_lt (X k : Nat) : bitN X k < 2 := Nat.mod_lt _ (by omega)
theorem bitN_testBit (X k : Nat) : decide (bitN X k = 1) = X.testBit k := by
  unfold bitN
  rw [Nat.testBit_eq_decide_div_mod_eq]

/-- With a sign. -/
def sgnN (A B X : Nat) : Int := if 2 ^ (B - 1) ≤ getN A B X then (getN A B X : Int) - 2 ^ B else getN A B X
def sgnI (a b x : Int) : Int := if isB a b then sgnN a.toNat b.toNat x.toNat else 0

theorem sgn_eq (a b x : Int) (h : isB a b = true) (h0 : 0 ≤ x) :
    wrap64 (IntKind.u64.wrap (x * 2 ^ (64 - b - a).toNat)) / 2 ^ (64 - b).toNat = sgnI a b x := by
  obtain ⟨A, B, rfl, rfl, hB, hAB⟩ := isB_nat h
  obtain ⟨X, rfl⟩ := Int.eq_ofNat_of_zero_le h0
  simp only [sgnI, h, if_true, Int.toNat_natCast]
  rw [show (64 - (B : Int) - (A : Int)).toNat = 64 - B - A by omega, show (64 - (B : Int)).toNat = 64 - B by omega]
  -- the word, moved up
  have e1 : IntKind.u64.wrap ((X : Int) * 2 ^ (64 - B - A)) = ((X % 2 ^ (A + B) * 2 ^ (64 - B - A) : Nat) : Int) := by
    rw [show ((X : Int) * 2 ^ (64 - B - A)) = ((X * 2 ^ (64 - B - A) : Nat) : Int) by simp, IntKind.wrap_u64]
    have : (18446744073709551616 : Nat) = 2 ^ (A + B) * 2 ^ (64 - B - A) := by rw [← Nat.pow_add, show A + B + (64 - B - A) = 64 by omega]
    rw [← Nat.mul_mod_mul_right, ← this]
    omega
  rw [e1]
  have hsplit : (2 : Nat) ^ (64 - B) = 2 ^ A * 2 ^ (64 - B - A) := by rw [← Nat.pow_add]; congr 1; omega
  have hd : X % 2 ^ (A + B) * 2 ^ (64 - B - A) / 2 ^ (64 - B) = getN A B X := by
    rw [hsplit, Nat.mul_div_mul_right _ _ (Nat.two_pow_pos _), getN, Nat.pow_add, Nat.mod_mul_right_div_self]
  have hlt : X % 2 ^ (A + B) * 2 ^ (64 - B - A) < 18446744073709551616 := by
    have h1 : X % 2 ^ (A + B) * 2 ^ (64 - B - A) < 2 ^ (A + B) * 2 ^ (64 - B - A) := Nat.mul_lt_mul_of_pos_right (Nat.mod_lt _ (Nat.two_pow_pos _)) (Nat.two_pow_pos _)
    rw [← Nat.pow_add, show A + B + (64 - B - A) = 64 by omega] at h1
    simpa using h1
  generalize X % 2 ^ (A + B) * 2 ^ (64 - B - A) = Y at *
  have hhalf : (9223372036854775808 : Nat) = 2 ^ (B - 1) * 2 ^ (64 - B) := by rw [← Nat.pow_add, show B - 1 + (64 - B) = 63 by omega]
  have hwhole : (18446744073709551616 : Int) = 2 ^ B * 2 ^ (64 - B) := by rw [← Int.pow_add, show B + (64 - B) = 64 by omega]; rfl
  have hcmp : 2 ^ (B - 1) ≤ getN A B X ↔ 9223372036854775808 ≤ Y := by
    rw [← hd, hhalf, Nat.le_div_iff_mul_le (Nat.two_pow_pos _)]
  have hpos : (0 : Int) < 2 ^ (64 - B) := by exact_mod_cast Nat.two_pow_pos (64 - B)
  have hdI : (Y : Int) / 2 ^ (64 - B) = getN A B X := by rw [← hd]; simp
  unfold sgnN wrap64
  by_cases hc : 9223372036854775808 ≤ Y
  · rw [if_pos (hcmp.2 hc), show ((Y : Int) + 9223372036854775808) % 18446744073709551616 - 9223372036854775808 = (Y : Int) + (-18446744073709551616) by omega, hwhole, ← Int.neg_mul, Int.add_mul_ediv_right _ _ (by omega), hdI]
    omega
  · rw [if_neg (fun hh => hc (hcmp.1 hh)), show ((Y : Int) + 9223372036854775808) % 18446744073709551616 - 9223372036854775808 = (Y : Int) by omega, hdI]

/-- Bits, turned round by k towards the highest. -/
def turnN (W k : Nat) : Nat := W * 2 ^ k % 18446744073709551616 ||| W / 2 ^ (64 - k)
theorem turnN_lt {W k : Nat} (hW : W < 18446744073709551616) : turnN W k < 18446744073709551616 :=
  Nat.or_lt_two_pow (n := 64) (Nat.mod_lt _ (by decide)) (Nat.lt_of_le_of_lt (Nat.div_le_self _ _) (by simpa using hW))
theorem turnN_testBit {W k i : Nat} (hW : W < 18446744073709551616) (hk : k < 64) (hi : i < 64) : (turnN W k).testBit i = W.testBit ((i + 64 - k) % 64) := by
  unfold turnN
  rw [Nat.testBit_or, show (18446744073709551616 : Nat) = 2 ^ 64 by rfl, Nat.testBit_mod_two_pow, Nat.testBit_mul_two_pow, Nat.testBit_div_two_pow]
  by_cases h : k ≤ i
  · rw [show (i + 64 - k) % 64 = i - k by omega]
    have : W.testBit (i + (64 - k)) = false := Nat.testBit_lt_two_pow (Nat.lt_of_lt_of_le (show W < 2 ^ 64 by simpa using hW) (Nat.pow_le_pow_right (by omega) (by omega)))
    simp [hi, h, this]
  · rw [show (i + 64 - k) % 64 = i + (64 - k) by omega]
    simp [h]
/-- Turned by n, whatever n is. -/
def turnI (w n : Int) : Int := (turnN w.toNat (n % 64).toNat : Nat)
theorem turn_eq (w n : Int) (h0 : 0 ≤ w) (h1 : w ≤ 18446744073709551615) :
    bits .or .u64 (IntKind.u64.wrap (w * 2 ^ (n % 64).toNat)) (w / 2 ^ (64 - n % 64).toNat) = turnI w n := by
  obtain ⟨W, rfl⟩ := Int.eq_ofNat_of_zero_le h0
  obtain ⟨k, hk⟩ := Int.eq_ofNat_of_zero_le (show 0 ≤ n % 64 by omega)
  have hk64 : k < 64 := by omega
  unfold turnI
  rw [hk, show (64 - (k : Int)).toNat = 64 - k by omega]
  simp only [Int.toNat_natCast]
  rw [show IntKind.u64.wrap ((W : Int) * 2 ^ k) = ((W * 2 ^ k % 18446744073709551616 : Nat) : Int) by rw [IntKind.wrap_u64]; simp,
    show (W : Int) / 2 ^ (64 - k) = ((W / 2 ^ (64 - k) : Nat) : Int) by simp,
    u64_or_nat _ _ (Nat.mod_lt _ (by decide)) (Nat.lt_of_le_of_lt (Nat.div_le_self _ _) (by omega))]
  rfl

theorem foldN_get {A B X : Nat} : foldN (fun i => bitN X (A + i)) (B - 1) B = getN A B X := by
  apply Nat.eq_of_testBit_eq
  intro i
  rw [foldN_testBit _ (fun _ => bitN_lt _ _), getN_testBit]
  by_cases h : i < B
  · rw [show B - 1 - (B - 1 - i) = i by omega, bitN_testBit]
  · simp [h]

/-- A bit of the word with another number there. -/
def putF (A B W X k : Nat) : Nat := if A ≤ k ∧ k < A + B then bitN X (k - A) else bitN W k
theorem putF_lt (A B W X k : Nat) : putF A B W X k < 2 := by unfold putF; split <;> exact bitN_lt _ _
theorem foldN_put {A B W X : Nat} (hAB : A + B ≤ 64) (hW : W < 18446744073709551616) (hX : X < 2 ^ B) : foldN (putF A B W X) 63 64 = putN A B W X :=
  foldN_eq (putF_lt A B W X) (putN_lt hAB hW hX) fun i _ => by
    rw [putN_testBit hAB hW hX]
    unfold putF
    split <;> exact bitN_testBit _ _

/-- A bit of a word that is turned round. -/
def turnF (W k i : Nat) : Nat := bitN W ((i + 64 - k) % 64)
theorem foldN_turn {W k : Nat} (hW : W < 18446744073709551616) (hk : k < 64) : foldN (turnF W k) 63 64 = turnN W k :=
  foldN_eq (fun _ => bitN_lt _ _) (turnN_lt hW) fun i hi => by rw [turnN_testBit hW hk hi]; exact bitN_testBit _ _

/-- The number with a sign, bit by bit: the highest one counts below 0. -/
def sgnF (A B X m : Nat) : Int := (foldN (fun i => bitN X (A + i)) (B - 1) m : Nat) - (bitN X (A + (B - 1)) : Nat) * 2 ^ m
theorem sgnF_one (A B X : Nat) : sgnF A B X 1 = - (bitN X (A + (B - 1)) : Nat) := by
  simp only [sgnF, foldN, Nat.sub_zero]
  omega
theorem sgnF_succ (A B X m : Nat) : sgnF A B X (m + 1) = sgnF A B X m * 2 + (bitN X (A + (B - 1 - m)) : Nat) := by
  simp only [sgnF, foldN, Int.pow_succ]
  rw [← Int.mul_assoc]
  omega
theorem sgnF_bound (A B X m : Nat) (h : 1 ≤ m) : - 2 ^ (m - 1) ≤ sgnF A B X m ∧ sgnF A B X m ≤ 2 ^ (m - 1) - 1 := by
  induction m with
  | zero => omega
  | succ m ih =>
    have hb := bitN_lt X (A + (B - 1 - m))
    by_cases hm : m = 0
    · subst hm
      rw [sgnF_one]
      have := bitN_lt X (A + (B - 1))
      simp; omega
    · obtain ⟨h1, h2⟩ := ih (by omega)
      rw [sgnF_succ, show m + 1 - 1 = (m - 1) + 1 by omega, Int.pow_succ]
      omega
theorem sgnF_small (A B X m : Nat) (h : 1 ≤ m) (h63 : m ≤ 63) : -4611686018427387904 ≤ sgnF A B X m ∧ sgnF A B X m ≤ 4611686018427387903 := by
  obtain ⟨h1, h2⟩ := sgnF_bound A B X m h
  have : (2 : Int) ^ (m - 1) ≤ 2 ^ 62 := by exact_mod_cast Nat.pow_le_pow_right (by omega) (by omega)
  simp only [Int.reducePow] at this
  omega
theorem sgnF_all {A B X : Nat} (hB : 1 ≤ B) : sgnF A B X B = sgnN A B X := by
  unfold sgnF sgnN
  rw [foldN_get]
  have hg := getN_lt A B X
  have e : 2 ^ B = 2 * 2 ^ (B - 1) := by rw [← Nat.pow_succ', show (B - 1).succ = B by omega]
  have hbit : bitN X (A + (B - 1)) = getN A B X / 2 ^ (B - 1) := by
    unfold bitN getN
    rw [e, Nat.mul_comm 2, Nat.mod_mul_right_div_self, Nat.div_div_eq_div_mul, Nat.pow_add]
  have hp := Nat.two_pow_pos (B - 1)
  by_cases hc : 2 ^ (B - 1) ≤ getN A B X
  · have h1 : getN A B X / 2 ^ (B - 1) = 1 := by rw [Nat.div_eq_iff hp]; omega
    rw [if_pos hc, hbit, h1]
    simp
  · have h0 : getN A B X / 2 ^ (B - 1) = 0 := Nat.div_eq_of_lt (by omega)
    rw [if_neg hc, hbit, h0]
    simp
theorem foldN_small (f : Nat → Nat) (hf : ∀ i, f i < 2) (top m : Nat) (h : m ≤ 63) : foldN f top m ≤ 9223372036854775807 := by
  have h1 := foldN_lt f hf top m
  have h2 : 2 ^ m ≤ 2 ^ 63 := Nat.pow_le_pow_right (by omega) h
  simp only [Nat.reducePow] at h2
  omega

theorem tmod64 (n : Int) : (n.tmod 64 < 0 → wrap64 (n.tmod 64 + 64) = n % 64) ∧ (0 ≤ n.tmod 64 → n.tmod 64 = n % 64) := by
  have h : n.tmod 64 = n % 64 ∨ n.tmod 64 = n % 64 - 64 := by
    rw [Int.tmod_eq_emod]
    split
    · exact Or.inl (by omega)
    · exact Or.inr (by rfl)
  unfold wrap64
  omega
end Go.Proofs.YtbkdacbpapedgaaDoor
