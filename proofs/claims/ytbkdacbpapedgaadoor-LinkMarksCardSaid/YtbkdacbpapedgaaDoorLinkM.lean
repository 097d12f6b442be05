/- Layer 2: the plain mathematics of links: words, slots, versions, marks. -/
import Derived.Test.YtbkdacbpapedgaaDoorFieldM
namespace Go.Proofs.YtbkdacbpapedgaaDoor
open Go.RowKit

/-- A word's parts. -/
def slotI (x : Int) : Int := x / 1099511627776 % 8388608
def verI (x : Int) : Int := x % 1099511627776
def markB (x : Int) : Bool := decide (9223372036854775808 ≤ x)
def isS (s : Int) : Bool := decide (0 ≤ s ∧ s ≤ 8388607)
def isL (s v : Int) : Bool := decide (0 ≤ s ∧ s ≤ 8388607 ∧ 0 ≤ v ∧ v ≤ 1099511627775)
def bitI (m : Bool) : Int := if m then 9223372036854775808 else 0
def wordI (m : Bool) (s v : Int) : Int := if isL s v then v + s * 1099511627776 + bitI m else 0

theorem isL_parts {s v : Int} (h : isL s v = true) : 0 ≤ s ∧ s ≤ 8388607 ∧ 0 ≤ v ∧ v ≤ 1099511627775 := by simpa [isL] using h
theorem isL_mk {s v : Int} (h1 : 0 ≤ s) (h2 : s ≤ 8388607) (h3 : 0 ≤ v) (h4 : v ≤ 1099511627775) : isL s v = true := by simp [isL, h1, h2, h3, h4]
theorem isS_parts {s : Int} (h : isS s = true) : 0 ≤ s ∧ s ≤ 8388607 := by simpa [isS] using h
theorem isS_mk {s : Int} (h1 : 0 ≤ s) (h2 : s ≤ 8388607) : isS s = true := by simp [isS, h1, h2]
theorem slotI_in (x : Int) : 0 ≤ slotI x ∧ slotI x ≤ 8388607 := by unfold slotI; omega
theorem verI_in (x : Int) : 0 ≤ verI x ∧ verI x ≤ 1099511627775 := by unfold verI; omega
theorem bitI_in (m : Bool) : 0 ≤ bitI m ∧ bitI m ≤ 9223372036854775808 := by cases m <;> simp [bitI]
theorem wordI_in (m : Bool) (s v : Int) : 0 ≤ wordI m s v ∧ wordI m s v ≤ 18446744073709551615 := by
  unfold wordI
  split
  · have := isL_parts ‹_›
    cases m <;> simp [bitI] <;> omega
  · omega
theorem wordI_yes {m : Bool} {s v : Int} (h : isL s v = true) : wordI m s v = v + s * 1099511627776 + bitI m := by simp [wordI, h]
theorem wordI_no {m : Bool} {s v : Int} (h : isL s v = false) : wordI m s v = 0 := by simp [wordI, h]

theorem slot_word {m : Bool} {s v : Int} (h : isL s v = true) : slotI (wordI m s v) = s := by
  have := isL_parts h
  rw [wordI_yes h]
  cases m <;> simp only [bitI, slotI, if_true, if_false, Bool.false_eq_true] <;> omega
theorem ver_word {m : Bool} {s v : Int} (h : isL s v = true) : verI (wordI m s v) = v := by
  have := isL_parts h
  rw [wordI_yes h]
  cases m <;> simp only [bitI, verI, if_true, if_false, Bool.false_eq_true] <;> omega
theorem mark_word {m : Bool} {s v : Int} (h : isL s v = true) : markB (wordI m s v) = m := by
  have := isL_parts h
  rw [wordI_yes h]
  cases m <;> simp only [bitI, markB, if_true, if_false, Bool.false_eq_true, decide_eq_true_eq, decide_eq_false_iff_not] <;> omega
theorem isL_of (x : Int) : isL (slotI x) (verI x) = true := isL_mk (slotI_in x).1 (slotI_in x).2 (verI_in x).1 (verI_in x).2
theorem word_of (x : Int) (h0 : 0 ≤ x) (h1 : x ≤ 18446744073709551615) : wordI (markB x) (slotI x) (verI x) = x := by
  rw [wordI_yes (isL_of x)]
  by_cases h : 9223372036854775808 ≤ x
  · simp only [markB, h, decide_true, bitI, if_true, slotI, verI]; omega
  · simp only [markB, h, decide_false, bitI, Bool.false_eq_true, if_false, slotI, verI]; omega
theorem word_inj {m n : Bool} {s v t u : Int} (h : isL s v = true) (h' : isL t u = true) (e : wordI m s v = wordI n t u) : m = n ∧ s = t ∧ v = u := by
  have e1 := congrArg markB e
  have e2 := congrArg slotI e
  have e3 := congrArg verI e
  rw [mark_word h, mark_word h'] at e1
  rw [slot_word h, slot_word h'] at e2
  rw [ver_word h, ver_word h'] at e3
  exact ⟨e1, e2, e3⟩

/-- The three fields, of a word. -/
theorem get_version (x : Int) (h0 : 0 ≤ x) : getI 0 40 x = verI x := by
  obtain ⟨X, rfl⟩ := Int.eq_ofNat_of_zero_le h0
  simp only [getI, show isB 0 40 = true from rfl, if_true, getN, verI, Int.toNat_natCast]
  simp
theorem get_slot (x : Int) (h0 : 0 ≤ x) : getI 40 23 x = slotI x := by
  obtain ⟨X, rfl⟩ := Int.eq_ofNat_of_zero_le h0
  simp only [getI, show isB 40 23 = true from rfl, if_true, getN, slotI, Int.toNat_natCast]
  simp
theorem get_mark (x : Int) (h0 : 0 ≤ x) : getI 63 1 x = x / 9223372036854775808 % 2 := by
  obtain ⟨X, rfl⟩ := Int.eq_ofNat_of_zero_le h0
  simp only [getI, show isB 63 1 = true from rfl, if_true, getN, Int.toNat_natCast]
  simp
theorem mark_one (x : Int) (h0 : 0 ≤ x) (h1 : x ≤ 18446744073709551615) : decide (getI 63 1 x = 1) = markB x := by
  rw [get_mark x h0]
  unfold markB
  by_cases h : 9223372036854775808 ≤ x
  · simp only [h, decide_true, decide_eq_true_eq]; omega
  · simp only [h, decide_false, decide_eq_false_iff_not]; omega

/-- To put above all that is there is to add. -/
theorem putN_above {A B W X : Nat} (hAB : A + B ≤ 64) (hW : W < 2 ^ A) : putN A B W X = W + X * 2 ^ A := by
  have e1 : W &&& (18446744073709551615 - maskN A B) = W := by
    apply Nat.eq_of_testBit_eq
    intro i
    rw [Nat.testBit_and, ones_sub_testBit (maskN_lt hAB), maskN_testBit]
    by_cases hi : i < A
    · have h1 : ¬ A ≤ i := by omega
      have h2 : i < 64 := by omega
      simp [h1, h2]
    · have := Nat.testBit_lt_two_pow (Nat.lt_of_lt_of_le hW (Nat.pow_le_pow_right (n := 2) (by omega) (show A ≤ i by omega)))
      simp [this]
  unfold putN
  rw [e1, Nat.or_comm, Nat.mul_comm, ← Nat.two_pow_add_eq_or_of_lt hW]
  omega
theorem put_version (v : Int) (h0 : 0 ≤ v) : putI 0 40 0 v = v := by
  obtain ⟨V, rfl⟩ := Int.eq_ofNat_of_zero_le h0
  have := putN_above (A := 0) (B := 40) (W := 0) (X := V) (by omega) (by simp)
  simp only [putI, Int.toNat_natCast, Int.toNat_zero, show (40 : Int).toNat = 40 from rfl]
  rw [this]
  simp
theorem put_slot (v s : Int) (h0 : 0 ≤ v) (h1 : v ≤ 1099511627775) (h2 : 0 ≤ s) : putI 40 23 v s = v + s * 1099511627776 := by
  obtain ⟨V, rfl⟩ := Int.eq_ofNat_of_zero_le h0
  obtain ⟨S, rfl⟩ := Int.eq_ofNat_of_zero_le h2
  have := putN_above (A := 40) (B := 23) (W := V) (X := S) (by omega) (by simp; omega)
  simp only [putI, Int.toNat_natCast, show (40 : Int).toNat = 40 from rfl, show (23 : Int).toNat = 23 from rfl]
  rw [this]
  simp
theorem put_mark (x : Int) (h0 : 0 ≤ x) (h1 : x < 9223372036854775808) : putI 63 1 x 1 = x + 9223372036854775808 := by
  obtain ⟨X, rfl⟩ := Int.eq_ofNat_of_zero_le h0
  have := putN_above (A := 63) (B := 1) (W := X) (X := 1) (by omega) (by simp; omega)
  simp only [putI, Int.toNat_natCast, show (63 : Int).toNat = 63 from rfl, show (1 : Int).toNat = 1 from rfl]
  rw [this]
  simp
theorem max_parts : maxI 0 40 = 1099511627775 ∧ maxI 40 23 = 8388607 ∧ maxI 63 1 = 1 ∧ isB 0 40 = true ∧ isB 40 23 = true ∧ isB 63 1 = true := by decide +kernel

/-- How two numbers stand. -/
def cmpI (a b : Int) : Int := if a < b then -1 else if b < a then 1 else 0
theorem cmpI_self (a : Int) : cmpI a a = 0 := by simp [cmpI]
theorem cmpI_lt {a b : Int} (h : a < b) : cmpI a b = -1 := by simp [cmpI, h]
theorem cmpI_gt {a b : Int} (h : b < a) : cmpI a b = 1 := by unfold cmpI; rw [if_neg (by omega), if_pos h]
theorem cmpI_in (a b : Int) : -1 ≤ cmpI a b ∧ cmpI a b ≤ 1 := by unfold cmpI; split; omega; split <;> omega

/-- The next version's link. -/
def nextE (x s : Int) : Int := if isS s then (if verI x = 1099511627775 then 7 else 0) else 3
def nextW (x s : Int) : Int := if isS s then (if verI x = 1099511627775 then 0 else wordI false s (verI x + 1)) else 0
/-- With a mark; what is marked stays. -/
def markedW (x s v : Int) : Int := if markB x then x else wordI true s v
theorem markedW_in (x s v : Int) (h0 : 0 ≤ x) (h1 : x ≤ 18446744073709551615) : 0 ≤ markedW x s v ∧ markedW x s v ≤ 18446744073709551615 := by
  unfold markedW
  split
  · exact ⟨h0, h1⟩
  · exact wordI_in _ _ _
end Go.Proofs.YtbkdacbpapedgaaDoor
