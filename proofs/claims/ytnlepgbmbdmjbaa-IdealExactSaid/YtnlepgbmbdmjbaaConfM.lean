/- Layer 3: the plain mathematics of structures. -/
import Derived.Test.YtnlepgbmbdmjbaaNum
namespace Go.Proofs.Ytnlepgbmbdmjbaa
open Go.RowKit
set_option maxRecDepth 100000

/-- A number within bounds. -/
def inB (n lo hi : Int) : Bool := decide (lo ≤ n ∧ n ≤ hi)
theorem inB_yes {n lo hi : Int} (h : inB n lo hi = true) : lo ≤ n ∧ n ≤ hi := by simpa [inB] using h
theorem inB_no {n lo hi : Int} (h : inB n lo hi = false) : n < lo ∨ hi < n := by
  by_cases h1 : lo ≤ n
  · exact .inr (by simpa [inB, h1] using h)
  · exact .inl (by omega)
/-- There are such structures. -/
def kindB (k : Int) : Bool := decide (k = 1 ∨ k = 2 ∨ k = 3)
/-- As many buckets, levels as its kind can have. -/
def buckB (k b : Int) : Bool := if k = 2 then inB b 1 64 else decide (b = 0)
def highB (k h : Int) : Bool := if k = 3 then inB h 1 16 else decide (h = 1)
/-- What is wrong with a structure. -/
def chkI (k s b h l : Int) : Int := if kindB k then (if inB s 1 8388607 && inB l 2 1099511627775 && buckB k b && highB k h then 0 else 3) else 8
theorem kindB_iff (k : Int) : kindB k = true ↔ 1 ≤ k ∧ k ≤ 3 := by simp [kindB]; omega
theorem inB_iff (n lo hi : Int) : inB n lo hi = true ↔ lo ≤ n ∧ n ≤ hi := by simp [inB]
theorem buckB_iff (k b : Int) : buckB k b = true ↔ (k = 2 ∧ 1 ≤ b ∧ b ≤ 64) ∨ (k ≠ 2 ∧ b = 0) := by
  unfold buckB
  split
  · next e => rw [inB_iff]; omega
  · next e => rw [decide_eq_true_iff]; omega
theorem highB_iff (k h : Int) : highB k h = true ↔ (k = 3 ∧ 1 ≤ h ∧ h ≤ 16) ∨ (k ≠ 3 ∧ h = 1) := by
  unfold highB
  split
  · next e => rw [inB_iff]; omega
  · next e => rw [decide_eq_true_iff]; omega
def Cfg (s k b h l : Int) : Prop := (1 ≤ s ∧ s ≤ 8388607) ∧ (2 ≤ l ∧ l ≤ 1099511627775) ∧ ((k = 2 ∧ 1 ≤ b ∧ b ≤ 64) ∨ (k ≠ 2 ∧ b = 0)) ∧ ((k = 3 ∧ 1 ≤ h ∧ h ≤ 16) ∨ (k ≠ 3 ∧ h = 1))
theorem cfg_iff (k s b h l : Int) : (inB s 1 8388607 && inB l 2 1099511627775 && buckB k b && highB k h) = true ↔ Cfg s k b h l := by
  rw [Bool.and_eq_true, Bool.and_eq_true, Bool.and_eq_true, inB_iff, inB_iff, buckB_iff, highB_iff]
  unfold Cfg
  omega
theorem chk_eight {k s b h l : Int} (hk : ¬ (1 ≤ k ∧ k ≤ 3)) : chkI k s b h l = 8 := by
  unfold chkI
  rw [if_neg (by rw [kindB_iff]; exact hk)]
theorem chk_three {k s b h l : Int} (hk : 1 ≤ k ∧ k ≤ 3) (hc : ¬ Cfg s k b h l) : chkI k s b h l = 3 := by
  unfold chkI
  rw [if_pos (by rw [kindB_iff]; exact hk), if_neg (by rw [cfg_iff]; exact hc)]
theorem chk_zero {k s b h l : Int} (hk : 1 ≤ k ∧ k ≤ 3) (hc : Cfg s k b h l) : chkI k s b h l = 0 := by
  unfold chkI
  rw [if_pos (by rw [kindB_iff]; exact hk), if_pos (by rw [cfg_iff]; exact hc)]
theorem chk_yes {k s b h l : Int} (e : chkI k s b h l = 0) : (1 ≤ k ∧ k ≤ 3) ∧ (1 ≤ s ∧ s ≤ 8388607) ∧ (2 ≤ l ∧ l ≤ 1099511627775) ∧ ((k = 2 ∧ 1 ≤ b ∧ b ≤ 64) ∨ (k ≠ 2 ∧ b = 0)) ∧ ((k = 3 ∧ 1 ≤ h ∧ h ≤ 16) ∨ (k ≠ 3 ∧ h = 1)) := by
  unfold chkI at e
  split at e
  · next hk =>
    split at e
    · next hc => exact ⟨(kindB_iff k).1 hk, (cfg_iff k s b h l).1 hc⟩
    · cases e
  · cases e
/-- How many links it begins at; a slot's cells; how long an op may take. -/
def rootsI (k s b h l : Int) : Int := if chkI k s b h l = 0 then (if k = 2 then b else h) else 0
def cellsI (k s b h l : Int) : Int := if chkI k s b h l = 0 then 7 + h else 0
def aloneI (k s b h l : Int) : Int := if chkI k s b h l = 0 then 64 * (s + 4) * (h + 1) else 0
def winB (k s b h l t : Int) : Bool := decide (chkI k s b h l = 0) && inB t 1 64
def winI (k s b h l t : Int) : Int := if winB k s b h l t then 64 * (t + 1) * (t + 1) * (t + 1) * (s + 2) * (h + 1) * (h + 1) else 0
/-- What is asked of which; its level; its key and value. -/
def askB (k o : Int) : Bool := if o = 1 ∨ o = 2 ∨ o = 3 then decide (k = 1 ∨ k = 3) else if o = 4 ∨ o = 5 ∨ o = 6 ∨ o = 7 then decide (k = 2) else decide (o = 8)
def lvlB (k h o y : Int) : Bool := if k = 3 ∧ o = 1 then inB y 1 h else decide (y = 0)
def putB (o : Int) : Bool := decide (o = 4 ∨ o = 5)
def argB (o x v : Int) : Bool := decide ((v ≠ 0 ∧ o ≠ 4 ∧ o ≠ 5) ∨ (x ≠ 0 ∧ o = 8))
def opI (k s b h l o x v y : Int) : Int := if chkI k s b h l = 0 then (if askB k o then (if lvlB k h o y then (if argB o x v then 1 else 0) else 3) else 8) else chkI k s b h l

theorem alone_wrap {s h : Int} (hs : 1 ≤ s ∧ s ≤ 8388607) (hh : 1 ≤ h ∧ h ≤ 16) : wrap64 (wrap64 (64 * wrap64 (s + 4)) * wrap64 (h + 1)) = 64 * (s + 4) * (h + 1) := by
  rw [w64 (s + 4) (by omega), w64 (64 * (s + 4)) (by omega), w64 (h + 1) (by omega)]
  exact wrap_mul (A := 536871104) (B := 17) (by omega) (by omega) (by decide)
theorem cell_wrap {h : Int} (hh : 1 ≤ h ∧ h ≤ 16) : wrap64 (7 + h) = 7 + h := w64 _ (by omega)
theorem win_wrap {s h t : Int} (hs : 1 ≤ s ∧ s ≤ 8388607) (hh : 1 ≤ h ∧ h ≤ 16) (ht : 1 ≤ t ∧ t ≤ 64) :
    wrap64 (wrap64 (wrap64 (64 * ((t + 1) * (t + 1) * (t + 1))) * (s + 2)) * ((h + 1) * (h + 1))) = 64 * (t + 1) * (t + 1) * (t + 1) * (s + 2) * (h + 1) * (h + 1) := by
  have h2 := mul_in (a := t + 1) (b := t + 1) (A := 65) (B := 65) (by omega) (by omega)
  have h3 := mul_in (b := t + 1) (B := 65) h2 (by omega)
  have h4 := mul_in (a := 64) (A := 64) (by omega) h3
  have h5 := mul_in (b := s + 2) (B := 8388609) h4 (by omega)
  have h6 := mul_in (a := h + 1) (b := h + 1) (A := 17) (B := 17) (by omega) (by omega)
  have h7 := mul_in h5 h6
  rw [w64 (64 * ((t + 1) * (t + 1) * (t + 1))) (by omega), w64 (64 * ((t + 1) * (t + 1) * (t + 1)) * (s + 2)) (by omega), w64 _ (by omega)]
  simp only [Int.mul_assoc]
/-- .. as the statement counts it. -/
theorem win_wrap' {s h t : Int} (hs : 1 ≤ s ∧ s ≤ 8388607) (hh : 1 ≤ h ∧ h ≤ 16) (ht : 1 ≤ t ∧ t ≤ 64) :
    wrap64 (wrap64 (wrap64 (wrap64 (wrap64 (wrap64 (64 * wrap64 (t + 1)) * wrap64 (t + 1)) * wrap64 (t + 1)) * wrap64 (s + 2)) * wrap64 (h + 1)) * wrap64 (h + 1)) = 64 * (t + 1) * (t + 1) * (t + 1) * (s + 2) * (h + 1) * (h + 1) := by
  rw [w64 (t + 1) (by omega), w64 (s + 2) (by omega), w64 (h + 1) (by omega)]
  have h1 := mul_in (a := 64) (b := t + 1) (A := 64) (B := 65) (by omega) (by omega)
  have h2 := mul_in (b := t + 1) (B := 65) h1 (by omega)
  have h3 := mul_in (b := t + 1) (B := 65) h2 (by omega)
  have h4 := mul_in (b := s + 2) (B := 8388609) h3 (by omega)
  have h5 := mul_in (b := h + 1) (B := 17) h4 (by omega)
  have h6 := mul_in (b := h + 1) (B := 17) h5 (by omega)
  rw [w64 (64 * (t + 1)) (by omega), w64 (64 * (t + 1) * (t + 1)) (by omega), w64 (64 * (t + 1) * (t + 1) * (t + 1)) (by omega), w64 (64 * (t + 1) * (t + 1) * (t + 1) * (s + 2)) (by omega), w64 (64 * (t + 1) * (t + 1) * (t + 1) * (s + 2) * (h + 1)) (by omega), w64 _ (by omega)]
end Go.Proofs.Ytnlepgbmbdmjbaa
