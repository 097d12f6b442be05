/- Layer 5: the plain mathematics of places. -/
import Derived.Test.YtnlepgbmbdmjbaaConfM
namespace Go.Proofs.Ytnlepgbmbdmjbaa
open Go.RowKit
set_option maxRecDepth 100000

/-- Which places could be: those of which each structure has one, the roots, the slots' cells. -/
def singB (x y z : Int) : Bool := decide (1 ≤ x ∧ x ≤ 3 ∧ y = 0 ∧ z = 0)
def rootB (x y z : Int) : Bool := decide (x = 4 ∧ y = 0 ∧ 0 ≤ z)
def cellB (x y z : Int) : Bool := decide (x = 5 ∧ 1 ≤ y ∧ 0 ≤ z)
def contB (x z : Int) : Bool := decide (x = 5 ∧ 0 ≤ z ∧ z ≠ 1 ∧ z ≠ 2)
/-- A place of a structure with R roots and S slots of C cells; its number. -/
def isB (R C S x y z : Int) : Bool := decide ((1 ≤ x ∧ x ≤ 3 ∧ y = 0 ∧ z = 0) ∨ (x = 4 ∧ y = 0 ∧ 0 ≤ z ∧ z < R) ∨ (x = 5 ∧ 1 ≤ y ∧ y ≤ S ∧ 0 ≤ z ∧ z < C))
def numI (R C x y z : Int) : Int := if x ≤ 3 then x - 1 else if x = 4 then 3 + z else 3 + R + (y - 1) * C + z
theorem isB_iff (R C S x y z : Int) : isB R C S x y z = true ↔ ((1 ≤ x ∧ x ≤ 3 ∧ y = 0 ∧ z = 0) ∨ (x = 4 ∧ y = 0 ∧ 0 ≤ z ∧ z < R) ∨ (x = 5 ∧ 1 ≤ y ∧ y ≤ S ∧ 0 ≤ z ∧ z < C)) := by unfold isB; rw [decide_eq_true_iff]
/-- .. of a structure as it was handed in. -/
def placeB (k s b h l x y z : Int) : Bool := decide (chkI k s b h l = 0) && isB (rootsI k s b h l) (cellsI k s b h l) s x y z
def placeI (k s b h l x y z : Int) : Int := if placeB k s b h l x y z then numI (rootsI k s b h l) (cellsI k s b h l) x y z else 0
def countI (k s b h l : Int) : Int := if chkI k s b h l = 0 then 3 + rootsI k s b h l + s * cellsI k s b h l else 0
/-- The place of a number. -/
def atP (R C n : Int) : Int × Int × Int := if n < 3 then (n + 1, 0, 0) else if n < 3 + R then (4, 0, n - 3) else (5, (n - 3 - R) / C + 1, (n - 3 - R) % C)
def hasB (k s b h l n : Int) : Bool := decide (0 ≤ n ∧ n < countI k s b h l)
def atI (k s b h l n : Int) : Int × Int × Int := if hasB k s b h l n then atP (rootsI k s b h l) (cellsI k s b h l) n else (0, 0, 0)

theorem is_sing {R C S x y z : Int} (h : singB x y z = true) : isB R C S x y z = true ∧ wrap64 (x - 1) = numI R C x y z := by
  unfold singB at h
  rw [decide_eq_true_iff] at h
  refine ⟨(isB_iff ..).2 (.inl h), ?_⟩
  unfold numI
  rw [if_pos (by omega)]
  exact w64 _ (by omega)
theorem is_none {R C S x y z : Int} (h1 : singB x y z = false) (h2 : rootB x y z = false ∨ R ≤ z) (h3 : cellB x y z = false ∨ S < y ∨ C ≤ z) : isB R C S x y z = false := by
  unfold singB at h1
  unfold rootB at h2
  unfold cellB at h3
  rw [decide_eq_false_iff_not] at h1 h2 h3
  rw [Bool.eq_false_iff, ne_eq, isB_iff]
  omega

/-- The place behind one, in the row; whether there is one. -/
def nextP (R C x y z : Int) : Int × Int × Int := if x < 3 then (x + 1, 0, 0) else if x = 3 then (4, 0, 0) else if x = 4 then (if z < R - 1 then (4, 0, z + 1) else (5, 1, 0)) else if z < C - 1 then (5, y, z + 1) else (5, y + 1, 0)
def moreB (C S x y z : Int) : Bool := decide (x ≠ 5 ∨ z < C - 1 ∨ y < S)
/-- The numbers of a structure that can be. -/
structure Dim (R C S : Int) : Prop where
  r0 : 1 ≤ R
  r1 : R ≤ 64
  c0 : 8 ≤ C
  c1 : C ≤ 23
  s0 : 1 ≤ S
  s1 : S ≤ 8388607
theorem dim_of {k s b h l : Int} (hc : chkI k s b h l = 0) : Dim (rootsI k s b h l) (cellsI k s b h l) s ∧ cellsI k s b h l = 7 + h ∧ 1 ≤ h ∧ h ≤ 16 := by
  obtain ⟨hk, hs, hl, hb, hh⟩ := chk_yes hc
  have hR : rootsI k s b h l = if k = 2 then b else h := by unfold rootsI; rw [if_pos hc]
  have hC : cellsI k s b h l = 7 + h := by unfold cellsI; rw [if_pos hc]
  refine ⟨?_, hC, by omega, by omega⟩
  rw [hC]
  by_cases h2 : k = 2
  · rw [if_pos h2] at hR
    rw [hR]
    exact ⟨by omega, by omega, by omega, by omega, by omega, by omega⟩
  · rw [if_neg h2] at hR
    rw [hR]
    exact ⟨by omega, by omega, by omega, by omega, by omega, by omega⟩

section
variable {R C S : Int} (d : Dim R C S)
include d
theorem sc_in : 0 ≤ S * C ∧ S * C ≤ 8388607 * 23 := by
  obtain ⟨r0, r1, c0, c1, s0, s1⟩ := d
  exact mul_in (by omega) (by omega)
/-- The row in front of a slot. -/
theorem row_in {y : Int} (h1 : 1 ≤ y) (h2 : y ≤ S) : 0 ≤ (y - 1) * C ∧ (y - 1) * C + C ≤ S * C := by
  obtain ⟨r0, r1, c0, c1, s0, s1⟩ := d
  refine ⟨Int.mul_nonneg (by omega) (by omega), ?_⟩
  have h3 : (y - 1 + 1) * C ≤ S * C := Int.mul_le_mul_of_nonneg_right (by omega) (by omega)
  rw [Int.add_mul, Int.one_mul] at h3
  exact h3
theorem num_in {x y z : Int} (hp : isB R C S x y z = true) : 0 ≤ numI R C x y z ∧ numI R C x y z < 3 + R + S * C := by
  have hd := d
  obtain ⟨r0, r1, c0, c1, s0, s1⟩ := d
  have hsc := sc_in hd
  rw [isB_iff] at hp
  unfold numI
  rcases hp with ⟨h1, h2, rfl, rfl⟩ | ⟨rfl, rfl, h1, h2⟩ | ⟨rfl, h1, h2, h3, h4⟩
  · rw [if_pos h2]; omega
  · rw [if_neg (by omega), if_pos rfl]; omega
  · rw [if_neg (by omega), if_neg (by omega)]
    have := row_in hd h1 h2
    omega
theorem num_wrap {y z : Int} (h1 : 1 ≤ y) (h2 : y ≤ S) (h3 : 0 ≤ z) (h4 : z < C) : wrap64 (wrap64 (wrap64 (3 + R) + wrap64 (wrap64 (y - 1) * C)) + z) = 3 + R + (y - 1) * C + z := by
  have hd := d
  obtain ⟨r0, r1, c0, c1, s0, s1⟩ := d
  have := row_in hd h1 h2
  have hsc := sc_in hd
  rw [w64 (3 + R) (by omega), w64 (y - 1) (by omega), w64 ((y - 1) * C) (by omega), w64 (3 + R + (y - 1) * C) (by omega), w64 _ (by omega)]
theorem count_wrap : wrap64 (wrap64 (3 + R) + wrap64 (S * C)) = 3 + R + S * C := by
  have hd := d
  obtain ⟨r0, r1, c0, c1, s0, s1⟩ := d
  have hsc := sc_in hd
  rw [w64 (3 + R) (by omega), w64 (S * C) (by omega), w64 _ (by omega)]
theorem is_root {x y z : Int} (h : rootB x y z = true) (hz : z < R) : isB R C S x y z = true ∧ wrap64 (3 + z) = numI R C x y z := by
  obtain ⟨r0, r1, c0, c1, s0, s1⟩ := d
  unfold rootB at h
  rw [decide_eq_true_iff] at h
  obtain ⟨rfl, rfl, h⟩ := h
  refine ⟨(isB_iff ..).2 (.inr (.inl ⟨rfl, rfl, h, hz⟩)), ?_⟩
  unfold numI
  rw [if_neg (by omega), if_pos rfl]
  exact w64 _ (by omega)
theorem is_cell {x y z : Int} (h : cellB x y z = true) (hy : y ≤ S) (hz : z < C) : isB R C S x y z = true ∧ wrap64 (wrap64 (wrap64 (3 + R) + wrap64 (wrap64 (y - 1) * C)) + z) = numI R C x y z := by
  unfold cellB at h
  rw [decide_eq_true_iff] at h
  obtain ⟨rfl, h1, h2⟩ := h
  refine ⟨(isB_iff ..).2 (.inr (.inr ⟨rfl, h1, hy, h2, hz⟩)), ?_⟩
  unfold numI
  rw [if_neg (by omega), if_neg (by omega)]
  exact num_wrap d h1 hy h2 hz
/-- The number's place has that number; a place's number is its. -/
theorem at_is {n : Int} (h0 : 0 ≤ n) (h1 : n < 3 + R + S * C) : isB R C S (atP R C n).1 (atP R C n).2.1 (atP R C n).2.2 = true ∧ numI R C (atP R C n).1 (atP R C n).2.1 (atP R C n).2.2 = n := by
  obtain ⟨r0, r1, c0, c1, s0, s1⟩ := d
  rw [isB_iff]
  unfold atP
  by_cases h3 : n < 3
  · rw [if_pos h3]
    simp only [numI]
    rw [if_pos (by omega)]
    exact ⟨.inl ⟨by omega, by omega, trivial, trivial⟩, by omega⟩
  · rw [if_neg h3]
    by_cases hr : n < 3 + R
    · rw [if_pos hr]
      simp only [numI]
      rw [if_neg (by omega), if_pos trivial]
      exact ⟨.inr (.inl ⟨trivial, trivial, by omega, by omega⟩), by omega⟩
    · rw [if_neg hr]
      simp only [numI]
      rw [if_neg (by omega), if_neg (by omega)]
      have e := Int.emod_add_mul_ediv (n - 3 - R) C
      have p0 := Int.emod_nonneg (n - 3 - R) (show C ≠ 0 by omega)
      have p1 := Int.emod_lt_of_pos (n - 3 - R) (show 0 < C by omega)
      have q0 : 0 ≤ (n - 3 - R) / C := Int.ediv_nonneg (by omega) (by omega)
      have q1 : (n - 3 - R) / C < S := Int.ediv_lt_of_lt_mul (by omega) (by omega)
      have ec : (n - 3 - R) / C * C = C * ((n - 3 - R) / C) := Int.mul_comm _ _
      refine ⟨.inr (.inr ⟨trivial, by omega, by omega, by omega, by omega⟩), ?_⟩
      rw [show (n - 3 - R) / C + 1 - 1 = (n - 3 - R) / C by omega, ec]
      omega
theorem at_num {x y z : Int} (hp : isB R C S x y z = true) : atP R C (numI R C x y z) = (x, y, z) := by
  have hd := d
  obtain ⟨r0, r1, c0, c1, s0, s1⟩ := d
  rw [isB_iff] at hp
  rcases hp with ⟨h1, h2, rfl, rfl⟩ | ⟨rfl, rfl, h1, h2⟩ | ⟨rfl, h1, h2, h3, h4⟩
  · have e : numI R C x 0 0 = x - 1 := by unfold numI; rw [if_pos h2]
    rw [e]
    unfold atP
    rw [if_pos (by omega)]
    simp only [Prod.mk.injEq, and_true]
    omega
  · have e : numI R C 4 0 z = 3 + z := by unfold numI; rw [if_neg (by omega), if_pos rfl]
    rw [e]
    unfold atP
    rw [if_neg (by omega), if_pos (by omega)]
    simp only [Prod.mk.injEq, true_and]
    omega
  · have e : numI R C 5 y z = 3 + R + (y - 1) * C + z := by unfold numI; rw [if_neg (by omega), if_neg (by omega)]
    have hrow := row_in hd h1 h2
    rw [e]
    unfold atP
    rw [if_neg (by omega), if_neg (by omega)]
    have e2 : 3 + R + (y - 1) * C + z - 3 - R = z + (y - 1) * C := by omega
    rw [e2, Int.add_mul_ediv_right _ _ (show C ≠ 0 by omega), Int.add_mul_emod_self_right, Int.ediv_eq_zero_of_lt h3 h4, Int.emod_eq_of_lt h3 h4]
    simp only [Prod.mk.injEq, true_and, and_true]
    omega
/-- What the division by the cells comes to: nothing goes round. -/
theorem at_wrap {n : Int} (h0 : 3 + R ≤ n) (h1 : n < 3 + R + S * C) : wrap64 (wrap64 (n - 3) - R) = n - 3 - R ∧ wrap64 (wrap64 ((n - 3 - R).tdiv C) + 1) = (n - 3 - R) / C + 1 ∧ (n - 3 - R).tmod C = (n - 3 - R) % C := by
  have hd := d
  obtain ⟨r0, r1, c0, c1, s0, s1⟩ := d
  have hsc := sc_in hd
  have p0 := Int.emod_nonneg (n - 3 - R) (show C ≠ 0 by omega)
  have p1 := Int.emod_lt_of_pos (n - 3 - R) (show 0 < C by omega)
  have q0 : 0 ≤ (n - 3 - R) / C := Int.ediv_nonneg (by omega) (by omega)
  have q1 : (n - 3 - R) / C < S := Int.ediv_lt_of_lt_mul (by omega) (by omega)
  rw [Int.tdiv_eq_ediv_of_nonneg (by omega), Int.tmod_eq_emod_of_nonneg (by omega)]
  refine ⟨by rw [w64 (n - 3) (by omega), w64 _ (by omega)], by rw [w64 ((n - 3 - R) / C) (by omega), w64 _ (by omega)], rfl⟩
/-- The place behind one, in the row. -/
theorem next_is {x y z : Int} (hp : isB R C S x y z = true) (hm : moreB C S x y z = true) : isB R C S (nextP R C x y z).1 (nextP R C x y z).2.1 (nextP R C x y z).2.2 = true ∧ numI R C (nextP R C x y z).1 (nextP R C x y z).2.1 (nextP R C x y z).2.2 = numI R C x y z + 1 := by
  obtain ⟨r0, r1, c0, c1, s0, s1⟩ := d
  rw [isB_iff] at hp
  unfold moreB at hm
  rw [decide_eq_true_iff] at hm
  rcases hp with ⟨h1, h2, rfl, rfl⟩ | ⟨rfl, rfl, h1, h2⟩ | ⟨rfl, h1, h2, h3, h4⟩
  · by_cases h3 : x < 3
    · have e : nextP R C x 0 0 = (x + 1, 0, 0) := by unfold nextP; rw [if_pos h3]
      rw [e]
      dsimp only
      refine ⟨(isB_iff ..).2 (.inl ⟨by omega, by omega, rfl, rfl⟩), ?_⟩
      simp only [numI]
      rw [if_pos (by omega), if_pos (by omega)]
      omega
    · obtain rfl : x = 3 := by omega
      have e : nextP R C 3 0 0 = (4, 0, 0) := rfl
      rw [e]
      dsimp only
      refine ⟨(isB_iff ..).2 (.inr (.inl ⟨rfl, rfl, by omega, by omega⟩)), rfl⟩
  · by_cases h3 : z < R - 1
    · have e : nextP R C 4 0 z = (4, 0, z + 1) := by unfold nextP; rw [if_neg (by omega), if_neg (by omega), if_pos rfl, if_pos h3]
      rw [e]
      dsimp only
      refine ⟨(isB_iff ..).2 (.inr (.inl ⟨rfl, rfl, by omega, by omega⟩)), ?_⟩
      simp only [numI]
      rw [if_neg (by omega), if_pos trivial, if_neg (by omega), if_pos trivial]
      omega
    · have e : nextP R C 4 0 z = (5, 1, 0) := by unfold nextP; rw [if_neg (by omega), if_neg (by omega), if_pos rfl, if_neg h3]
      rw [e]
      dsimp only
      refine ⟨(isB_iff ..).2 (.inr (.inr ⟨rfl, by omega, by omega, by omega, by omega⟩)), ?_⟩
      have e1 : numI R C 5 1 0 = 3 + R + (1 - 1) * C + 0 := by unfold numI; rw [if_neg (by omega), if_neg (by omega)]
      have e2 : numI R C 4 0 z = 3 + z := by unfold numI; rw [if_neg (by omega), if_pos rfl]
      show numI R C 5 1 0 = _
      rw [e1, e2, show (1 : Int) - 1 = 0 by omega, Int.zero_mul]
      omega
  · have e2 : numI R C 5 y z = 3 + R + (y - 1) * C + z := by unfold numI; rw [if_neg (by omega), if_neg (by omega)]
    by_cases h5 : z < C - 1
    · have e : nextP R C 5 y z = (5, y, z + 1) := by unfold nextP; rw [if_neg (by omega), if_neg (by omega), if_neg (by omega), if_pos h5]
      rw [e, e2]
      dsimp only
      refine ⟨(isB_iff ..).2 (.inr (.inr ⟨rfl, h1, h2, by omega, by omega⟩)), ?_⟩
      have e1 : numI R C 5 y (z + 1) = 3 + R + (y - 1) * C + (z + 1) := by unfold numI; rw [if_neg (by omega), if_neg (by omega)]
      show numI R C 5 y (z + 1) = _
      rw [e1]
      omega
    · have e : nextP R C 5 y z = (5, y + 1, 0) := by unfold nextP; rw [if_neg (by omega), if_neg (by omega), if_neg (by omega), if_neg h5]
      rw [e, e2]
      dsimp only
      refine ⟨(isB_iff ..).2 (.inr (.inr ⟨rfl, by omega, by omega, by omega, by omega⟩)), ?_⟩
      have e1 : numI R C 5 (y + 1) 0 = 3 + R + (y + 1 - 1) * C + 0 := by unfold numI; rw [if_neg (by omega), if_neg (by omega)]
      show numI R C 5 (y + 1) 0 = _
      rw [e1, show y + 1 - 1 = (y - 1) + 1 by omega, Int.add_mul, Int.one_mul]
      omega
theorem next_no {x y z : Int} (hp : isB R C S x y z = true) (hm : moreB C S x y z = false) : numI R C x y z + 1 = 3 + R + S * C := by
  obtain ⟨r0, r1, c0, c1, s0, s1⟩ := d
  rw [isB_iff] at hp
  unfold moreB at hm
  rw [decide_eq_false_iff_not] at hm
  obtain rfl : x = 5 := by omega
  obtain ⟨h2, h3, h4, h5⟩ : 1 ≤ y ∧ y ≤ S ∧ 0 ≤ z ∧ z < C := by omega
  have e2 : numI R C 5 y z = 3 + R + (y - 1) * C + z := by unfold numI; rw [if_neg (by omega), if_neg (by omega)]
  obtain rfl : y = S := by omega
  have e3 : y * C = (y - 1) * C + C := by rw [Int.sub_mul, Int.one_mul]; omega
  rw [e2, e3]
  omega
/-- .. as the place of the next number. -/
theorem next_at {x y z : Int} (hp : isB R C S x y z = true) : moreB C S x y z = decide (0 ≤ numI R C x y z + 1 ∧ numI R C x y z + 1 < 3 + R + S * C) ∧ (moreB C S x y z = true → atP R C (numI R C x y z + 1) = nextP R C x y z) := by
  have hn := num_in d hp
  cases hm : moreB C S x y z
  · have := next_no d hp hm
    exact ⟨(decide_eq_false (by omega)).symm, fun h => by cases h⟩
  · obtain ⟨h1, h2⟩ := next_is d hp hm
    have h3 := num_in d h1
    rw [h2] at h3
    refine ⟨(decide_eq_true (by omega)).symm, fun _ => ?_⟩
    rw [← h2, at_num d h1]
end
end Go.Proofs.Ytnlepgbmbdmjbaa
