/- Layer 1: the plain mathematics of rows of fields. -/
import Derived.Test.YtlfklajfhjcfnaaFieldM
namespace Go.Proofs.Ytlfklajfhjcfnaa
open Go.RowKit

/-- The bits of a field, as a number. -/
def mskN (p : Int × Int) : Nat := if isB p.1 p.2 then maskN p.1.toNat p.2.toNat else 0
theorem mskN_eq (a b : Int) : maskI a b = (mskN (a, b) : Nat) := by unfold maskI mskN; split <;> rfl
theorem mskN_lt (p : Int × Int) : mskN p < 18446744073709551616 := by
  unfold mskN
  split
  · rename_i h
    obtain ⟨h1, h2, h3⟩ := isB_parts h
    exact maskN_lt (by omega)
  · decide
/-- Whether all can be and no two have a bit in common, where T are the bits that are taken already. -/
def apartF : Nat → List (Int × Int) → Bool
  | _, [] => true
  | T, p :: r => isB p.1 p.2 && decide (T &&& mskN p = 0) && apartF (T ||| mskN p) r
theorem or_lt64 {T M : Nat} (h : T < 18446744073709551616) (h' : M < 18446744073709551616) : T ||| M < 18446744073709551616 :=
  Nat.or_lt_two_pow (n := 64) (by simpa using h) (by simpa using h')

/-- A row of fields in memory: two cells each. -/
def FldRow (w : World) (A : Option Addr) (fs : List (Int × Int)) : Prop :=
  fs = [] ∨ ∃ b off, A = some ⟨b, off, none⟩ ∧ b < w.heap.size ∧ ∀ i, i < fs.length → w.cell? ⟨b, off + i * 2, none⟩ = some (.int .i64 (fs.getD i (0, 0)).1) ∧ w.cell? ⟨b, off + i * 2 + 1, none⟩ = some (.int .i64 (fs.getD i (0, 0)).2)
/-- Its numbers are ints. -/
def Fits (fs : List (Int × Int)) : Prop := ∀ p ∈ fs, (-9223372036854775808 ≤ p.1 ∧ p.1 ≤ 9223372036854775807) ∧ (-9223372036854775808 ≤ p.2 ∧ p.2 ≤ 9223372036854775807)
theorem Fits.at_ {fs : List (Int × Int)} (h : Fits fs) {i : Nat} (hi : i < fs.length) : (-9223372036854775808 ≤ (fs.getD i (0, 0)).1 ∧ (fs.getD i (0, 0)).1 ≤ 9223372036854775807) ∧ (-9223372036854775808 ≤ (fs.getD i (0, 0)).2 ∧ (fs.getD i (0, 0)).2 ≤ 9223372036854775807) := by
  rw [List.getD_eq_getElem?_getD, List.getElem?_eq_getElem hi]
  exact h _ (List.getElem_mem hi)
theorem drop_at {fs : List (Int × Int)} {i : Nat} (hi : i < fs.length) : fs.drop i = (fs.getD i (0, 0)) :: fs.drop (i + 1) := by
  rw [List.drop_eq_getElem_cons hi, List.getD_eq_getElem?_getD, List.getElem?_eq_getElem hi]
  rfl
theorem FldRow.below {w w' : World} {B : Nat} {A : Option Addr} {fs : List (Int × Int)} (h : FldRow w A fs) (hB : w.heap.size ≤ B) (hb : Below B w w') : FldRow w' A fs := by
  rcases h with h | ⟨b, off, hA, hlt, hc⟩
  · exact Or.inl h
  · refine Or.inr ⟨b, off, hA, by have := hb.size; omega, fun i hi => ?_⟩
    rw [hb.cell (p := ⟨b, off + i * 2, none⟩) (by simp; omega), hb.cell (p := ⟨b, off + i * 2 + 1, none⟩) (by simp; omega)]
    exact hc i hi
end Go.Proofs.Ytlfklajfhjcfnaa
