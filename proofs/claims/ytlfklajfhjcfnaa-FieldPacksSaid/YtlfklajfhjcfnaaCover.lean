/- Layer 1: fields side by side, from 0 on, that cover the word. -/
import Derived.Test.YtlfklajfhjcfnaaFieldF
namespace Go.Proofs.Ytlfklajfhjcfnaa
open Go.RowKit

/-- Side by side, from bit s on, up to bit e. -/
def cov : Nat → List (Int × Int) → Nat → Prop
  | s, [], e => s = e
  | s, p :: r, e => p.1 = (s : Int) ∧ ∃ b : Nat, p.2 = (b : Int) ∧ 1 ≤ b ∧ cov (s + b) r e
theorem cov_le : ∀ (fs : List (Int × Int)) (s e : Nat), cov s fs e → s + fs.length ≤ e
  | [], s, e, h => by simp [cov] at h; simp [h]
  | p :: r, s, e, h => by
    obtain ⟨_, b, _, hb, hr⟩ := h
    have := cov_le r (s + b) e hr
    simp; omega
theorem cov_snoc {n : Nat} (hn : 1 ≤ n) : ∀ (fs : List (Int × Int)) (s e : Nat), cov s fs e → cov s (fs ++ [((e : Int), (n : Int))]) (e + n)
  | [], s, e, h => by
    simp only [cov] at h
    subst h
    exact ⟨rfl, n, rfl, hn, rfl⟩
  | p :: r, s, e, h => by
    obtain ⟨h1, b, h2, hb, hr⟩ := h
    exact ⟨h1, b, h2, hb, cov_snoc hn r (s + b) e hr⟩
theorem cov_fits : ∀ (fs : List (Int × Int)) (s e : Nat), cov s fs e → e ≤ 64 → Fits fs
  | [], _, _, _, _ => fun _ hp => by simp at hp
  | p :: r, s, e, h, he => fun q hq => by
    obtain ⟨h1, b, h2, hb, hr⟩ := h
    have hl := cov_le r (s + b) e hr
    rcases List.mem_cons.1 hq with rfl | hq
    · omega
    · exact cov_fits r (s + b) e hr he q hq
theorem cov_is {s b : Nat} (hb : 1 ≤ b) (h : s + b ≤ 64) : isB (s : Int) (b : Int) = true := by simp [isB]; omega

theorem cov_apart : ∀ (fs : List (Int × Int)) (s e T : Nat), cov s fs e → e ≤ 64 → T < 2 ^ s → apartF T fs = true
  | [], _, _, _, _, _, _ => rfl
  | p :: r, s, e, T, h, he, hT => by
    obtain ⟨h1, b, h2, hb, hr⟩ := h
    have hl := cov_le r (s + b) e hr
    obtain ⟨p1, p2⟩ := p
    simp only at h1 h2
    subst h1 h2
    have his := cov_is hb (show s + b ≤ 64 by omega)
    have hm : mskN ((s : Int), (b : Int)) = maskN s b := by simp [mskN, his]
    have hz : T &&& maskN s b = 0 := by
      apply Nat.eq_of_testBit_eq
      intro i
      rw [Nat.testBit_and, maskN_testBit, Nat.zero_testBit]
      by_cases hi : s ≤ i
      · rw [Nat.testBit_lt_two_pow (Nat.lt_of_lt_of_le hT (Nat.pow_le_pow_right (by omega) hi))]; rfl
      · simp [hi]
    have hlt : maskN s b < 2 ^ (s + b) := by
      unfold maskN
      rw [Nat.add_comm, Nat.pow_add]
      exact Nat.mul_lt_mul_of_pos_right (by have := Nat.one_le_two_pow (n := b); omega) (Nat.two_pow_pos s)
    have hor : T ||| maskN s b < 2 ^ (s + b) := Nat.or_lt_two_pow (Nat.lt_of_lt_of_le hT (Nat.pow_le_pow_right (by omega) (by omega))) hlt
    simp only [apartF, his, hm, hz, decide_true, Bool.and_true, Bool.true_and]
    exact cov_apart r (s + b) e _ hr he hor

theorem cov_pack {X : Nat} (hX : X < 18446744073709551616) : ∀ (fs : List (Int × Int)) (s : Nat), cov s fs 64 → packW ((X % 2 ^ s : Nat) : Int) fs (gets fs X) = some (X : Int)
  | [], s, h => by
    simp only [cov] at h
    subst h
    simp only [packW]
    rw [Nat.mod_eq_of_lt (by simpa using hX)]
  | p :: r, s, h => by
    obtain ⟨h1, b, h2, hb, hr⟩ := h
    have hl := cov_le r (s + b) 64 hr
    obtain ⟨p1, p2⟩ := p
    simp only at h1 h2
    subst h1 h2
    have his := cov_is hb (show s + b ≤ 64 by omega)
    have hg : getI (s : Int) (b : Int) (X : Int) = ((getN s b X : Nat) : Int) := by simp [getI, his]
    have hgl := getN_lt s b X
    have hok : okB (s : Int) (b : Int) ((getN s b X : Nat) : Int) = true := by
      simp only [okB, his, maxI_nat hb (show s + b ≤ 64 by omega), Bool.true_and, decide_eq_true_eq]
      omega
    have hp : putI (s : Int) (b : Int) ((X % 2 ^ s : Nat) : Int) ((getN s b X : Nat) : Int) = ((X % 2 ^ (s + b) : Nat) : Int) := by
      simp only [putI, Int.toNat_natCast]
      congr 1
      apply Nat.eq_of_testBit_eq
      intro i
      rw [putN_testBit (by omega) (Nat.lt_of_le_of_lt (Nat.mod_le _ _) hX) hgl, Nat.testBit_mod_two_pow, Nat.testBit_mod_two_pow, getN_testBit]
      by_cases hi : s ≤ i ∧ i < s + b
      · rw [if_pos hi, show s + (i - s) = i by omega]
        simp [hi.2]
        omega
      · rw [if_neg hi]
        by_cases h3 : i < s
        · simp [h3]; omega
        · have h4 : ¬ i < s + b := by omega
          simp [h3, h4]
    simp only [packW, gets, List.map_cons, hg, hok, if_true, hp]
    exact cov_pack hX r (s + b) hr

theorem gets_words (fs : List (Int × Int)) (X : Nat) (hX : X < 18446744073709551616) : Words (gets fs X) := by
  intro x hx
  obtain ⟨p, _, rfl⟩ := List.mem_map.1 hx
  unfold getI
  split
  · rw [Int.toNat_natCast]
    have : getN p.1.toNat p.2.toNat X ≤ X := Nat.le_trans (Nat.mod_le _ _) (Nat.div_le_self _ _)
    omega
  · omega

/-- Fields, laid flat. -/
def flat (fs : List (Int × Int)) : List Value := fs.flatMap fun p => [.int .i64 p.1, .int .i64 p.2]
theorem flat_snoc (fs : List (Int × Int)) (a b : Int) : flat (fs ++ [(a, b)]) = flat fs ++ [.int .i64 a, .int .i64 b] := by simp [flat]
theorem flat_length (fs : List (Int × Int)) : (flat fs).length = fs.length * 2 := by
  induction fs with
  | nil => rfl
  | cons p r ih => simp only [flat, List.flatMap_cons, List.length_append] at *; simp [ih]; omega
theorem flat_at : ∀ (fs : List (Int × Int)) (i : Nat), i < fs.length → (flat fs)[i * 2]? = some (.int .i64 (fs.getD i (0, 0)).1) ∧ (flat fs)[i * 2 + 1]? = some (.int .i64 (fs.getD i (0, 0)).2)
  | [], i, h => by simp at h
  | p :: r, 0, _ => by simp [flat]
  | p :: r, i + 1, h => by
    have := flat_at r i (by simpa using h)
    simp only [flat, List.flatMap_cons, List.getD_cons_succ] at *
    rw [show (i + 1) * 2 = i * 2 + 1 + 1 by omega]
    simpa using this
/-- A row of the call's own, as a slice of fields. -/
theorem own_fld {w : World} {base e : Nat} {v : Value} {fs : List (Int × Int)} (h : w.ownsRow base e 2 v fs.length (flat fs)) : ∃ A cap, v = .slice A fs.length cap ∧ FldRow w A fs := by
  rcases h.2 with ⟨hv, hz⟩ | ⟨g, cap, cur, hv, hg, hh, _⟩
  · exact ⟨none, 0, by rw [hv, hz], Or.inl (List.length_eq_zero_iff.1 hz)⟩
  · refine ⟨some ⟨g, 0, none⟩, cap, hv, Or.inr ⟨g, 0, rfl, (Array.getElem?_eq_some_iff.1 hh).1, fun i hi => ?_⟩⟩
    subst hv
    obtain ⟨f1, f2⟩ := flat_at fs i hi
    rw [Nat.zero_add, h.cellAt (i * 2) (by omega), h.cellAt (i * 2 + 1) (by omega)]
    exact ⟨f1, f2⟩
end Go.Proofs.Ytlfklajfhjcfnaa
