/- A number put into a rising row, step by step from behind. -/
import Derived.Test.YtlefhcaoblenaaaSoulM
import Derived.Test.YtlefhcaoblenaaaOwn
namespace Go.Proofs.Ytlefhcaoblenaaa
open Go.RowKit

def insZ (m : List Int) (j : Nat) (x : Int) : List Int := m.take j ++ x :: m.drop j
theorem insZ_end (m : List Int) (x : Int) : insZ m m.length x = m ++ [x] := by simp [insZ]
theorem exchZ {α : Type} (y x : α) (D : List α) : ∀ P : List α, ((P ++ y :: x :: D).set (P.length + 1) y).set P.length x = P ++ x :: y :: D
  | [] => rfl
  | p :: P => by simp only [List.cons_append, List.length_cons, List.set_cons_succ]; rw [exchZ y x D P]
theorem insZ_exch (m : List Int) (j : Nat) (hj : j < m.length) (x : Int) : ((ints (insZ m (j + 1) x)).set (j + 1) (.int .i64 (m.getD j 0))).set j (.int .i64 x) = ints (insZ m j x) := by
  have hlen : (ints (m.take j)).length = j := by simp [ints]; omega
  have h1 : m.getD j 0 = m[j] := by simp [hj]
  have e1 : ints (insZ m (j + 1) x) = ints (m.take j) ++ .int .i64 (m.getD j 0) :: .int .i64 x :: ints (m.drop (j + 1)) := by
    unfold insZ
    rw [ints_append, List.take_succ_eq_append_getElem hj, ints_append, h1]
    simp [ints]
  have e2 : ints (insZ m j x) = ints (m.take j) ++ .int .i64 x :: .int .i64 (m.getD j 0) :: ints (m.drop (j + 1)) := by
    unfold insZ
    have h0 : m.drop j = m[j] :: m.drop (j + 1) := List.drop_eq_getElem_cons hj
    rw [ints_append, h0, h1]
    simp [ints, -List.getElem_cons_drop]
  rw [e1, e2]
  have := exchZ (Value.int .i64 (m.getD j 0)) (Value.int .i64 x) (ints (m.drop (j + 1))) (ints (m.take j))
  rwa [hlen] at this
theorem insZ_self (m : List Int) (j : Nat) (hj : j ≤ m.length) (x : Int) : (insZ m j x).getD j 0 = x := by
  unfold insZ
  rw [List.getD_eq_getElem?_getD, List.getElem?_append_right (by simp; omega)]
  simp [Nat.min_eq_left hj]
theorem insZ_prev (m : List Int) (j : Nat) (hj : j < m.length) (x : Int) : (insZ m (j + 1) x).getD j 0 = m.getD j 0 := by
  unfold insZ
  rw [List.getD_eq_getElem?_getD, List.getElem?_append_left (by simp; omega)]
  simp [List.getElem?_take]
theorem insZ_length (m : List Int) (j : Nat) (hj : j ≤ m.length) (x : Int) : (insZ m j x).length = m.length + 1 := by unfold insZ; simp; omega
theorem mem_insZ (m : List Int) (j : Nat) (x y : Int) : y ∈ insZ m j x ↔ y = x ∨ y ∈ m := by
  unfold insZ
  conv => rhs; rw [← List.take_append_drop j m]
  simp only [List.mem_append, List.mem_cons]
  constructor
  · rintro (h | h | h)
    · exact .inr (.inl h)
    · exact .inl h
    · exact .inr (.inr h)
  · rintro (h | h | h)
    · exact .inr (.inl h)
    · exact .inl h
    · exact .inr (.inr h)
theorem rises_insZ {m : List Int} {j : Nat} {x : Int} (hm : Rises m) (hj : j ≤ m.length) (hx : x ∉ m) (hd : ∀ y ∈ m.drop j, x < y) (hs : j = 0 ∨ ¬ x < m.getD (j - 1) 0) : Rises (insZ m j x) := by
  have h1 : Rises (m.take j) := List.Pairwise.sublist (List.take_sublist _ _) hm
  have h2 : Rises (m.drop j) := List.Pairwise.sublist (List.drop_sublist _ _) hm
  have h3 : ∀ y ∈ m.take j, y < x := by
    intro y hy
    obtain ⟨i, hi, rfl⟩ := List.getElem_of_mem hy
    have hi' : i < j := by simp at hi; omega
    rcases hs with rfl | hs
    · omega
    · have hjm : j - 1 < m.length := by omega
      have e : m.getD (j - 1) 0 = m[j - 1] := by simp [hjm]
      rw [e] at hs
      have hne : m[j - 1] ≠ x := fun e => hx (e ▸ List.getElem_mem hjm)
      rw [List.getElem_take]
      rcases Nat.lt_or_ge i (j - 1) with hlt2 | hge
      · have := List.pairwise_iff_getElem.1 hm i (j - 1) (by omega) hjm hlt2
        omega
      · have : i = j - 1 := by omega
        subst this
        omega
  unfold insZ Rises
  refine List.pairwise_append.2 ⟨h1, List.pairwise_cons.2 ⟨hd, h2⟩, fun a ha b hb => ?_⟩
  rcases List.mem_cons.1 hb with rfl | hb
  · exact h3 a ha
  · have := h3 a ha; have := hd b hb; omega
end Go.Proofs.Ytlefhcaoblenaaa
