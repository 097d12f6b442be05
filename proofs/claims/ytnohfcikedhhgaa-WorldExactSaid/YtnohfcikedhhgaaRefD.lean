/- The reference's places, in their order. -/
import Derived.Test.YtnohfcikedhhgaaRefC
namespace Go.Proofs.Ytnohfcikedhhgaa
open Go.RowKit Go.Maps Go.Sort
set_option maxRecDepth 100000

theorem exch {α : Type} (y0 y1 y2 x0 x1 x2 : α) (D : List α) : ∀ P : List α, ((((((P ++ y0 :: y1 :: y2 :: x0 :: x1 :: x2 :: D).set (P.length + 3) y0).set (P.length + 4) y1).set (P.length + 5) y2).set P.length x0).set (P.length + 1) x1).set (P.length + 2) x2 = P ++ x0 :: x1 :: x2 :: y0 :: y1 :: y2 :: D
  | [] => rfl
  | p :: P => by
    have ih := exch y0 y1 y2 x0 x1 x2 D P
    simp only [List.cons_append, List.length_cons, show P.length + 1 + 3 = P.length + 3 + 1 by omega, show P.length + 1 + 4 = P.length + 4 + 1 by omega, show P.length + 1 + 5 = P.length + 5 + 1 by omega, show P.length + 1 + 2 = P.length + 2 + 1 by omega, List.set_cons_succ]
    rw [ih]
def insAt (m : List Plc) (j : Nat) (x : Plc) : List Plc := m.take j ++ x :: m.drop j
theorem flatP_append (l m : List Plc) : flatP (l ++ m) = flatP l ++ flatP m := by simp [flatP]
theorem insAt_exch (m : List Plc) (j : Nat) (hj : j < m.length) (x : Plc) : ((((((flatP (insAt m (j + 1) x)).set (j * 3 + 3) (.int .i64 (m.getD j z3).1)).set (j * 3 + 4) (.int .i64 (m.getD j z3).2.1)).set (j * 3 + 5) (.int .i64 (m.getD j z3).2.2)).set (j * 3) (.int .i64 x.1)).set (j * 3 + 1) (.int .i64 x.2.1)).set (j * 3 + 2) (.int .i64 x.2.2) = flatP (insAt m j x) := by
  have hlen : (flatP (m.take j)).length = j * 3 := by rw [flatP_length]; simp; omega
  have e1 : flatP (insAt m (j + 1) x) = flatP (m.take j) ++ .int .i64 (m.getD j z3).1 :: .int .i64 (m.getD j z3).2.1 :: .int .i64 (m.getD j z3).2.2 :: .int .i64 x.1 :: .int .i64 x.2.1 :: .int .i64 x.2.2 :: flatP (m.drop (j + 1)) := by
    unfold insAt
    rw [flatP_append, List.take_succ_eq_append_getElem hj, flatP_append]
    simp [flatP, encP, hj]
  have e2 : flatP (insAt m j x) = flatP (m.take j) ++ .int .i64 x.1 :: .int .i64 x.2.1 :: .int .i64 x.2.2 :: .int .i64 (m.getD j z3).1 :: .int .i64 (m.getD j z3).2.1 :: .int .i64 (m.getD j z3).2.2 :: flatP (m.drop (j + 1)) := by
    unfold insAt
    have h0 : m.drop j = m[j] :: m.drop (j + 1) := List.drop_eq_getElem_cons hj
    have h1 : m.getD j z3 = m[j] := by simp [hj]
    rw [flatP_append, h0, h1]
    simp [flatP, encP, -List.getElem_cons_drop]
  rw [e1, e2, ← hlen]
  exact exch _ _ _ _ _ _ _ _
theorem insAt_get_self (m : List Plc) (j : Nat) (hj : j ≤ m.length) (x : Plc) : (insAt m j x).getD j z3 = x := by
  unfold insAt
  rw [List.getD_eq_getElem?_getD, List.getElem?_append_right (by simp; omega)]
  simp [Nat.min_eq_left hj]
theorem insAt_get_prev (m : List Plc) (j : Nat) (hj : j < m.length) (x : Plc) : (insAt m (j + 1) x).getD j z3 = m.getD j z3 := by
  unfold insAt
  rw [List.getD_eq_getElem?_getD, List.getElem?_append_left (by simp; omega)]
  simp [List.getElem?_take]
theorem insAt_length (m : List Plc) (j : Nat) (hj : j ≤ m.length) (x : Plc) : (insAt m j x).length = m.length + 1 := by unfold insAt; simp; omega
theorem rising_insAt {m : List Plc} {j : Nat} {x : Plc} (hm : Rising m) (hj : j ≤ m.length) (hx : x ∉ m) (hd : ∀ y ∈ m.drop j, ltOf cmpP x y = true) (hs : j = 0 ∨ ltOf cmpP x (m.getD (j - 1) z3) = false) : Rising (insAt m j x) := by
  have h1 : Rising (m.take j) := List.Pairwise.sublist (List.take_sublist _ _) hm
  have h2 : Rising (m.drop j) := List.Pairwise.sublist (List.drop_sublist _ _) hm
  have h3 : ∀ y ∈ m.take j, ltOf cmpP y x = true := by
    intro y hy
    obtain ⟨i, hi, rfl⟩ := List.getElem_of_mem hy
    have hi' : i < j := by simp at hi; omega
    rcases hs with rfl | hs
    · omega
    · have hjm : j - 1 < m.length := by omega
      have e : m.getD (j - 1) z3 = m[j - 1] := by simp [hjm]
      rw [e] at hs
      have hlt : ltOf cmpP m[j - 1] x = true := by
        rcases h : ltOf cmpP m[j - 1] x with _ | _
        · exact absurd (totP _ _ hs h) (fun e => hx (e ▸ List.getElem_mem hjm))
        · rfl
      rw [List.getElem_take]
      rcases Nat.lt_or_ge i (j - 1) with hlt2 | hge
      · exact swoP.trans _ _ _ (List.pairwise_iff_getElem.1 hm i (j - 1) (by omega) hjm hlt2) hlt
      · have : i = j - 1 := by omega
        subst this
        exact hlt
  unfold insAt Rising
  refine List.pairwise_append.2 ⟨h1, List.pairwise_cons.2 ⟨hd, h2⟩, fun a ha b hb => ?_⟩
  rcases List.mem_cons.1 hb with rfl | hb
  · exact h3 a ha
  · exact swoP.trans _ _ _ (h3 a ha) (hd b hb)
theorem mem_insAt {m : List Plc} {j : Nat} {x y : Plc} : y ∈ insAt m j x ↔ y = x ∨ y ∈ m := by
  unfold insAt
  conv => rhs; rw [← List.take_append_drop j m]
  simp only [List.mem_append, List.mem_cons]
  constructor
  · rintro (h | h | h)
    · exact .inr (.inl h)
    · exact .inl h
    · exact .inr (.inr h)
  · rintro (h | h | h)
    · exact .inr (.inl h)
    · exact .inl h
    · exact .inr (.inr h)
theorem getL_ne {l : List OneR} (h : (l.map (·.1)).Nodup) (x : Plc) : getL l x ≠ 0 ↔ ∃ v, (x, v) ∈ l ∧ v ≠ 0 := by
  induction l with
  | nil => simp [getL]
  | cons e l ih =>
    rw [List.map_cons, List.nodup_cons] at h
    have ih := ih h.2
    by_cases he : e.1 = x
    · subst he
      simp only [getL, if_true]
      constructor
      · intro hv; exact ⟨e.2, by simp, hv⟩
      · rintro ⟨v, hv, hne⟩
        rcases List.mem_cons.1 hv with e' | e'
        · rw [← e']; exact hne
        · exact absurd (List.mem_map.2 ⟨_, e', rfl⟩) h.1
    · simp only [getL, if_neg he]
      rw [ih]
      constructor
      · rintro ⟨v, hv, hne⟩; exact ⟨v, List.mem_cons_of_mem _ hv, hne⟩
      · rintro ⟨v, hv, hne⟩
        rcases List.mem_cons.1 hv with e' | e'
        · exact absurd (by rw [← e']) he
        · exact ⟨v, e', hne⟩
theorem ownsRow_rowP {w : World} {b : Nat} {v : Value} {m : List Plc} (h : w.ownsRow b 35 3 v m.length (flatP m)) : RowP w v m := by
  rcases h.2 with ⟨hv, h0⟩ | ⟨g, cap, cur, hv, _, hg, hn, hc, hcs, htk⟩
  · exact .inl ⟨List.eq_nil_of_length_eq_zero h0, hv⟩
  · refine .inr ⟨g, cap, hv, (Array.getElem?_eq_some_iff.1 hg).1, fun j hj => ?_⟩
    have each : ∀ c, c < 3 → w.cell? ⟨g, j * 3 + c, none⟩ = (encP (m.getD j z3))[c]? := fun c hc4 => by
      rw [← flatP_get m j c hj hc4, ← htk, List.getElem?_take_of_lt (by omega)]
      simp [World.cell?, hg]
    exact ⟨each 0 (by omega), each 1 (by omega), each 2 (by omega)⟩
end Go.Proofs.Ytnohfcikedhhgaa
