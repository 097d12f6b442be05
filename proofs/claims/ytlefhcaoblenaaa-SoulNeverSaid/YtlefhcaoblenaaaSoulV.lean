/- Souls: mathematics of SoulNever: who isn't any more never is again; what all slots ever were, counted. -/
import Derived.Test.YtlefhcaoblenaaaSoulM
namespace Go.Proofs.Ytlefhcaoblenaaa

theorem slotL_append (l r : List Int) (i : Int) (h : i ≤ l.length) : slotL (l ++ r) i = slotL l i := by
  unfold slotL
  by_cases h1 : 1 ≤ i
  · have h2 : i ≤ (l ++ r).length := by simp; omega
    rw [if_pos ⟨h1, h2⟩, if_pos ⟨h1, h⟩]
    obtain ⟨k, rfl⟩ : ∃ k : Nat, i = (k : Int) + 1 := ⟨(i - 1).toNat, by omega⟩
    rw [show ((k : Int) + 1 - 1).toNat = k by omega]
    have : k < l.length := by omega
    simp [List.getD, List.getElem?_append_left this]
  · rw [if_neg (by omega), if_neg (by omega)]
theorem slotL_mem {l : List Int} {i : Int} (h1 : 1 ≤ i) (h : i ≤ l.length) : slotL l i ∈ l := by
  unfold slotL
  rw [if_pos ⟨h1, h⟩]
  obtain ⟨k, rfl⟩ : ∃ k : Nat, i = (k : Int) + 1 := ⟨(i - 1).toNat, by omega⟩
  rw [show ((k : Int) + 1 - 1).toNat = k by omega]
  have : k < l.length := by omega
  simp [this]
/-- Who isn't any more never is again. -/
theorem never_again {l : List Int} {x i : Int} (hi : i ≤ l.length) (h : nowL l x ≠ i) : ∀ r : List Int, nowL (l ++ r) x ≠ i := by
  intro r
  induction r generalizing l with
  | nil => simpa using h
  | cons y r ih =>
    rw [show l ++ y :: r = (l ++ [y]) ++ r by simp]
    refine ih (by simp; omega) ?_
    rw [nowL_snoc]
    split
    · omega
    · exact h
def was1 (l : List Int) (i : Int) : Int := if nowL l (slotL l i) = i then 1 else 0
def wasL (l : List Int) (k : Nat) : List Int := (List.range k).map fun (j : Nat) => was1 l ((j : Int) + 1)
theorem wasL_length (l : List Int) (k : Nat) : (wasL l k).length = k := by simp [wasL]
theorem wasL_succ (l : List Int) (k : Nat) : wasL l (k + 1) = wasL l k ++ [was1 l ((k : Int) + 1)] := by simp [wasL, List.range_succ]
theorem wasL_get {l : List Int} {n k : Nat} (h : k < n) : (wasL l n).getD k 0 = was1 l ((k : Int) + 1) := by simp [wasL, h]

theorem ids_count (l : List Int) (x : Int) : (ids l x).length = l.count x := by
  unfold ids
  generalize 1 = n
  induction l generalizing n with
  | nil => rfl
  | cons y l ih =>
    simp only [idsFrom, List.count_cons]
    split
    · rename_i h; subst h; simp [ih]
    · rename_i h; simp [ih, h]
theorem sum_one {M : List Int} {y : Int} (hn : M.Nodup) (hy : y ∈ M) : (M.map fun x => if y == x then 1 else 0).sum = 1 := by
  induction M with
  | nil => simp at hy
  | cons z M ih =>
    obtain ⟨h1, h2⟩ := List.nodup_cons.1 hn
    rw [List.map_cons, List.sum_cons]
    by_cases e : y = z
    · subst e
      have h0 : (M.map fun x => if y == x then 1 else 0).sum = 0 := by
        clear ih hn hy h2
        induction M with
        | nil => rfl
        | cons a M ih =>
          simp only [List.mem_cons, not_or] at h1
          rw [List.map_cons, List.sum_cons, ih h1.2]
          simp [h1.1]
      rw [h0]; simp
    · rw [ih h2 ((List.mem_cons.1 hy).resolve_left e)]
      simp [e]
theorem sum_count (M : List Int) (hn : M.Nodup) : ∀ l : List Int, (∀ x ∈ l, x ∈ M) → (M.map fun x => l.count x).sum = l.length
  | [], _ => by
    clear hn
    induction M with
    | nil => rfl
    | cons z M ih => simpa using ih
  | y :: l, h => by
    have e : (M.map fun x => (y :: l).count x).sum = (M.map fun x => l.count x).sum + (M.map fun x => if y == x then 1 else 0).sum := by
      simp only [List.count_cons]
      clear hn h
      induction M with
      | nil => rfl
      | cons z M ih => simp only [List.map_cons, List.sum_cons, ih]; omega
    rw [e, sum_count M hn l (fun x hx => h x (List.mem_cons_of_mem _ hx)), sum_one hn (h y (by simp))]
    simp
/-- How many the first k of the slots were in all. -/
def sumN (l M : List Int) (k : Nat) : Nat := ((M.take k).map fun x => (ids l x).length).sum
theorem sumN_succ {l M : List Int} {k : Nat} (h : k < M.length) : sumN l M (k + 1) = sumN l M k + (ids l (M.getD k 0)).length := by
  unfold sumN
  have e : M.getD k 0 = M[k] := by simp [h]
  rw [List.take_succ_eq_append_getElem h, List.map_append, List.sum_append, e]
  rfl
theorem sumN_all {l M : List Int} (h : SlotsOf l M) : sumN l M M.length = l.length := by
  unfold sumN
  rw [List.take_length]
  have e : (fun x => (ids l x).length) = fun x => l.count x := funext fun x => ids_count l x
  rw [e]
  exact sum_count M (h.1.imp fun {a b} hab e => by omega) l fun x hx => (h.2 x).2 hx
theorem sumN_le {l M : List Int} (h : SlotsOf l M) (k : Nat) : sumN l M k ≤ l.length := by
  rw [← sumN_all h]
  unfold sumN
  rw [List.take_length]
  conv => rhs; rw [← List.take_append_drop k M, List.map_append, List.sum_append]
  omega
/-- No two slots are the same one. -/
theorem slots_prev {l M : List Int} {j k : Nat} (hM : SlotsOf l M) (hk : k < M.length) (hj : j < k) : nowL l (M.getD j 0) ≠ nowL l (M.getD k 0) := fun he => by
  have hjl : j < M.length := by omega
  have e1 : M.getD j 0 = M[j] := by simp [hjl]
  have e2 : M.getD k 0 = M[k] := by simp [hk]
  have hjm : M.getD j 0 ∈ M := by rw [e1]; exact List.getElem_mem hjl
  have h0 : nowL l (M.getD j 0) ≠ 0 := fun h => nowL_zero.1 h ((hM.2 _).1 hjm)
  have := nowL_inj he h0
  have hr := List.pairwise_iff_getElem.1 hM.1 j k hjl hk hj
  rw [e1, e2] at this
  omega
theorem getLastD_eq {m : List Int} (h : m ≠ []) : m.getLastD 0 = m.getD (m.length - 1) 0 := by
  rcases m with _ | ⟨a, m⟩
  · exact absurd rfl h
  · rw [List.getLastD_cons]
    simp [List.getD, List.getLastD_eq_getLast?, List.getLast?_eq_getElem?]
    cases m <;> simp
end Go.Proofs.Ytlefhcaoblenaaa
