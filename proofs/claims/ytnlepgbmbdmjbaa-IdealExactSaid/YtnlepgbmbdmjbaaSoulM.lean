/- Souls: mathematics: births in a row; who a slot ever was, who it is. -/
import Derived.Test.YtnlepgbmbdmjbaaNum
namespace Go.Proofs.Ytnlepgbmbdmjbaa

/-- Who x ever was, the births in a row from the identity n on. -/
def idsFrom : Nat → List Int → Int → List Int
  | _, [], _ => []
  | n, y :: l, x => if y = x then (n : Int) :: idsFrom (n + 1) l x else idsFrom (n + 1) l x
def ids (l : List Int) (x : Int) : List Int := idsFrom 1 l x
/-- Who it is. -/
def nowL (l : List Int) (x : Int) : Int := (ids l x).getLastD 0
theorem idsFrom_snoc (y x : Int) : ∀ (l : List Int) (n : Nat), idsFrom n (l ++ [y]) x = idsFrom n l x ++ (if y = x then [((n + l.length : Nat) : Int)] else [])
  | [], n => by simp only [List.nil_append, idsFrom]; split <;> simp
  | z :: l, n => by
    simp only [List.cons_append, idsFrom, idsFrom_snoc y x l (n + 1), List.length_cons]
    rw [show n + 1 + l.length = n + (l.length + 1) by omega]
    split <;> simp
theorem ids_snoc (l : List Int) (y x : Int) : ids (l ++ [y]) x = ids l x ++ (if y = x then [(l.length : Int) + 1] else []) := by
  unfold ids
  rw [idsFrom_snoc]
  split
  · simp; omega
  · rfl
theorem ids_nil (x : Int) : ids [] x = [] := rfl
theorem ids_other {l : List Int} {x : Int} (h : x ∉ l) : ids l x = [] := by
  unfold ids
  generalize 1 = n
  induction l generalizing n with
  | nil => rfl
  | cons y l ih =>
    simp only [List.mem_cons, not_or] at h
    have h1 : ¬ y = x := fun e => h.1 e.symm
    simp only [idsFrom, if_neg h1, ih h.2]
theorem idsFrom_mem (l : List Int) (x : Int) : ∀ (n : Nat) (i : Int), i ∈ idsFrom n l x ↔ ∃ k : Nat, i = (n + k : Nat) ∧ l[k]? = some x := by
  induction l with
  | nil => intro n i; simp [idsFrom]
  | cons y l ih =>
    intro n i
    simp only [idsFrom]
    split
    · rename_i e
      rw [List.mem_cons, ih]
      constructor
      · rintro (rfl | ⟨k, rfl, hk⟩)
        · exact ⟨0, rfl, by simp [e]⟩
        · exact ⟨k + 1, by simp; omega, by simpa using hk⟩
      · rintro ⟨k, rfl, hk⟩
        cases k with
        | zero => exact .inl rfl
        | succ k => exact .inr ⟨k, by simp; omega, by simpa using hk⟩
    · rename_i e
      rw [ih]
      constructor
      · rintro ⟨k, rfl, hk⟩
        exact ⟨k + 1, by simp; omega, by simpa using hk⟩
      · rintro ⟨k, rfl, hk⟩
        cases k with
        | zero => simp at hk; exact absurd hk e
        | succ k => exact ⟨k, by simp; omega, by simpa using hk⟩
/-- i is one of x's: the i-th birth is in x. -/
theorem ids_mem {l : List Int} {x i : Int} : i ∈ ids l x ↔ ∃ k : Nat, i = (k : Int) + 1 ∧ l[k]? = some x := by
  unfold ids
  rw [idsFrom_mem]
  constructor
  · rintro ⟨k, rfl, h⟩; exact ⟨k, by omega, h⟩
  · rintro ⟨k, rfl, h⟩; exact ⟨k, by omega, h⟩
theorem ids_ne_nil {l : List Int} {x : Int} : ids l x ≠ [] ↔ x ∈ l := by
  constructor
  · intro h
    by_cases hx : x ∈ l
    · exact hx
    · exact absurd (ids_other hx) h
  · intro h e
    obtain ⟨k, hk⟩ := List.getElem?_of_mem h
    have : ((k : Int) + 1) ∈ ids l x := ids_mem.2 ⟨k, rfl, hk⟩
    rw [e] at this
    simp at this
theorem ids_length_le (l : List Int) (x : Int) : (ids l x).length ≤ l.length := by
  unfold ids
  generalize 1 = n
  induction l generalizing n with
  | nil => simp [idsFrom]
  | cons y l ih =>
    simp only [idsFrom]
    split
    · have := ih (n + 1); simp; omega
    · have := ih (n + 1); simp; omega
theorem nowL_snoc (l : List Int) (y x : Int) : nowL (l ++ [y]) x = if y = x then (l.length : Int) + 1 else nowL l x := by
  unfold nowL
  rw [ids_snoc]
  split
  · simp
  · simp
theorem nowL_mem {l : List Int} {x : Int} (h : nowL l x ≠ 0) : nowL l x ∈ ids l x := by
  unfold nowL at *
  rcases e : ids l x with _ | ⟨a, r⟩
  · rw [e] at h; exact absurd rfl h
  · exact List.getLast_mem (l := a :: r) (by simp)
theorem nowL_bound (l : List Int) (x : Int) : 0 ≤ nowL l x ∧ nowL l x ≤ l.length := by
  by_cases h : nowL l x = 0
  · omega
  · obtain ⟨k, e, hk⟩ := ids_mem.1 (nowL_mem h)
    have := (List.getElem?_eq_some_iff.1 hk).1
    omega
theorem nowL_zero {l : List Int} {x : Int} : nowL l x = 0 ↔ x ∉ l := by
  constructor
  · intro h hx
    have h1 := ids_ne_nil.2 hx
    unfold nowL at h
    rcases e : ids l x with _ | ⟨a, r⟩
    · exact h1 e
    · have : (a :: r).getLastD 0 ∈ ids l x := by rw [e]; exact List.getLast_mem (l := a :: r) (by simp)
      rw [e] at h
      rw [h] at this
      obtain ⟨k, e2, _⟩ := ids_mem.1 this
      omega
  · intro h
    simp [nowL, ids_other h]
/-- Two slots are never the same one. -/
theorem nowL_inj {l : List Int} {x y : Int} (h : nowL l x = nowL l y) (h0 : nowL l x ≠ 0) : x = y := by
  obtain ⟨k, e, hk⟩ := ids_mem.1 (nowL_mem h0)
  obtain ⟨j, e2, hj⟩ := ids_mem.1 (nowL_mem (h ▸ h0))
  have : k = j := by omega
  subst this
  rw [hk] at hj
  exact Option.some.inj hj
/-- Where i was born; 0: nowhere. -/
def slotL (l : List Int) (i : Int) : Int := if 1 ≤ i ∧ i ≤ l.length then l.getD (i - 1).toNat 0 else 0

/-- In which slots some were: each once, rising. -/
def Rises (m : List Int) : Prop := m.Pairwise (fun a b => a < b)
def SlotsOf (l m : List Int) : Prop := Rises m ∧ ∀ x, x ∈ m ↔ x ∈ l
theorem rises_eq : ∀ {l m : List Int}, Rises l → Rises m → (∀ x, x ∈ l ↔ x ∈ m) → l = m
  | [], [], _, _, _ => rfl
  | [], y :: m, _, _, h => by have := (h y).2 (by simp); simp at this
  | x :: l, [], _, _, h => by have := (h x).1 (by simp); simp at this
  | x :: l, y :: m, h1, h2, h => by
    obtain ⟨a1, a2⟩ := List.pairwise_cons.1 h1
    obtain ⟨b1, b2⟩ := List.pairwise_cons.1 h2
    have hxy : x = y := by
      rcases List.mem_cons.1 ((h x).1 (by simp)) with e | hx
      · exact e
      · rcases List.mem_cons.1 ((h y).2 (by simp)) with e | hy
        · exact e.symm
        · have := a1 y hy; have := b1 x hx; omega
    subst hxy
    rw [rises_eq a2 b2 fun z => ⟨fun hz => by
      rcases List.mem_cons.1 ((h z).1 (by simp [hz])) with e | h'
      · subst e; have := a1 _ hz; omega
      · exact h', fun hz => by
      rcases List.mem_cons.1 ((h z).2 (by simp [hz])) with e | h'
      · subst e; have := b1 _ hz; omega
      · exact h'⟩]
theorem SlotsOf.eq {l m n : List Int} (h : SlotsOf l m) (k : SlotsOf l n) : m = n := rises_eq h.1 k.1 fun x => (h.2 x).trans (k.2 x).symm
/-- Each once. -/
def each : List Int → List Int
  | [] => []
  | x :: l => if x ∈ each l then each l else x :: each l
theorem each_spec (l : List Int) : (each l).Nodup ∧ ∀ x, x ∈ each l ↔ x ∈ l := by
  induction l with
  | nil => exact ⟨List.nodup_nil, fun x => Iff.rfl⟩
  | cons y l ih =>
    unfold each
    split
    · rename_i h
      refine ⟨ih.1, fun x => ?_⟩
      rw [ih.2, List.mem_cons]
      exact ⟨.inr, fun e => e.elim (fun e => by rw [e]; exact (ih.2 y).1 h) id⟩
    · rename_i h
      exact ⟨List.nodup_cons.2 ⟨h, ih.1⟩, fun x => by rw [List.mem_cons, List.mem_cons, ih.2]⟩
end Go.Proofs.Ytnlepgbmbdmjbaa
