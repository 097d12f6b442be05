/- Layer 5: the plain mathematics of names: unlike places have unlike names, each of letters, digits and blanks. -/
import Derived.Test.YtfajhblmjdjkbaaDoorPlaceS
namespace Go.Proofs.YtfajhblmjdjkbaaDoor
open Go.RowKit

theorem bytes_mem (l : List UInt8) (j : Nat) (h : j < (bytes l).size) : (bytes l)[j] ∈ l := by
  have e : (bytes l)[j] = l[j]'(by rw [bytes_size] at h; exact h) := rfl
  rw [e]
  exact List.getElem_mem _
/-- A digit; a letter, a digit or a blank. -/
def digB (c : UInt8) : Bool := decide (48 ≤ c.toNat ∧ c.toNat ≤ 57)
def okB (c : UInt8) : Bool := decide (c.toNat = 32 ∨ (48 ≤ c.toNat ∧ c.toNat ≤ 57) ∨ (97 ≤ c.toNat ∧ c.toNat ≤ 122))
theorem ok_of_dig {c : UInt8} (h : digB c = true) : okB c = true := by
  unfold digB at h
  unfold okB
  rw [decide_eq_true_iff] at h ⊢
  omega
theorem dig_of {k : Nat} (h : k < 10) : digB (UInt8.ofNat (48 + k)) = true := by
  unfold digB
  rw [decide_eq_true_iff, UInt8.toNat_ofNat', Nat.mod_eq_of_lt (by omega)]
  omega
theorem digits_dig (u : Nat) : ∀ c ∈ Lib.decDigits u, digB c = true := by
  induction u using Nat.strongRecOn with
  | _ u ih =>
    intro c hc
    rw [Lib.decDigits] at hc
    split at hc
    · next h =>
      rw [List.mem_singleton] at hc
      subst hc
      exact dig_of h
    · next h =>
      rcases List.mem_append.1 hc with hc | hc
      · exact ih (u / 10) (by omega) c hc
      · rw [List.mem_singleton] at hc
        subst hc
        exact dig_of (by omega)
/-- What a row of digits counts. -/
def valL (l : List UInt8) : Nat := l.foldl (fun a c => a * 10 + (c.toNat - 48)) 0
theorem val_digits (u : Nat) : valL (Lib.decDigits u) = u := by
  induction u using Nat.strongRecOn with
  | _ u ih =>
    rw [Lib.decDigits]
    split
    · next h =>
      simp only [valL, List.foldl_cons, List.foldl_nil, UInt8.toNat_ofNat']
      rw [Nat.mod_eq_of_lt (by omega)]
      omega
    · next h =>
      have := ih (u / 10) (by omega)
      unfold valL at this ⊢
      rw [List.foldl_append, this]
      simp only [List.foldl_cons, List.foldl_nil, UInt8.toNat_ofNat']
      rw [Nat.mod_eq_of_lt (by omega)]
      omega
theorem digits_inj {u v : Nat} (h : Lib.decDigits u = Lib.decDigits v) : u = v := by rw [← val_digits u, ← val_digits v, h]
theorem itoa_of {n : Int} (h : 0 ≤ n) : Lib.itoa n = Lib.decDigits n.toNat := by unfold Lib.itoa; rw [if_neg (by omega)]
theorem itoa_inj {n m : Int} (hn : 0 ≤ n) (hm : 0 ≤ m) (h : Lib.itoa n = Lib.itoa m) : n = m := by
  rw [itoa_of hn, itoa_of hm] at h
  have := digits_inj h
  omega
theorem itoa_dig {n : Int} (h : 0 ≤ n) : ∀ c ∈ Lib.itoa n, digB c = true := by rw [itoa_of h]; exact digits_dig _
/-- Two rows that are told apart at their first blank. -/
theorem split_blank : ∀ {a a' b b' : List UInt8}, (∀ c ∈ a, digB c = true) → (∀ c ∈ a', digB c = true) → a ++ 32 :: b = a' ++ 32 :: b' → a = a' ∧ b = b'
  | [], [], _, _, _, _, h => ⟨rfl, by simpa using h⟩
  | [], c :: a', _, _, _, h', h => by
    have e : (32 : UInt8) = c := by simp at h; exact h.1
    have := h' c (List.mem_cons_self ..)
    rw [← e] at this
    cases this
  | c :: a, [], _, _, h', _, h => by
    have e : c = (32 : UInt8) := by simp at h; exact h.1
    have := h' c (List.mem_cons_self ..)
    rw [e] at this
    cases this
  | c :: a, c' :: a', b, b', h1, h2, h => by
    simp only [List.cons_append, List.cons.injEq] at h
    obtain ⟨rfl, h⟩ := h
    obtain ⟨rfl, rfl⟩ := split_blank (fun x hx => h1 x (List.mem_cons_of_mem _ hx)) (fun x hx => h2 x (List.mem_cons_of_mem _ hx)) h
    exact ⟨rfl, rfl⟩

theorem parts_fin : ∀ i j : Fin 7, partsL.getD i.val [] = partsL.getD j.val [] → i = j := by decide
theorem parts_head : ∀ i : Fin 7, (partsL.getD i.val []).head? ≠ some 110 := by decide
theorem parts_ok : ∀ i : Fin 7, ∀ c ∈ partsL.getD i.val [], okB c = true := by decide
theorem partL_inj {p q : Int} (hp : 0 ≤ p) (hq : 0 ≤ q) (h : partL p = partL q) : p = q := by
  unfold partL at h
  by_cases h1 : p < 7
  · obtain ⟨i, rfl⟩ := Int.eq_ofNat_of_zero_le hp
    rw [if_pos h1] at h
    by_cases h2 : q < 7
    · obtain ⟨j, rfl⟩ := Int.eq_ofNat_of_zero_le hq
      rw [if_pos h2] at h
      have := parts_fin ⟨i, by omega⟩ ⟨j, by omega⟩ h
      simp at this
      omega
    · rw [if_neg h2] at h
      exact absurd (congrArg List.head? h) (by have := parts_head ⟨i, by omega⟩; simpa using this)
  · rw [if_neg h1] at h
    by_cases h2 : q < 7
    · obtain ⟨j, rfl⟩ := Int.eq_ofNat_of_zero_le hq
      rw [if_pos h2] at h
      exact absurd (congrArg List.head? h.symm) (by have := parts_head ⟨j, by omega⟩; simpa using this)
    · rw [if_neg h2] at h
      have := itoa_inj (by omega) (by omega) (List.append_cancel_left h)
      omega
theorem ok_next : ∀ c ∈ ([110, 101, 120, 116, 32] : List UInt8), okB c = true := by decide
theorem ok_root : ∀ c ∈ ([114, 111, 111, 116, 32] : List UInt8), okB c = true := by decide
theorem ok_slot : ∀ c ∈ ([115, 108, 111, 116, 32] : List UInt8), okB c = true := by decide
theorem partL_ok {p : Int} (hp : 0 ≤ p) : ∀ c ∈ partL p, okB c = true := by
  unfold partL
  split
  · next h =>
    obtain ⟨i, rfl⟩ := Int.eq_ofNat_of_zero_le hp
    exact parts_ok ⟨i, by omega⟩
  · intro c hc
    rcases List.mem_append.1 hc with hc | hc
    · exact ok_next c hc
    · exact ok_of_dig (itoa_dig (by omega) c hc)

/-- What could be a place, of however many roots, slots and levels. -/
def canB (x y z : Int) : Bool := singB x y z || rootB x y z || cellB x y z
theorem sing_spec {x y z : Int} : singB x y z = true ↔ (1 ≤ x ∧ x ≤ 3 ∧ y = 0 ∧ z = 0) := by unfold singB; rw [decide_eq_true_iff]
theorem root_spec {x y z : Int} : rootB x y z = true ↔ (x = 4 ∧ y = 0 ∧ 0 ≤ z) := by unfold rootB; rw [decide_eq_true_iff]
theorem cell_spec {x y z : Int} : cellB x y z = true ↔ (x = 5 ∧ 1 ≤ y ∧ 0 ≤ z) := by unfold cellB; rw [decide_eq_true_iff]
theorem name_sing {x y z : Int} (h : singB x y z = true) : nameL x y z = singL x := by unfold nameL; rw [if_pos h]
theorem name_root {x y z : Int} (h : rootB x y z = true) : nameL x y z = [114, 111, 111, 116, 32] ++ Lib.itoa z := by
  have : singB x y z = false := by rw [Bool.eq_false_iff, ne_eq, sing_spec]; rw [root_spec] at h; omega
  unfold nameL
  rw [if_neg (by simp [this]), if_pos h]
theorem name_cell {x y z : Int} (h : cellB x y z = true) : nameL x y z = [115, 108, 111, 116, 32] ++ (Lib.itoa y ++ 32 :: partL z) := by
  have h1 : singB x y z = false := by rw [Bool.eq_false_iff, ne_eq, sing_spec]; rw [cell_spec] at h; omega
  have h2 : rootB x y z = false := by rw [Bool.eq_false_iff, ne_eq, root_spec]; rw [cell_spec] at h; omega
  unfold nameL
  rw [if_neg (by simp [h1]), if_neg (by simp [h2]), if_pos h]
  simp
theorem name_none {x y z : Int} (h : canB x y z = false) : nameL x y z = noneL := by
  unfold canB at h
  rw [Bool.or_eq_false_iff, Bool.or_eq_false_iff] at h
  unfold nameL
  rw [if_neg (by simp [h.1.1]), if_neg (by simp [h.1.2]), if_neg (by simp [h.2])]
theorem can_cases {x y z : Int} (h : canB x y z = true) : singB x y z = true ∨ rootB x y z = true ∨ cellB x y z = true := by
  unfold canB at h
  rw [Bool.or_eq_true, Bool.or_eq_true] at h
  rcases h with (h | h) | h
  · exact .inl h
  · exact .inr (.inl h)
  · exact .inr (.inr h)
theorem sing_three {x y z : Int} (h : singB x y z = true) : (x = 1 ∨ x = 2 ∨ x = 3) ∧ y = 0 ∧ z = 0 := by rw [sing_spec] at h; omega
theorem sing_head {x : Int} (h : x = 1 ∨ x = 2 ∨ x = 3) : (singL x).head? ≠ some 114 ∧ (singL x).head? ≠ some 115 ∧ (singL x).head? ≠ some 110 := by
  rcases h with rfl | rfl | rfl <;> decide
theorem sing_inj {x x' : Int} (h : x = 1 ∨ x = 2 ∨ x = 3) (h' : x' = 1 ∨ x' = 2 ∨ x' = 3) (e : singL x = singL x') : x = x' := by
  rcases h with rfl | rfl | rfl <;> rcases h' with rfl | rfl | rfl <;> first | rfl | (exact absurd e (by decide))
/-- Unlike places have unlike names. -/
theorem name_inj {x y z x' y' z' : Int} (h : canB x y z = true) (h' : canB x' y' z' = true) (e : nameL x y z = nameL x' y' z') : x = x' ∧ y = y' ∧ z = z' := by
  rcases can_cases h with a | a | a <;> rcases can_cases h' with b | b | b
  · rw [name_sing a, name_sing b] at e
    obtain ⟨a1, rfl, rfl⟩ := sing_three a
    obtain ⟨b1, rfl, rfl⟩ := sing_three b
    exact ⟨sing_inj a1 b1 e, rfl, rfl⟩
  · rw [name_sing a, name_root b] at e
    exact absurd (congrArg List.head? e) (by have := (sing_head (sing_three a).1).1; simpa using this)
  · rw [name_sing a, name_cell b] at e
    exact absurd (congrArg List.head? e) (by have := (sing_head (sing_three a).1).2.1; simpa using this)
  · rw [name_root a, name_sing b] at e
    exact absurd (congrArg List.head? e.symm) (by have := (sing_head (sing_three b).1).1; simpa using this)
  · rw [name_root a, name_root b] at e
    rw [root_spec] at a b
    have := itoa_inj a.2.2 b.2.2 (List.append_cancel_left e)
    omega
  · rw [name_root a, name_cell b] at e
    exact absurd (congrArg List.head? e) (by simp)
  · rw [name_cell a, name_sing b] at e
    exact absurd (congrArg List.head? e.symm) (by have := (sing_head (sing_three b).1).2.1; simpa using this)
  · rw [name_cell a, name_root b] at e
    exact absurd (congrArg List.head? e) (by simp)
  · rw [name_cell a, name_cell b] at e
    rw [cell_spec] at a b
    obtain ⟨e1, e2⟩ := split_blank (itoa_dig (by omega)) (itoa_dig (by omega)) (List.append_cancel_left e)
    have := itoa_inj (by omega) (by omega) e1
    have := partL_inj a.2.2 b.2.2 e2
    omega
theorem name_ok (x y z : Int) : ∀ c ∈ nameL x y z, okB c = true := by
  cases h : canB x y z
  · rw [name_none h]; decide
  · rcases can_cases h with a | a | a
    · rw [name_sing a]
      rcases (sing_three a).1 with rfl | rfl | rfl <;> decide
    · rw [name_root a]
      rw [root_spec] at a
      intro c hc
      rcases List.mem_append.1 hc with hc | hc
      · exact ok_root c hc
      · exact ok_of_dig (itoa_dig a.2.2 c hc)
    · rw [name_cell a]
      rw [cell_spec] at a
      intro c hc
      rcases List.mem_append.1 hc with hc | hc
      · exact ok_slot c hc
      · rcases List.mem_append.1 hc with hc | hc
        · exact ok_of_dig (itoa_dig (by omega) c hc)
        · rcases List.mem_cons.1 hc with rfl | hc
          · rfl
          · exact partL_ok a.2.2 c hc
theorem can_not_none {x y z : Int} (h : canB x y z = true) : nameL x y z ≠ noneL := by
  intro e
  rcases can_cases h with a | a | a
  · rw [name_sing a] at e
    rcases (sing_three a).1 with rfl | rfl | rfl <;> exact absurd e (by decide)
  · rw [name_root a] at e
    exact absurd (congrArg List.head? e) (by simp [noneL])
  · rw [name_cell a] at e
    exact absurd (congrArg List.head? e) (by simp [noneL])
theorem nameL_length {x y z : Int} (hy : y ≤ 9223372036854775807) (hz : z ≤ 9223372036854775807) : (nameL x y z).length ≤ 60 := by
  cases h : canB x y z
  · rw [name_none h]; decide
  · rcases can_cases h with a | a | a
    · rw [name_sing a]
      rcases (sing_three a).1 with rfl | rfl | rfl <;> decide
    · rw [name_root a]
      rw [root_spec] at a
      have := Lib.itoa_length_le z (by omega) hz
      simp only [List.length_append, List.length_cons, List.length_nil]
      omega
    · rw [name_cell a]
      rw [cell_spec] at a
      have := Lib.itoa_length_le y (by omega) hy
      have := partL_length a.2.2 hz
      simp only [List.length_append, List.length_cons, List.length_nil]
      omega
end Go.Proofs.YtfajhblmjdjkbaaDoor
