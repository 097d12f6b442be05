/- Whatever comes to numbers and bools, structs in structs too: what its cells hold; a slice of such that came in. -/
import Derived.Test.YtnlepgbmbdmjbaaOpenFlat
import Derived.Deep.Slices
import Derived.WalkKit
namespace Go.Proofs.Ytnlepgbmbdmjbaa
open Go.RowKit Go.WideShapes Go.ChangeShapes Go.ChangeAt Go.Deep
set_option maxRecDepth 100000

/-- The cells of the fields from offset o on. -/
def flatF (P : Program) (g : TypeId → Option (List Sca)) : List Field → Nat → Option (List Sca)
  | [], _ => some []
  | f :: fs, o => if f.offset = o then (g f.type).bind fun ss => if P.cellsOf f.type = ss.length then (flatF P g fs (o + ss.length)).map fun r => ss ++ r else none else none
/-- The cells of a type, if all are numbers and bools. -/
def flatT (P : Program) : Nat → TypeId → Option (List Sca)
  | 0, _ => none
  | d + 1, t =>
    match P.underlying t with
    | some .bool => some [.boo]
    | some (.int k) => some [.num k]
    | some (.struct fs) => (flatF P (flatT P d) fs.toList 0).bind fun ss => if P.cellsOf t = ss.length then some ss else none
    | _ => none

/-- Each cell is of its kind. -/
def CellsOk (cs : List Value) (ss : List Sca) : Prop := ∀ (i : Nat) (s : Sca), ss[i]? = some s → ∃ v, cs[i]? = some v ∧ s.ok v

section
variable {H : Type} {enc : TypeId × Value → H} {P : Program} {w : World} {base : Nat} {spare : Nat → Bool} {held : Bool}

theorem open_fields {g : TypeId → Option (List Sca)} {n : Nat} (hg : ∀ {t ss} {cs : List Value} {x : DataW H × List MemPlace}, g t = some ss → DataW.trod enc P w base spare held n t cs = some x → CellsOk cs ss) (cs : List Value) :
    ∀ (fs : List Field) (o : Nat) (ss : List Sca), flatF P g fs o = some ss → (∀ f ∈ fs, ∃ y, DataW.trod enc P w base spare held n f.type ((cs.drop f.offset).take (P.cellsOf f.type)) = some y) → CellsOk (cs.drop o) ss
  | [], o, ss, h, _ => by
    simp [flatF] at h
    subst h
    intro i s e
    simp at e
  | f :: fs, o, ss, h, hf => by
    unfold flatF at h
    split at h
    · rename_i ho
      cases h1 : g f.type with
      | none => rw [h1] at h; cases h
      | some s1 =>
        rw [h1] at h
        simp only [Option.bind_some] at h
        split at h
        · rename_i hc
          cases h2 : flatF P g fs (o + s1.length) with
          | none => rw [h2] at h; cases h
          | some s2 =>
            rw [h2] at h
            obtain rfl : s1 ++ s2 = ss := by simpa using h
            obtain ⟨y, hy⟩ := hf f (by simp)
            rw [ho, hc] at hy
            have hk := hg h1 hy
            have hr := open_fields hg cs fs (o + s1.length) s2 h2 fun f' hf' => hf f' (by simp [hf'])
            intro i s e
            by_cases hi : i < s1.length
            · rw [List.getElem?_append_left hi] at e
              obtain ⟨v, hv, hs⟩ := hk i s e
              rw [List.getElem?_take_of_lt hi] at hv
              exact ⟨v, hv, hs⟩
            · rw [List.getElem?_append_right (by omega)] at e
              obtain ⟨v, hv, hs⟩ := hr _ s e
              refine ⟨v, ?_, hs⟩
              rw [List.getElem?_drop] at hv ⊢
              rw [← hv]
              congr 1
              omega
        · cases h
    · cases h

theorem open_cells : ∀ (d : Nat) {t : TypeId} {ss : List Sca} {fuel : Nat} {cs : List Value} {x : DataW H × List MemPlace}, flatT P d t = some ss → DataW.trod enc P w base spare held fuel t cs = some x → CellsOk cs ss
  | 0, _, _, _, _, _, h, _ => by simp [flatT] at h
  | d + 1, t, ss, fuel, cs, x, h, hx => by
    unfold flatT at h
    split at h
    · rename_i hu
      obtain ⟨b, rfl, _⟩ := DataW.trod_bool hu hx
      obtain rfl : [Sca.boo] = ss := by simpa using h
      intro i s e
      cases i with
      | zero => simp at e; subst e; exact ⟨_, rfl, b, rfl⟩
      | succ i => simp at e
    · rename_i k hu
      obtain ⟨n, rfl, _, hw⟩ := DataW.trod_int hu hx
      obtain rfl : [Sca.num k] = ss := by simpa using h
      intro i s e
      cases i with
      | zero => simp at e; subst e; exact ⟨_, rfl, n, rfl, hw⟩
      | succ i => simp at e
    · rename_i fs hu
      cases h1 : flatF P (flatT P d) fs.toList 0 with
      | none => rw [h1] at h; cases h
      | some s1 =>
        rw [h1] at h
        simp only [Option.bind_some] at h
        split at h
        · obtain rfl : s1 = ss := by simpa using h
          obtain ⟨xs, n, _, _, _, hl, hall⟩ := DataW.trod_struct hu hx
          have := open_fields (n := n) (fun {t ss cs x} h1 h2 => open_cells d h1 h2) cs fs.toList 0 s1 h1 fun f hf => by
            obtain ⟨i, hi, he⟩ := List.getElem_of_mem hf
            have hi' : i < fs.size := by simpa using hi
            have := hall i f (by simp [hi']; simpa using he)
            rw [this]
            exact ⟨xs[i]'(by omega), by simp [hl, hi']⟩
          simpa using this
        · cases h
    · cases h

/-- A slice that came in: each cell of each element. -/
theorem open_deep_row {t e : TypeId} {ss : List Sca} {d : Nat} {A : Option Addr} {len cap : Nat} {dt : DataW H} {p : List MemPlace} (ht : P.underlying t = some (.slice e)) (hss : flatT P d e = some ss) (ce : P.cellsOf e = ss.length) (h0 : 0 < ss.length)
    (h : DataW.Trod enc P w 0 (fun _ => true) true t (.slice A len cap) dt p) (hlt : ∀ x ∈ p, x.block < w.heap.size) :
    len ≤ maxLen ∧ (len = 0 ∨ ∃ b off, A = some ⟨b, off, none⟩ ∧ b < w.heap.size ∧ ∀ i, i < len → ∀ (j : Nat) (s : Sca), ss[j]? = some s → ∃ v, w.cell? ⟨b, off + i * ss.length + j, none⟩ = some v ∧ s.ok v) := by
  obtain ⟨fuel, hf⟩ := h
  rcases open_slice ht hf with ⟨hcs, hx⟩ | ⟨a, len', cap', m, n, D, Pl, hcs, _, hl, hm, hmm, hx, hall⟩
  · simp [Value.cells] at hcs
    obtain ⟨rfl, rfl, rfl⟩ := hcs
    exact ⟨Nat.zero_le _, .inl rfl⟩
  · simp [Value.cells] at hcs
    obtain ⟨rfl, rfl, rfl⟩ := hcs
    simp only [Prod.mk.injEq] at hx
    obtain ⟨rfl, rfl⟩ := hx
    simp only [if_true] at hmm
    subst hmm
    refine ⟨by omega, ?_⟩
    by_cases hz : len = 0
    · exact .inl hz
    · right
      have each : ∀ i, i < m → ∀ (j : Nat) (s : Sca), ss[j]? = some s → ∃ v, w.cell? (a.add (i * ss.length + j)) = some v ∧ s.ok v := fun i hi j s hs => by
        obtain ⟨cs', h1, h2⟩ := hall i hi
        obtain ⟨_, hlen, hcell⟩ := World.cells?_some h1
        obtain ⟨v, hv, hok⟩ := open_cells d hss h2 j s hs
        have hj : j < ss.length := (List.getElem?_eq_some_iff.1 hs).1
        have := hcell j (by omega)
        rw [add_add, ce, hv] at this
        exact ⟨v, this, hok⟩
      obtain ⟨b, off, spot⟩ := a
      have hspot : spot = none := by
        obtain ⟨v, hv, _⟩ := each 0 (by omega) 0 (ss[0]) (by simp [h0])
        simpa [Addr.add] using World.cell?_spot hv
      subst hspot
      refine ⟨b, off, rfl, hlt (.cell b off) (List.mem_append_left _ (MemPlace.mem_row.2 ⟨0, by rw [ce]; exact Nat.mul_pos (by omega) h0, by simp⟩)), fun i hi j s hs => ?_⟩
      obtain ⟨v, hv, hok⟩ := each i (by omega) j s hs
      rw [add_plain] at hv
      exact ⟨v, by rw [Nat.add_assoc]; exact hv, hok⟩
/-- A struct by value, structs in it too. -/
theorem open_deep {r : Reach} {b0 : Nat} {t : TypeId} {fs : Array Field} {ss : List Sca} {d : Nat} {v : Value} {dt : DataW H} {p : List MemPlace} (hs : P.underlying t = some (.struct fs)) (hss : flatT P d t = some ss) (hC : P.cellsOf t = ss.length)
    (hv : Value.okWide P w r b0 t v) (h : DataW.Trod enc P w base spare held t v dt p) :
    ∃ cs : Array Value, v = .agg cs ∧ cs.size = ss.length ∧ ∀ (i : Nat) (s : Sca), ss[i]? = some s → ∃ x, cs[i]? = some x ∧ s.ok x := by
  obtain ⟨cs, rfl, hsz⟩ := okWide_struct hs hv
  obtain ⟨fuel, hf⟩ := h
  refine ⟨cs, rfl, hsz.trans hC, fun i s e => ?_⟩
  obtain ⟨x, hx, hk⟩ := open_cells d hss hf i s e
  exact ⟨x, by simpa [Value.cells] using hx, hk⟩
end
end Go.Proofs.Ytnlepgbmbdmjbaa
