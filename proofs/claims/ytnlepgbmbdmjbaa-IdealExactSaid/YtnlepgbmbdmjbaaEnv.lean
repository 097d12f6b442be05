/- Things that a call has made, kept apart: a list of them, each with its blocks and what it is good for. -/
import Derived.Test.YtnlepgbmbdmjbaaTurn
namespace Go.Proofs.Ytnlepgbmbdmjbaa
open Go.RowKit
set_option maxRecDepth 100000

/-- A thing: its blocks, and what is said of it, which hangs on them alone. -/
structure Item where
  F : Nat → Prop
  says : World → Prop
  loc : ∀ w1 w2, says w1 → (∀ k, F k → w2.heap[k]? = w1.heap[k]?) → w1.heap.size ≤ w2.heap.size → says w2
/-- Since w0 nothing that was there has turned; each thing of the list is what it is; no two share a block. -/
def Env (w0 : World) (L : List Item) (w : World) : Prop :=
  Below w0.heap.size w0 w ∧ L.Pairwise (fun a b => Off a.F b.F) ∧ ∀ a ∈ L, a.says w ∧ ∀ k, a.F k → w0.heap.size ≤ k ∧ k < w.heap.size

section
variable {w0 w w' : World} {L : List Item}
theorem Env.start (w : World) : Env w [] w := ⟨Below.refl _ _, List.Pairwise.nil, by simp⟩
theorem Env.below (h : Env w0 L w) : Below w0.heap.size w0 w := h.1
theorem Env.over (h : Env w0 L w) (hb : Below w.heap.size w w') : Env w0 L w' := by
  refine ⟨h.1.trans (hb.mono h.1.size), h.2.1, fun a ha => ?_⟩
  obtain ⟨h1, h2⟩ := h.2.2 a ha
  exact ⟨a.loc w w' h1 (fun k hk => hb.block k (h2 k hk).2) hb.size, fun k hk => ⟨(h2 k hk).1, Nat.lt_of_lt_of_le (h2 k hk).2 hb.size⟩⟩
theorem Env.more (h : Env w0 L w) (o : Obj) : Env w0 L (w.alloc o) := h.over ((Below.refl _ _).alloc (Nat.le_refl _) o)
theorem Env.drew (h : Env w0 L w) : Env w0 L w.drew := h.over (Below.refl _ w).drew
theorem Env.add (h : Env w0 L w) (a : Item) (hb : Below w.heap.size w w') (ha : a.says w') (hF : ∀ k, a.F k → w.heap.size ≤ k ∧ k < w'.heap.size) : Env w0 (a :: L) w' := by
  have h' := h.over hb
  refine ⟨h'.1, List.pairwise_cons.2 ⟨fun b hb' k hk hk' => ?_, h'.2.1⟩, fun b hb' => ?_⟩
  · have := ((h.2.2 b hb').2 k hk').2
    have := (hF k hk).1
    omega
  · rcases List.mem_cons.1 hb' with rfl | hb'
    · exact ⟨ha, fun k hk => ⟨Nat.le_trans h.1.size (hF k hk).1, (hF k hk).2⟩⟩
    · exact h'.2.2 b hb'
theorem Env.get (h : Env w0 L w) (i : Nat) {a : Item} (hi : L[i]? = some a) : a.says w := (h.2.2 a (List.mem_of_getElem? hi)).1
theorem Env.lt (h : Env w0 L w) (i : Nat) {a : Item} (hi : L[i]? = some a) : ∀ k, a.F k → k < w.heap.size := fun k hk => ((h.2.2 a (List.mem_of_getElem? hi)).2 k hk).2
theorem Env.off (h : Env w0 L w) {i j : Nat} {a b : Item} (hi : L[i]? = some a) (hj : L[j]? = some b) (hij : i ≠ j) : Off a.F b.F := by
  obtain ⟨hi1, hi2⟩ := List.getElem?_eq_some_iff.1 hi
  obtain ⟨hj1, hj2⟩ := List.getElem?_eq_some_iff.1 hj
  have hp := List.pairwise_iff_getElem.1 h.2.1
  rcases Nat.lt_or_gt_of_ne hij with hlt | hlt
  · have := hp i j hi1 hj1 hlt; rw [hi2, hj2] at this; exact this
  · have := hp j i hj1 hi1 hlt; rw [hi2, hj2] at this; exact this.symm
/-- One of them turns. -/
theorem Env.step (h : Env w0 L w) (i : Nat) {a : Item} (b : Item) (hi : L[i]? = some a) (hs : Step a.F b.F w w') (hb : b.says w') (hlt : ∀ k, b.F k → k < w'.heap.size) : Env w0 (L.set i b) w' := by
  have hil : i < L.length := (List.getElem?_eq_some_iff.1 hi).1
  have hai : L[i] = a := (List.getElem?_eq_some_iff.1 hi).2
  have ha := h.2.2 a (List.mem_of_getElem? hi)
  have hB : Below w0.heap.size w0 w' := Turn.below h.1 hs.turn h.1.size fun k hk => (ha.2 k hk).1
  refine ⟨hB, List.pairwise_iff_getElem.2 fun m n hm hn hmn => ?_, fun x hx => ?_⟩
  · rw [List.length_set] at hm hn
    rw [List.getElem_set, List.getElem_set]
    have hof : ∀ j (hj : j < L.length), j ≠ i → Off b.F L[j].F := fun j hj hne => hs.off (h.lt j (by simp)) (h.off hi (j := j) (b := L[j]) (by simp) (fun e => hne e.symm))
    split
    · rename_i e
      split
      · omega
      · rename_i e'; exact hof n hn (fun e2 => e' e2.symm)
    · split
      · rename_i e e'; exact (hof m hm (fun e2 => e e2.symm)).symm
      · exact List.pairwise_iff_getElem.1 h.2.1 m n hm hn hmn
  · obtain ⟨j, hj, rfl⟩ := List.getElem_of_mem hx
    rw [List.length_set] at hj
    rw [List.getElem_set]
    split
    · refine ⟨hb, fun k hk => ⟨?_, hlt k hk⟩⟩
      exact hs.base h.1.size (fun k hk => (ha.2 k hk).1) k hk
    · rename_i e
      obtain ⟨h1, h2⟩ := h.2.2 L[j] (List.getElem_mem hj)
      refine ⟨(L[j]).loc w w' h1 (fun k hk => hs.turn.block k (h2 k hk).2 fun hk' => ?_) hs.turn.size, fun k hk => ⟨(h2 k hk).1, Nat.lt_of_lt_of_le (h2 k hk).2 hs.turn.size⟩⟩
      exact h.off hi (j := j) (b := L[j]) (by simp [hj]) e k hk' hk
theorem Env.sub {L' : List Item} (h : Env w0 L w) (hs : L'.Sublist L) : Env w0 L' w := ⟨h.1, h.2.1.sublist hs, fun a ha => h.2.2 a (hs.subset ha)⟩

/-- A block of cells. -/
def boxI (B : Nat) (vs : List Value) : Item where
  F := fun k => k = B
  says := fun w => Blk 0 w B vs
  loc := fun w1 w2 h hk hs => h.kept hs (hk B rfl)
theorem Env.box (h : Env w0 L w) (n : Nat) (hn : w.heap.size = n) (vs : List Value) (t : TypeId) : Env w0 (boxI n vs :: L) (w.alloc (.cells vs.toArray t)) := by
  subst hn
  exact h.add (boxI w.heap.size vs) ((Below.refl _ _).alloc (Nat.le_refl _) _) (Blk.new 0 w vs t) fun k hk => by subst hk; simp
theorem Env.rule (h : Env w0 L w) (i : Nat) {B : Nat} {vs : List Value} (hi : L[i]? = some (boxI B vs)) : ∀ j, w.cell? ⟨B, j, none⟩ = vs[j]? := Blk.rule (h.get i hi)
theorem Env.thaw (h : Env w0 L w) (i : Nat) {B : Nat} {vs : List Value} (hi : L[i]? = some (boxI B vs)) : ∀ j, j < vs.length → w.frozen? ⟨B, j, none⟩ = false := Blk.thaw (h.get i hi)
theorem Env.boxLt (h : Env w0 L w) (i : Nat) {B : Nat} {vs : List Value} (hi : L[i]? = some (boxI B vs)) : B < w.heap.size := h.lt i hi B rfl
theorem Env.put (h : Env w0 L w) (i : Nat) {B : Nat} {vs : List Value} (hi : L[i]? = some (boxI B vs)) {j : Nat} (hj : j < vs.length) (v : Value) : Env w0 (L.set i (boxI B (vs.set j v))) (w.setCell ⟨B, j, none⟩ v) :=
  h.step i (boxI B (vs.set j v)) hi ⟨(Turn.refl (fun k => k = B) w).setCell (p := ⟨B, j, none⟩) (fun _ => rfl) v, fun k hk => .inl hk⟩ ((show Blk 0 w B vs from h.get i hi).set hj v) fun k hk => by
    have := h.lt i hi k hk
    simpa using this
end
/-- How far it is: of the row the j-th holds. -/
def Stage (Ps : List (World → Prop)) (j : Nat) (w : World) : Prop := ∃ P, Ps[j]? = some P ∧ P w
end Go.Proofs.Ytnlepgbmbdmjbaa
