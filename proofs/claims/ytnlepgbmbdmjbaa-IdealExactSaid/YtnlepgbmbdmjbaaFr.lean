/- What a call's own blocks hold, carried over calls, allocations and stores; and that nothing that was there before has turned. -/
import Derived.WalkKit
import Derived.Lib.Hide
namespace Go.Proofs.Ytnlepgbmbdmjbaa
open Go.RowKit
set_option maxRecDepth 100000

/-- A block n that holds vs; one of the call's own (from m on) may be written. -/
def Blk (m : Nat) (w : World) (n : Nat) (vs : List Value) : Prop :=
  n < w.heap.size ∧ (∀ i, w.cell? ⟨n, i, none⟩ = vs[i]?) ∧ (m ≤ n → ∀ i, i < vs.length → w.frozen? ⟨n, i, none⟩ = false)
/-- Since w0 nothing that was there has turned, and the blocks of the list hold what it says. -/
def Fr (w0 : World) (bl : List (Nat × List Value)) (w : World) : Prop := Below w0.heap.size w0 w ∧ ∀ x ∈ bl, Blk w0.heap.size w x.1 x.2

theorem Fr.below {w0 w : World} {bl : List (Nat × List Value)} (h : Fr w0 bl w) : Below w0.heap.size w0 w := h.1
theorem Fr.start (w : World) : Fr w [] w := ⟨Below.refl _ _, fun x hx => by cases hx⟩
theorem Fr.drew {w0 w : World} {bl : List (Nat × List Value)} (h : Fr w0 bl w) : Fr w0 bl w.drew := ⟨h.1.drew, fun x hx => h.2 x hx⟩
theorem Fr.over {w0 w w' : World} {bl : List (Nat × List Value)} (h : Fr w0 bl w) (hb : Below w.heap.size w w') : Fr w0 bl w' := by
  refine ⟨h.1.trans (hb.mono h.1.size), fun x hx => ?_⟩
  obtain ⟨h1, h2, h3⟩ := h.2 x hx
  have hs := hb.size
  refine ⟨by omega, fun i => ?_, fun hm i hi => ?_⟩
  · rw [hb.cell (p := ⟨x.1, i, none⟩) h1]; exact h2 i
  · rw [hb.frozen (p := ⟨x.1, i, none⟩) h1]; exact h3 hm i hi
theorem Fr.more {w0 w : World} {bl : List (Nat × List Value)} (h : Fr w0 bl w) (o : Obj) : Fr w0 bl (w.alloc o) := h.over ((Below.refl _ _).alloc (Nat.le_refl _) o)
theorem Fr.push {w0 w : World} {bl : List (Nat × List Value)} (h : Fr w0 bl w) (n : Nat) (hn : w.heap.size = n) (vs : List Value) (t : TypeId) : Fr w0 ((n, vs) :: bl) (w.alloc (.cells vs.toArray t)) := by
  subst hn
  refine ⟨(h.more _).1, fun x hx => ?_⟩
  rcases List.mem_cons.1 hx with rfl | hx
  · exact ⟨by simp, fun i => by simp, fun _ i _ => by simp⟩
  · exact (h.more _).2 x hx
theorem Fr.rule {w0 w : World} {bl : List (Nat × List Value)} (h : Fr w0 bl w) (k : Nat) {n : Nat} {vs : List Value} (e : bl[k]? = some (n, vs)) : ∀ i, w.cell? ⟨n, i, none⟩ = vs[i]? :=
  (h.2 (n, vs) (List.mem_of_getElem? e)).2.1
theorem Fr.lt {w0 w : World} {bl : List (Nat × List Value)} (h : Fr w0 bl w) (k : Nat) {n : Nat} {vs : List Value} (e : bl[k]? = some (n, vs)) : n < w.heap.size :=
  (h.2 (n, vs) (List.mem_of_getElem? e)).1
theorem Fr.thaw {w0 w : World} {bl : List (Nat × List Value)} (h : Fr w0 bl w) (k : Nat) {n : Nat} {vs : List Value} (e : bl[k]? = some (n, vs)) (hn : w0.heap.size ≤ n) : ∀ i, i < vs.length → w.frozen? ⟨n, i, none⟩ = false :=
  (h.2 (n, vs) (List.mem_of_getElem? e)).2.2 hn
/-- A variable that was there before. -/
theorem Fr.seen {w0 w : World} {bl : List (Nat × List Value)} (h : Fr w0 bl w) {n : Nat} {vs : List Value} (hn : n < w0.heap.size) (hc : ∀ i, w0.cell? ⟨n, i, none⟩ = vs[i]?) : Fr w0 ((n, vs) :: bl) w := by
  refine ⟨h.1, fun x hx => ?_⟩
  rcases List.mem_cons.1 hx with rfl | hx
  · exact ⟨by have := h.1.size; simp; omega, fun i => by rw [h.1.cell (p := ⟨n, i, none⟩) hn]; exact hc i, fun hm => by simp at hm; omega⟩
  · exact h.2 x hx
end Go.Proofs.Ytnlepgbmbdmjbaa
