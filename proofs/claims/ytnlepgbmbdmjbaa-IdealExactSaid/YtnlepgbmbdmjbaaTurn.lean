/- What a call may turn among the blocks that were there; things kept apart. -/
import Derived.Test.YtnlepgbmbdmjbaaFr
import Derived.Maps.OwnSet
namespace Go.Proofs.Ytnlepgbmbdmjbaa
open Go.RowKit
set_option maxRecDepth 100000

/-- Of the blocks that were there those of T alone may have turned. -/
structure Turn (T : Nat → Prop) (w w' : World) : Prop where
  os : w'.os = w.os
  tape : w'.tape = w.tape
  output : w'.output = w.output
  size : w.heap.size ≤ w'.heap.size
  block : ∀ k, k < w.heap.size → ¬ T k → w'.heap[k]? = w.heap[k]?

section
variable {T T' : Nat → Prop} {a b c w w' : World}
theorem Turn.refl (T : Nat → Prop) (w : World) : Turn T w w := ⟨rfl, rfl, rfl, Nat.le_refl _, fun _ _ _ => rfl⟩
theorem Turn.then (h : Turn T a b) (k : Turn T' b c) (hT : ∀ k, k < a.heap.size → T' k → T k) : Turn T a c :=
  ⟨k.os.trans h.os, k.tape.trans h.tape, k.output.trans h.output, Nat.le_trans h.size k.size, fun i hi hn => (k.block i (Nat.lt_of_lt_of_le hi h.size) (fun e => hn (hT i hi e))).trans (h.block i hi hn)⟩
theorem Turn.mono (h : Turn T a b) (hT : ∀ k, k < a.heap.size → T k → T' k) : Turn T' a b := ⟨h.os, h.tape, h.output, h.size, fun k hk hn => h.block k hk fun e => hn (hT k hk e)⟩
theorem Turn.of_below (h : Below a.heap.size a b) : Turn T a b := ⟨h.os, h.tape, h.output, h.size, fun k hk _ => h.block k hk⟩
theorem Turn.to_below (h : Turn (fun _ => False) a b) : Below a.heap.size a b := ⟨h.os, h.tape, h.output, h.size, fun k hk => h.block k hk fun e => e⟩
theorem Turn.drew (h : Turn T a b) : Turn T a b.drew := ⟨h.os, h.tape, h.output, h.size, h.block⟩
theorem Turn.alloc (h : Turn T a b) (o : Obj) : Turn T a (b.alloc o) := h.then (T' := fun _ => False) (Turn.of_below ((Below.refl _ b).alloc (Nat.le_refl _) o)) fun _ _ e => e.elim
theorem Turn.setCell (h : Turn T a b) {p : Addr} (hp : p.block < a.heap.size → T p.block) (u : Value) : Turn T a (b.setCell p u) :=
  h.then (T' := fun k => k = p.block) ⟨rfl, rfl, rfl, by simp [World.setCell], fun k _ hn => Below.heap_setCell _ _ _ _ hn⟩ fun k hk e => by subst e; exact hp hk
theorem Turn.grown (h : Turn T a b) {row : Option Nat} (hg : b.grownBy c row) (hr : ∀ k, k < a.heap.size → row = some k → T k) : Turn T a c :=
  h.then (T' := fun k => row = some k) ⟨hg.os, hg.tape, hg.output, hg.size, fun k hk hn => hg.block k hk (fun e => hn e.symm)⟩ hr
theorem Turn.turned (h : Turn T a b) {m : Nat} (hg : b.mapTurned c m) (hm : m < a.heap.size → T m) : Turn T a c := h.grown hg.grown fun k hk e => by cases e; exact hm hk
theorem Turn.below {n : Nat} (h : Below n a b) (k : Turn T b c) (hn : n ≤ b.heap.size) (hT : ∀ k, T k → n ≤ k) : Below n a c :=
  h.trans ⟨k.os, k.tape, k.output, k.size, fun i hi => k.block i (by omega) fun e => by have := hT i e; omega⟩
end

/-- Two things share no block. -/
def Off (F G : Nat → Prop) : Prop := ∀ k, F k → ¬ G k
theorem Off.symm {F G : Nat → Prop} (h : Off F G) : Off G F := fun k hg hf => h k hf hg
/-- A step that turns F alone, behind which F' stands for it: what was F's, or is new. -/
structure Step (F F' : Nat → Prop) (w w' : World) : Prop where
  turn : Turn F w w'
  from' : ∀ k, F' k → F k ∨ w.heap.size ≤ k
theorem Step.off {F F' G : Nat → Prop} {w w' : World} (h : Step F F' w w') (hG : ∀ k, G k → k < w.heap.size) (hd : Off F G) : Off F' G := fun k hf hg => by
  rcases h.from' k hf with h1 | h1
  · exact hd k h1 hg
  · have := hG k hg; omega
theorem Step.refl (F : Nat → Prop) (w : World) : Step F F w w := ⟨Turn.refl _ _, fun _ h => Or.inl h⟩
theorem Step.trans {F F' F'' : Nat → Prop} {a b c : World} (h : Step F F' a b) (k : Step F' F'' b c) : Step F F'' a c :=
  ⟨h.turn.then k.turn fun i hi e => (h.from' i e).resolve_right (by omega), fun i e => by
    rcases k.from' i e with h1 | h1
    · exact h.from' i h1
    · exact Or.inr (Nat.le_trans h.turn.size h1)⟩
theorem Step.base {F F' : Nat → Prop} {w w' : World} {n : Nat} (h : Step F F' w w') (hn : n ≤ w.heap.size) (hF : ∀ k, F k → n ≤ k) : ∀ k, F' k → n ≤ k := fun k hk => by
  rcases h.from' k hk with h1 | h1
  · exact hF k h1
  · omega

theorem Blk.kept {m n : Nat} {vs : List Value} {w w' : World} (h : Blk m w n vs) (hs : w.heap.size ≤ w'.heap.size) (hb : w'.heap[n]? = w.heap[n]?) : Blk m w' n vs :=
  ⟨Nat.lt_of_lt_of_le h.1 hs, fun i => by rw [World.cell?_of_block (w := w) hb]; exact h.2.1 i, fun hm i hi => by rw [World.frozen?_of_block (w := w) hb]; exact h.2.2 hm i hi⟩
theorem Blk.set {m n i : Nat} {vs : List Value} {w : World} (h : Blk m w n vs) (hi : i < vs.length) (u : Value) : Blk m (w.setCell ⟨n, i, none⟩ u) n (vs.set i u) := by
  refine ⟨by simpa [World.setCell] using h.1, fun j => ?_, fun hm j hj => ?_⟩
  · by_cases hij : j = i
    · subst hij
      rw [World.cell?_setCell_same' _ _ _ (by rw [h.2.1]; simp [hi])]
      simp [hi]
    · have e : (⟨n, i, none⟩ : Addr) ≠ ⟨n, j, none⟩ := fun e => hij (by cases e; rfl)
      have e2 : (w.setCell ⟨n, i, none⟩ u).cell? ⟨n, j, none⟩ = w.cell? ⟨n, j, none⟩ := World.cell?_setCell_other w _ _ u e
      rw [e2, h.2.1, List.getElem?_set, if_neg (fun e => hij e.symm)]
  · rw [World.frozen?_setCell]
    exact h.2.2 hm j (by simpa using hj)
theorem Blk.new (m : Nat) (w : World) (vs : List Value) (t : TypeId) : Blk m (w.alloc (.cells vs.toArray t)) w.heap.size vs := ⟨by simp, fun i => by simp, fun _ i _ => by simp⟩
theorem Blk.more {m n : Nat} {vs : List Value} {w : World} (h : Blk m w n vs) (o : Obj) : Blk m (w.alloc o) n vs := h.kept (by simp) (Below.heap_alloc _ _ _ h.1)
theorem Blk.drew {m n : Nat} {vs : List Value} {w : World} (h : Blk m w n vs) : Blk m w.drew n vs := h
theorem Blk.at {m n n' : Nat} {vs : List Value} {w : World} (h : Blk m w n vs) (e : n = n') : Blk m w n' vs := e ▸ h
theorem Blk.rule {m n : Nat} {vs : List Value} {w : World} (h : Blk m w n vs) : ∀ i, w.cell? ⟨n, i, none⟩ = vs[i]? := h.2.1
theorem Blk.thaw {n : Nat} {vs : List Value} {w : World} (h : Blk 0 w n vs) : ∀ i, i < vs.length → w.frozen? ⟨n, i, none⟩ = false := h.2.2 (Nat.zero_le _)

theorem Fr.turn {w0 w w' : World} {bl : List (Nat × List Value)} {T : Nat → Prop} (h : Fr w0 bl w) (ht : Turn T w w') (hT : ∀ k, T k → w0.heap.size ≤ k) (hbl : ∀ x ∈ bl, ¬ T x.1) : Fr w0 bl w' :=
  ⟨Turn.below h.1 ht h.1.size hT, fun x hx => (h.2 x hx).kept ht.size (ht.block _ (h.2 x hx).1 (hbl x hx))⟩
end Go.Proofs.Ytnlepgbmbdmjbaa
