/- The reference's words among other things; counts as cells. -/
import Derived.Test.YtnohfcikedhhgaaRefC
namespace Go.Proofs.Ytnohfcikedhhgaa
open Go.RowKit Go.Maps
set_option maxRecDepth 100000

/-- Counts in five cells. -/
def bv (t : Cnt) : List Value := [.int .i64 t.l, .int .i64 t.s, .int .i64 t.w, .int .i64 t.f, .int .i64 t.a]
theorem swf_getL (l : List OneR) (x : Plc) (o v : Int) : swf (getL l) x o v = getL (swL l x o v) := by
  unfold swf swL
  split
  · rw [getL_set]
  · rfl
section
variable {w0 w w' : World} {L : List Item} {u : Nat} {F F' : Nat → Prop} {l l' : List OneR}
theorem Env.ref (h : Env w0 L w) (i : Nat) (hi : L[i]? = some (refI u F l)) : IsU w u F l := h.get i hi
theorem Env.turnU (h : Env w0 L w) (i : Nat) (hi : L[i]? = some (refI u F l)) (hU : IsU w' u F' l') (hs : Step F F' w w') : Env w0 (L.set i (refI u F' l')) w' := h.step i (refI u F' l') hi hs hU hU.lt
end
structure LOk (l : List OneR) (N : Nat) : Prop where
  nodup : (l.map (·.1)).Nodup
  len : l.length ≤ N
theorem LOk.set {l : List OneR} {N : Nat} (h : LOk l N) (x : Plc) (v : Int) : LOk (setL l x v) (N + 1) := ⟨setL_nodup h.1, by have := setL_length x v l; have := h.2; omega⟩
theorem LOk.more {l : List OneR} {N : Nat} (h : LOk l N) : LOk l (N + 1) := ⟨h.1, by have := h.2; omega⟩
theorem LOk.sw {l : List OneR} {N : Nat} (h : LOk l N) (x : Plc) (o v : Int) : LOk (swL l x o v) (N + 1) := by
  unfold swL; split
  · exact h.set x v
  · exact h.more
section
variable {w0 w w' : World} {L L' : List Item}
theorem Env.perm (h : Env w0 L w) (hp : L.Perm L') : Env w0 L' w := ⟨h.1, (hp.pairwise_iff (fun h => Off.symm h)).1 h.2.1, fun a ha => h.2.2 a (hp.mem_iff.2 ha)⟩
theorem Env.newU (h : Env w0 L w) (n : Nat) (hn : w.heap.size = n) (t : TypeId) : Env w0 (refI n (fun k => k = n) [] :: L) (w.alloc (.cells #[.slice none 0 0] t)) := by
  subst hn
  refine h.add (refI w.heap.size (fun k => k = w.heap.size) []) ((Below.refl _ _).alloc (Nat.le_refl _) _) ⟨.slice none 0 0, Blk.new 0 w _ t, ⟨rfl, .inl ⟨rfl, rfl⟩⟩, by simp [Value.ownBlock], fun k => by simp [Value.ownBlock]⟩ fun k hk => ?_
  have hk : k = w.heap.size := hk
  subst hk; simp
theorem Env.addU {u : Nat} {F : Nat → Prop} {l : List OneR} (h : Env w0 L w) (hU : IsU w' u F l) (hF : ∀ k, F k → w.heap.size ≤ k) (hb : Below w.heap.size w w') : Env w0 (refI u F l :: L) w' :=
  h.add (refI u F l) hb hU fun k hk => ⟨hF k hk, hU.lt k hk⟩
end
end Go.Proofs.Ytnohfcikedhhgaa
