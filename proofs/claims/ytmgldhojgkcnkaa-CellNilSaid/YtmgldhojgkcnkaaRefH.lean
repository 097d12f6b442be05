/- The reference among other things. -/
import Derived.Test.YtmgldhojgkcnkaaRefG
namespace Go.Proofs.Ytmgldhojgkcnkaa
open Go.RowKit Go.Maps Go.Sort

section
variable {w0 w w' : World} {L L' : List Item}
theorem Env.perm (h : Env w0 L w) (hp : L.Perm L') : Env w0 L' w := ⟨h.1, (hp.pairwise_iff (fun h => Off.symm h)).1 h.2.1, fun a ha => h.2.2 a (hp.mem_iff.2 ha)⟩
theorem Env.newU (h : Env w0 L w) (n : Nat) (hn : w.heap.size = n) (t : TypeId) : Env w0 (refI n (fun k => k = n) [] :: L) (w.alloc (.cells #[.slice none 0 0] t)) := by
  subst hn
  refine h.add (refI w.heap.size (fun k => k = w.heap.size) []) ((Below.refl _ _).alloc (Nat.le_refl _) _) ⟨.slice none 0 0, Blk.new 0 w _ t, ⟨rfl, .inl ⟨rfl, rfl⟩⟩, by simp [Value.ownBlock], fun k => by simp [Value.ownBlock]⟩ fun k hk => ?_
  have hk : k = w.heap.size := hk
  subst hk; simp
theorem Env.addU {u : Nat} {F : Nat → Prop} {l : List OneR} (h : Env w0 L w) (hU : IsU w' u F l) (hF : ∀ k, F k → w.heap.size ≤ k) (hb : Below w.heap.size w w') : Env w0 (refI u F l :: L) w' :=
  h.add (refI u F l) hb hU fun k hk => ⟨hF k hk, hU.lt k hk⟩
end
theorem same_upd (f : Plc → Int) (x : Plc) (v : Int) : sameB f (upd f x v) = decide (f x = v) := by
  by_cases h : f x = v
  · rw [decide_eq_true h]
    refine sameB_yes ?_
    funext y
    unfold upd
    split
    · rename_i e; rw [e, h]
    · rfl
  · rw [decide_eq_false h]
    refine sameB_no fun e => h ?_
    have := congrFun e x
    rw [upd_same] at this
    exact this
end Go.Proofs.Ytmgldhojgkcnkaa
