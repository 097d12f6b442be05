/- Souls among other things; a birth in any slot. -/
import Derived.Test.YtnlepgbmbdmjbaaSoulB
namespace Go.Proofs.Ytnlepgbmbdmjbaa
open Go.RowKit Go.Maps
set_option maxRecDepth 100000

/-- The births behind one more. -/
def bornL (l : List Int) (x : Int) : List Int := if x < 1 then l else l ++ [x]
def bornV (l : List Int) (x : Int) : Int := if x < 1 then 0 else (l.length : Int) + 1
theorem bornL_length (l : List Int) (x : Int) : (bornL l x).length ≤ l.length + 1 := by unfold bornL; split <;> simp
theorem bornX_any {s : Nat} {F : Nat → Prop} {l : List Int} {w : World} (x : Int) (hx : In64 x) (hl : l.length ≤ 100000) (hS : IsS w s F l) :
    Calls Try.prog 45 #[.pointer (some ⟨s, 0, none⟩), .int .i64 x] w fun e w' => e = .returned (.int .i64 (bornV l x)) ∧ ∃ F', IsS w' s F' (bornL l x) ∧ Step F F' w w' := by
  unfold bornV bornL
  by_cases h : x < 1
  · rw [if_pos h, if_pos h]
    refine (born_low (s := some s) x (.inr h)).mono ?_
    rintro e w' ⟨rfl, rfl⟩
    exact ⟨rfl, F, hS, Step.refl _ _⟩
  · rw [if_neg h, if_neg h]
    exact born_any x hx (by omega) hl hS

section
variable {w0 w w' : World} {L : List Item} {s : Nat} {F F' : Nat → Prop} {l l' : List Int}
theorem Env.madeS (h : Env w0 L w) (hC : IsS w' s (fun k => k = s) l) (hc : w.heap.size ≤ s) (hb : Below w.heap.size w w') : Env w0 (soulI s (fun k => k = s) l :: L) w' :=
  h.add (soulI s (fun k => k = s) l) hb hC fun k hk => ⟨by have hk : k = s := hk; omega, hC.lt k hk⟩
theorem Env.soul (h : Env w0 L w) (i : Nat) (hi : L[i]? = some (soulI s F l)) : IsS w s F l := h.get i hi
theorem Env.turnS (h : Env w0 L w) (i : Nat) (hi : L[i]? = some (soulI s F l)) (hC : IsS w' s F' l') (hs : Step F F' w w') : Env w0 (L.set i (soulI s F' l')) w' :=
  h.step i (soulI s F' l') hi hs hC hC.lt
end
end Go.Proofs.Ytnlepgbmbdmjbaa
