/- Shared cells among other things: the thing. -/
import Derived.Test.YtnlepgbmbdmjbaaCellB
import Derived.Test.YtnlepgbmbdmjbaaEnv
namespace Go.Proofs.Ytnlepgbmbdmjbaa
open Go.RowKit Go.Maps
set_option maxRecDepth 100000

/-- Shared cells, as a thing. -/
def cellI (c : Nat) (F : Nat → Prop) (f : Plc → Int) (q : Cnt) (n : Nat) : Item where
  F := F
  says := fun w => IsC w c F f q n
  loc := fun w1 w2 h hk hs => by
    obtain ⟨mp, hb, hm, hF⟩ := h
    exact ⟨mp, hb.kept hs (hk c ((hF c).2 (.inl rfl))), hm.kept fun b e => hk b ((hF b).2 (.inr e)), hF⟩
section
variable {w0 w w' : World} {L : List Item} {c n : Nat} {F F' : Nat → Prop} {f f' : Plc → Int} {q q' : Cnt} {m : Nat}
theorem Env.made (h : Env w0 L w) (hC : IsC w' c (fun k => k = c) f q n) (hc : w.heap.size ≤ c) (hb : Below w.heap.size w w') : Env w0 (cellI c (fun k => k = c) f q n :: L) w' :=
  h.add (cellI c (fun k => k = c) f q n) hb hC fun k hk => ⟨by have hk : k = c := hk; omega, hC.lt k hk⟩
theorem Env.cell (h : Env w0 L w) (i : Nat) (hi : L[i]? = some (cellI c F f q n)) : IsC w c F f q n := h.get i hi
theorem Env.turn (h : Env w0 L w) (i : Nat) (hi : L[i]? = some (cellI c F f q n)) (hC : IsC w' c F' f' q' m) (hs : Step F F' w w') : Env w0 (L.set i (cellI c F' f' q' m)) w' :=
  h.step i (cellI c F' f' q' m) hi hs hC hC.lt
end

theorem upd_upd (f : Plc → Int) (x : Plc) (a b : Int) : upd (upd f x a) x b = upd f x b := by funext y; unfold upd; split <;> rfl
theorem Env.made2 {w0 w w' : World} {L : List Item} {c n : Nat} {F : Nat → Prop} {f : Plc → Int} {q : Cnt} (h : Env w0 L w) (hC : IsC w' c F f q n) (hF : ∀ k, F k → w.heap.size ≤ k) (hb : Below w.heap.size w w') : Env w0 (cellI c F f q n :: L) w' :=
  h.add (cellI c F f q n) hb hC fun k hk => ⟨hF k hk, hC.lt k hk⟩
end Go.Proofs.Ytnlepgbmbdmjbaa
