/- A map of numbers by places, as a thing among others. -/
import Derived.Test.YtnlepgbmbdmjbaaWorldA
import Derived.Test.YtnlepgbmbdmjbaaPlcI
namespace Go.Proofs.Ytnlepgbmbdmjbaa
open Go.RowKit Go.Maps
set_option maxRecDepth 100000

/-- Whom words lead to, as a thing. -/
def leadsI (mp : Option Nat) (h : Plc → Int) (m : Nat) : Item where
  F := fun k => mp = some k
  says := fun w => LeadsIs w mp h m
  loc := fun _ _ h hk _ => h.kept fun b e => hk b e

section
variable {w0 w w' : World} {L : List Item} {mp : Option Nat} {h h' : Plc → Int} {m m' : Nat}
theorem Env.leads (hE : Env w0 L w) (i : Nat) (hi : L[i]? = some (leadsI mp h m)) : LeadsIs w mp h m := hE.get i hi
theorem Env.turnL (hE : Env w0 L w) (i : Nat) (hi : L[i]? = some (leadsI mp h m)) (hM : LeadsIs w' mp h' m') (ht : Turn (fun k => mp = some k) w w') : Env w0 (L.set i (leadsI mp h' m')) w' :=
  hE.step i (leadsI mp h' m') hi ⟨ht, fun _ hk => .inl hk⟩ hM hM.lt
theorem Env.mapMade (hE : Env w0 L w) (i : Nat) (hi : L[i]? = some (leadsI none h m)) (n : Nat) (hn : w.heap.size = n) : Env w0 (L.set i (leadsI (some n) h m)) (w.alloc (.map #[] 0)) := by
  subst hn
  have hM := hE.leads i hi
  have e : h = fun _ => 0 := by
    rcases hM with ⟨_, e⟩ | ⟨b, D, e, _⟩
    · exact e
    · cases e
  subst e
  have hM' : LeadsIs (w.alloc (.map #[] 0)) (some w.heap.size) (fun _ => 0) m := (LeadsIs.made w).mono (Nat.zero_le _)
  exact hE.step i (leadsI (some w.heap.size) (fun _ => 0) m) hi ⟨(Turn.refl _ w).alloc _, fun k hk => by cases hk; exact .inr (Nat.le_refl _)⟩ hM' hM'.lt
theorem Env.newL (hE : Env w0 L w) : Env w0 (leadsI none (fun _ => 0) 0 :: L) w :=
  hE.add (leadsI none (fun _ => 0) 0) (Below.refl _ _) (.inl ⟨rfl, rfl⟩) fun k hk => by cases hk
end

theorem setSelf {L : List Item} {i : Nat} {a : Item} (h : L[i]? = some a) : L.set i a = L := by
  apply List.ext_getElem?
  intro j
  rw [List.getElem?_set]
  split
  · rename_i e; subst e; rw [h]; have := (List.getElem?_eq_some_iff.1 h).1; simp [this]
  · rfl
theorem wself {L : List Item} {i : Nat} {a b : Item} (h : L[i]? = some a) : (L.set i b)[i]? = some b := by
  have := (List.getElem?_eq_some_iff.1 h).1
  rw [List.getElem?_set_self this]
theorem Blk.over {m n : Nat} {vs : List Value} {w w' : World} (h : Blk m w n vs) (hb : Below w.heap.size w w') : Blk m w' n vs := h.kept hb.size (hb.block n h.1)
/-- What is said at each of two stations stays, whatever the station. -/
theorem Stage.two {P0 P1 : World → Prop} {w w' : World} (h0 : P0 w → P0 w') (h1 : P1 w → P1 w') (j : Nat) (h : Stage [P0, P1] j w) : Stage [P0, P1] j w' := by
  obtain ⟨P, hP, h⟩ := h
  match j, hP with
  | 0, hP => cases hP; exact ⟨_, rfl, h0 h⟩
  | 1, hP => cases hP; exact ⟨_, rfl, h1 h⟩
  | j + 2, hP => simp at hP
theorem Stage.three {P0 P1 P2 : World → Prop} {w w' : World} (h0 : P0 w → P0 w') (h1 : P1 w → P1 w') (h2 : P2 w → P2 w') (j : Nat) (h : Stage [P0, P1, P2] j w) : Stage [P0, P1, P2] j w' := by
  obtain ⟨P, hP, h⟩ := h
  match j, hP with
  | 0, hP => cases hP; exact ⟨_, rfl, h0 h⟩
  | 1, hP => cases hP; exact ⟨_, rfl, h1 h⟩
  | 2, hP => cases hP; exact ⟨_, rfl, h2 h⟩
  | j + 3, hP => simp at hP
theorem swf_yes {f : Plc → Int} {x : Plc} {o v : Int} (h : f x = o) : swf f x o v = upd f x v := if_pos h
theorem swf_no {f : Plc → Int} {x : Plc} {o v : Int} (h : ¬ f x = o) : swf f x o v = f := if_neg h
end Go.Proofs.Ytnlepgbmbdmjbaa
