/- The reference's words at any place of a block, among other things; contracts. -/
import Derived.Test.YtnlepgbmbdmjbaaRefB
import Derived.Test.YtnlepgbmbdmjbaaSoulR
import Derived.Test.YtnlepgbmbdmjbaaSoulE
import Derived.Test.YtnlepgbmbdmjbaaLeads
namespace Go.Proofs.Ytnlepgbmbdmjbaa
open Go.RowKit Go.Maps
set_option maxRecDepth 100000

section
variable {w0 w w' : World} {L : List Item}
/-- A block and a row of it turn at once. -/
theorem Env.step2 (h : Env w0 L w) {i j : Nat} (hij : i ≠ j) {a a' b b' : Item} (hi : L[i]? = some a) (hj : L[j]? = some a') (ht : Turn (fun k => a.F k ∨ a'.F k) w w') (hb : b.says w') (hb' : b'.says w') (hlt : ∀ k, b.F k → k < w'.heap.size) (hlt' : ∀ k, b'.F k → k < w'.heap.size)
    (hF : ∀ k, b.F k → a.F k) (hF' : ∀ k, b'.F k → a'.F k ∨ w.heap.size ≤ k) : Env w0 ((L.set i b).set j b') w' := by
  have ha := h.2.2 a (List.mem_of_getElem? hi)
  have ha' := h.2.2 a' (List.mem_of_getElem? hj)
  have hB : Below w0.heap.size w0 w' := Turn.below h.1 ht h.1.size fun k hk => hk.elim (fun hk => (ha.2 k hk).1) fun hk => (ha'.2 k hk).1
  have hil := (List.getElem?_eq_some_iff.1 hi).1
  have hjl := (List.getElem?_eq_some_iff.1 hj).1
  have key : ∀ m (c : Item), ((L.set i b).set j b')[m]? = some c → ∃ d, L[m]? = some d ∧ (∀ k, c.F k → d.F k ∨ (m = j ∧ w.heap.size ≤ k)) ∧ c.says w' ∧ ∀ k, c.F k → w0.heap.size ≤ k ∧ k < w'.heap.size := by
    intro m c hc
    by_cases hmj : m = j
    · subst hmj
      rw [List.getElem?_set_self (by simpa using hjl)] at hc
      cases hc
      refine ⟨a', hj, fun k hk => (hF' k hk).imp id fun h => ⟨rfl, h⟩, hb', fun k hk => ⟨?_, hlt' k hk⟩⟩
      rcases hF' k hk with h1 | h1
      · exact (ha'.2 k h1).1
      · exact Nat.le_trans h.1.size h1
    · rw [List.getElem?_set_ne (fun e => hmj e.symm)] at hc
      by_cases hmi : m = i
      · subst hmi
        rw [List.getElem?_set_self hil] at hc
        cases hc
        exact ⟨a, hi, fun k hk => .inl (hF k hk), hb, fun k hk => ⟨(ha.2 k (hF k hk)).1, hlt k hk⟩⟩
      · rw [List.getElem?_set_ne (fun e => hmi e.symm)] at hc
        obtain ⟨h1, h2⟩ := h.2.2 c (List.mem_of_getElem? hc)
        refine ⟨c, hc, fun k hk => .inl hk, c.loc w w' h1 (fun k hk => ht.block k (h2 k hk).2 fun e => ?_) ht.size, fun k hk => ⟨(h2 k hk).1, Nat.lt_of_lt_of_le (h2 k hk).2 ht.size⟩⟩
        rcases e with e | e
        · exact h.off hi hc (fun e => hmi e.symm) k e hk
        · exact h.off hj hc (fun e => hmj e.symm) k e hk
  refine ⟨hB, List.pairwise_iff_getElem.2 fun m n hm hn hmn k hk hk' => ?_, fun x hx => ?_⟩
  · obtain ⟨d, hd, h1, _⟩ := key m _ (List.getElem?_eq_getElem hm)
    obtain ⟨d', hd', h1', _⟩ := key n _ (List.getElem?_eq_getElem hn)
    rcases h1 k hk with e | ⟨e, e2⟩
    · rcases h1' k hk' with f | ⟨f, f2⟩
      · exact h.off hd hd' (by omega) k e f
      · have := h.lt m hd k e; omega
    · rcases h1' k hk' with f | ⟨f, f2⟩
      · have := h.lt n hd' k f; omega
      · omega
  · obtain ⟨m, hm⟩ := List.getElem?_of_mem hx
    obtain ⟨d, _, _, h1, h2⟩ := key m x hm
    exact ⟨h1, h2⟩
end

/-- A row of words. -/
def rowO (v : Value) (l : List OneR) : Item := rowI v 89 4 l.length (flatO l)

section
variable {w0 w : World} {L : List Item} {u : Nat} {vs : List Value} {v v1 v2 v3 : Value} {fa st : Int} {lx lc li : List OneR} {l : List Int}
theorem Env.rowO (h : Env w0 L w) (j : Nat) (hj : L[j]? = some (rowO v lx)) : w.ownsRow 0 89 4 v lx.length (flatO lx) := h.get j hj
theorem Env.ublk (h : Env w0 L w) (i : Nat) (hu : L[i]? = some (boxI u vs)) : Blk 0 w u vs := h.get i hu
theorem Env.addNoneO (h : Env w0 L w) : Env w0 (Ytnlepgbmbdmjbaa.rowO (.slice none 0 0) [] :: L) w :=
  h.add (Ytnlepgbmbdmjbaa.rowO (.slice none 0 0) []) (Below.refl _ _) (World.ownsRow_nil _ _ _ _) fun k hk => by cases hk
theorem get_u (x y z : Int) (hl : lx.length ≤ 1000000) (o i j : Nat) (hE : Env w0 L w) (hu : L[i]? = some (boxI u vs)) (hvo : vs[o]? = some v) (hj : L[j]? = some (rowO v lx)) :
    Calls Try.prog 32 #[.pointer (some ⟨u, o, none⟩), .agg #[.int .i64 x, .int .i64 y, .int .i64 z]] w fun e w' => e = .returned (.int .u64 (getL lx (x, y, z))) ∧ Below w.heap.size w w' := by
  have ho := hE.rowO j hj
  obtain ⟨A, c, rfl⟩ := ownsRow_slice ho
  exact refGet_at x y z hl (hE.ublk i hu) hvo ho
theorem set_u (x y z a : Int) (hl : lx.length ≤ 1000000) (o i j : Nat) (hij : i ≠ j) (hE : Env w0 L w) (hu : L[i]? = some (boxI u vs)) (hvo : vs[o]? = some v) (hj : L[j]? = some (rowO v lx)) :
    Calls Try.prog 34 #[.pointer (some ⟨u, o, none⟩), .agg #[.int .i64 x, .int .i64 y, .int .i64 z], .int .u64 a] w fun e w' => e = .returned (.tuple #[]) ∧ ∃ v', Env w0 ((L.set i (boxI u (vs.set o v'))).set j (rowO v' (setL lx (x, y, z) a))) w' := by
  have ho := hE.rowO j hj
  obtain ⟨A, c, rfl⟩ := ownsRow_slice ho
  have hsep : (Value.slice A lx.length c).ownBlock ≠ some u := fun e => hE.off hj hu (fun e => hij e.symm) u e rfl
  refine (refSet_at x y z a hl (hE.ublk i hu) hvo ho hsep).mono ?_
  rintro e w' ⟨he, A', c', h1, h2, h3, h4⟩
  exact ⟨he, _, hE.step2 hij hu hj h3 h1 h2 (fun k hk => by have hk : k = u := hk; rw [hk]; exact h1.1) (ownsRow_lt h2) (fun k hk => hk) h4⟩
theorem now_u (x : Int) (hl : l.length ≤ 100000) (o i j : Nat) (hE : Env w0 L w) (hu : L[i]? = some (boxI u vs)) (hvo : vs[o]? = some v) (hj : L[j]? = some (intsI v l)) :
    Calls Try.prog 36 #[.pointer (some ⟨u, o, none⟩), .int .i64 x] w fun e w' => e = .returned (.int .i64 (nowL l x)) ∧ Below w.heap.size w w' := by
  have ho := hE.row j hj
  obtain ⟨A, c, rfl⟩ := ownsRow_slice ho
  exact rnow_at x hl (hE.ublk i hu) hvo ho
theorem born_u (x : Int) (hl : l.length ≤ 100000) (o i j : Nat) (hij : i ≠ j) (hE : Env w0 L w) (hu : L[i]? = some (boxI u vs)) (hvo : vs[o]? = some v) (hj : L[j]? = some (intsI v l)) :
    Calls Try.prog 35 #[.pointer (some ⟨u, o, none⟩), .int .i64 x] w fun e w' => e = .returned (.int .i64 (bornV l x)) ∧ ∃ v', Env w0 ((L.set i (boxI u (vs.set o v'))).set j (intsI v' (bornL l x))) w' := by
  have ho := hE.row j hj
  obtain ⟨A, c, rfl⟩ := ownsRow_slice ho
  unfold bornV bornL
  by_cases h : x < 1
  · rw [if_pos h, if_pos h]
    refine (rborn_low x h).mono ?_
    rintro e w' ⟨rfl, rfl⟩
    have e1 : vs.set o (Value.slice A l.length c) = vs := by
      apply List.ext_getElem?
      intro k
      rw [List.getElem?_set]
      split
      · rename_i e; subst e; rw [hvo, if_pos (List.getElem?_eq_some_iff.1 hvo).1]
      · rfl
    exact ⟨rfl, .slice A l.length c, by rw [e1, setSelf hu, setSelf hj]; exact hE⟩
  · rw [if_neg h, if_neg h]
    have hsep : (Value.slice A l.length c).ownBlock ≠ some u := fun e => hE.off hj hu (fun e => hij e.symm) u e rfl
    refine (rborn_at x (by omega) hl (hE.ublk i hu) hvo ho hsep).mono ?_
    rintro e w' ⟨he, A', c', h1, h2, h3, h4⟩
    exact ⟨he, _, hE.step2 hij hu hj h3 h1 h2 (fun k hk => by have hk : k = u := hk; rw [hk]; exact h1.1) (ownsRow_lt h2) (fun k hk => hk) h4⟩
end
end Go.Proofs.Ytnlepgbmbdmjbaa
