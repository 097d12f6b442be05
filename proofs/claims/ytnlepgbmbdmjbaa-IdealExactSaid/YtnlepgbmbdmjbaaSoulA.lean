/- Souls: what they are in memory; New, Born. -/
import Derived.Test.YtnlepgbmbdmjbaaLives
import Derived.Test.YtnlepgbmbdmjbaaOrdB
import Derived.Shelf.SlMaps.Clone
namespace Go.Proofs.Ytnlepgbmbdmjbaa
open Go.RowKit Go.Maps
set_option maxRecDepth 100000

/-- Block s is souls: the births l in a row; F: the blocks that it is made of. -/
def IsS (w : World) (s : Nat) (F : Nat → Prop) (l : List Int) : Prop :=
  ∃ v mp G, Blk 0 w s [v, .map mp] ∧ w.ownsRow 0 3 1 v l.length (ints l) ∧ ((mp = none ∧ l = [] ∧ ∀ g, ¬ G g) ∨ ∃ b, mp = some b ∧ Lives w b G l) ∧
    (∀ k, F k ↔ (k = s ∨ v.ownBlock = some k ∨ mp = some k ∨ G k)) ∧ v.ownBlock ≠ some s ∧ ¬ G s ∧ ∀ g, v.ownBlock = some g → ¬ G g

section
variable {w w' : World} {s : Nat} {F : Nat → Prop} {l : List Int}
theorem IsS.lt (h : IsS w s F l) : ∀ k, F k → k < w.heap.size := by
  obtain ⟨v, mp, G, hb, ho, hm, hF, _⟩ := h
  intro k hk
  rcases (hF k).1 hk with rfl | e | e | e
  · exact hb.1
  · exact ownsRow_lt ho k e
  · rcases hm with ⟨rfl, _⟩ | ⟨b, rfl, hL⟩
    · cases e
    · cases e; exact hL.own
  · rcases hm with ⟨_, _, hn⟩ | ⟨b, _, hL⟩
    · exact absurd e (hn k)
    · exact (hL.rows k e).2
theorem IsS.loc (h : IsS w s F l) (hk : ∀ k, F k → w'.heap[k]? = w.heap[k]?) (hs : w.heap.size ≤ w'.heap.size) : IsS w' s F l := by
  obtain ⟨v, mp, G, hb, ho, hm, hF, h1, h2, h3⟩ := h
  refine ⟨v, mp, G, hb.kept hs (hk s ((hF s).2 (.inl rfl))), ownsRow_kept ho fun k e => hk k ((hF k).2 (.inr (.inl e))), ?_, hF, h1, h2, h3⟩
  rcases hm with hm | ⟨b, e, hL⟩
  · exact .inl hm
  · exact .inr ⟨b, e, hL.kept (hk b ((hF b).2 (.inr (.inr (.inl e))))) fun g hg => hk g ((hF g).2 (.inr (.inr (.inr hg))))⟩
/-- Souls, as a thing. -/
def soulI (s : Nat) (F : Nat → Prop) (l : List Int) : Item where
  F := F
  says := fun w => IsS w s F l
  loc := fun _ _ h hk hs => h.loc hk hs
end

set_option maxHeartbeats 800000 in
theorem newS_any (w : World) : Calls Try.prog 30 #[] w fun e w' => e = .returned (.pointer (some ⟨w.heap.size, 0, none⟩)) ∧ IsS w' w.heap.size (fun k => k = w.heap.size) [] ∧ Below w.heap.size w w' := by
  go_enter Try.func30, Try.ntmps30
  go_wp2
  go_ret
  exact ⟨rfl, ⟨.slice none 0 0, none, fun _ => False, Blk.new 0 w [.slice none 0 0, .map none] 77, World.ownsRow_nil _ _ _ _, .inl ⟨rfl, rfl, fun _ h => h⟩, fun k => by simp [Value.ownBlock], by simp [Value.ownBlock], fun h => h, by simp [Value.ownBlock]⟩, (Below.refl _ _).alloc (Nat.le_refl _) _⟩

set_option maxHeartbeats 800000 in
theorem born_low {s : Option Nat} {w : World} (x : Int) (hx : s = none ∨ x < 1) :
    Calls Try.prog 45 #[.pointer (s.map fun s => ⟨s, 0, none⟩), .int .i64 x] w fun e w' => e = .returned (.int .i64 0) ∧ w' = w := by
  rcases s with _ | s
  · go_enter Try.func45, Try.ntmps45
    go_wp2
    go_ret
    exact ⟨rfl, rfl⟩
  · have hx : x < 1 := by simpa using hx
    have hb : decide (x < 1) = true := by simp [hx]
    go_enter Try.func45, Try.ntmps45
    go_wp2
    go_ret
    exact ⟨rfl, rfl⟩

theorem not_map_blk {m : Nat} {w : World} {es : Array MapEntry} {clock b s : Nat} {v : Value} {vs : List Value} (hm : w.heap[b]? = some (.map es clock)) (hb : Blk m w s (v :: vs)) : b ≠ s := by
  rintro rfl
  have := hb.rule 0
  simp [World.cell?, hm] at this
theorem not_map_row {w : World} {es : Array MapEntry} {clock b base s n : Nat} {e : TypeId} {v : Value} {xs : List Value} (hm : w.heap[b]? = some (.map es clock)) (ho : w.ownsRow base e s v n xs) : v.ownBlock ≠ some b := by
  intro h
  rcases ho.2 with ⟨rfl, _⟩ | ⟨g, cap, cur, rfl, _, hg, _⟩
  · cases h
  · cases h
    rw [hm] at hg
    cases hg

/-- The worlds that a birth goes through: x appended to the births; the identity appended to x's own. -/
theorem born_worlds {W1 : World} {s b : Nat} {l : List Int} {v : Value} {G : Nat → Prop} (x : Int) (hx : In64 x) (hl : l.length ≤ 100000) (hb : Blk 0 W1 s [v, .map (some b)]) (ho : W1.ownsRow 0 3 1 v l.length (ints l)) (hL : Lives W1 b G l)
    (hvs : v.ownBlock ≠ some s) (hGs : ¬ G s) (hvG : ∀ g, v.ownBlock = some g → ¬ G g) :
    ∃ g cap W2 W3 A c g2 c2 W5 W6 F', (Builtin.append_ #[30, 30] 30 #[v, .slice (some ⟨W1.heap.size, 0, none⟩) 1 1]).run Try.prog (W1.alloc (.cells #[.int .i64 x] 3)) = .ok (.slice (some ⟨g, 0, none⟩) (l.length + 1) cap) W2 ∧
      Blk 0 W2 s [v, .map (some b)] ∧ W3 = W2.setCell ⟨s, 0, none⟩ (.slice (some ⟨g, 0, none⟩) (l.length + 1) cap) ∧ Blk 0 W3 s [.slice (some ⟨g, 0, none⟩) (l.length + 1) cap, .map (some b)] ∧
      (∀ w', w'.heap[b]? = W3.heap[b]? → (Instr.lookup 75 (.map (some b)) (.int .i64 x) false).run Try.prog w' = .ok (.slice A (ids l x).length c) w') ∧ b < W3.heap.size ∧
      (Builtin.append_ #[30, 30] 30 #[.slice A (ids l x).length c, .slice (some ⟨W3.heap.size, 0, none⟩) 1 1]).run Try.prog (W3.drew.alloc (.cells #[.int .i64 ((l.length : Int) + 1)] 3)) = .ok (.slice (some ⟨g2, 0, none⟩) ((ids l x).length + 1) c2) W5 ∧
      Blk 0 W5 s [.slice (some ⟨g, 0, none⟩) (l.length + 1) cap, .map (some b)] ∧
      (Instr.mapUpdate 75 (.map (some b)) (.int .i64 x) (.slice (some ⟨g2, 0, none⟩) ((ids l x).length + 1) c2)).run Try.prog W5 = .ok () W6 ∧
      Blk 0 W6 s [.slice (some ⟨g, 0, none⟩) (l.length + 1) cap, .map (some b)] ∧ IsS W6 s F' (l ++ [x]) ∧
      Turn (fun k => k = s ∨ v.ownBlock = some k ∨ k = b ∨ G k) W1 W6 ∧ ∀ k, F' k → (k = s ∨ v.ownBlock = some k ∨ k = b ∨ G k) ∨ W1.heap.size ≤ k := by
  obtain ⟨i0, hi0, hz0, hz1, hz2⟩ := info_parts infoInt
  obtain ⟨es, clock, hm⟩ := hL.isMap
  have hbs : b ≠ s := not_map_blk hm hb
  have hvb := not_map_row hm ho
  have hsl := hb.1
  have hbl := hL.own
  have hGl := hL.rows
  obtain ⟨g, cap, W2, hrun, ho2, hgr, hg, hgl⟩ := run_append_lies (P := Try.prog) (W1.alloc (.cells #[.int .i64 x] 3)) 30 30 0 3 i0 (.int .i64 0) 1 8 Try.underlying30 hi0 hz0 hz1 hz2 rfl (by decide) v l.length (ints l) (ho.alloc _)
    ⟨W1.heap.size, 0, none⟩ 1 1 [.int .i64 x] rfl (cells_new _ _ _) (by simp [Value.oneCell']) (by omega) (by simp [maxLen]; omega) (by omega) (by simp) _ rfl
  have t2 : Turn (fun k => v.ownBlock = some k) W1 W2 := ((Turn.refl _ W1).alloc _).grown hgr fun k _ e => e
  have hg' : v.ownBlock = some g ∨ W1.heap.size ≤ g := by
    rcases hg with h | h
    · exact .inl h
    · right; rw [h]; simp
  have hgs : g ≠ s := by
    rintro rfl
    rcases hg' with h | h
    · exact hvs h
    · omega
  have hgb : g ≠ b := by
    rintro rfl
    rcases hg' with h | h
    · exact hvb h
    · omega
  have hgG : ¬ G g := by
    intro h
    rcases hg' with h' | h'
    · exact hvG g h' h
    · have := hGl g h; omega
  have hb2 : Blk 0 W2 s [v, .map (some b)] := hb.kept t2.size (t2.block s hsl hvs)
  have t3 : Turn (fun k => k = s ∨ v.ownBlock = some k) W1 (W2.setCell ⟨s, 0, none⟩ (.slice (some ⟨g, 0, none⟩) (l.length + 1) cap)) := (t2.mono fun k _ e => .inr e).setCell (p := ⟨s, 0, none⟩) (fun _ => .inl rfl) _
  have hb3 : Blk 0 (W2.setCell ⟨s, 0, none⟩ (.slice (some ⟨g, 0, none⟩) (l.length + 1) cap)) s [.slice (some ⟨g, 0, none⟩) (l.length + 1) cap, .map (some b)] := hb2.set (by simp) _
  have ho3 : (W2.setCell ⟨s, 0, none⟩ (.slice (some ⟨g, 0, none⟩) (l.length + 1) cap)).ownsRow 0 3 1 (.slice (some ⟨g, 0, none⟩) (l.length + 1) cap) (l.length + 1) (ints l ++ [.int .i64 x]) := ownsRow_setCell_other ho2 (by simp [Value.ownBlock, hgs]) _
  have hL3 : Lives (W2.setCell ⟨s, 0, none⟩ (.slice (some ⟨g, 0, none⟩) (l.length + 1) cap)) b G l := hL.kept (t3.block b hbl (fun e => e.elim hbs hvb)) fun k hk => t3.block k (hGl k hk).2 (fun e => e.elim (fun e => hGs (e ▸ hk)) fun e => hvG k e hk)
  have hs3 := t3.size
  have hgl3 : g < (W2.setCell ⟨s, 0, none⟩ (.slice (some ⟨g, 0, none⟩) (l.length + 1) cap)).heap.size := by simpa using hgl
  clear ho2 hgl
  generalize hW3 : W2.setCell ⟨s, 0, none⟩ (.slice (some ⟨g, 0, none⟩) (l.length + 1) cap) = W3 at *
  have hsl3 := hb3.1
  have hbl3 := hL3.own
  have hL3d : Lives W3.drew b G l := hL3.kept rfl fun _ _ => rfl
  obtain ⟨A, c, hlook, hrow, hAG, hback⟩ := hL3d.look hx (by omega)
  have hidl := ids_length_le l x
  obtain ⟨g2, c2, W5, hrun5, ho5, hgr5, hg5, hgl5⟩ := run_append_lies (P := Try.prog) (W3.drew.alloc (.cells #[.int .i64 ((l.length : Int) + 1)] 3)) 30 30 (b + 1) 3 i0 (.int .i64 0) 1 8 Try.underlying30 hi0 hz0 hz1 hz2 rfl (by decide) _ (ids l x).length (ints (ids l x)) (hrow.alloc _)
    ⟨W3.heap.size, 0, none⟩ 1 1 [.int .i64 ((l.length : Int) + 1)] rfl (cells_new _ _ _) (by simp [Value.oneCell']) (by omega) (by simp [maxLen]; omega) (by omega) (by simp; omega) _ rfl
  have hg5' : (Value.slice A (ids l x).length c).ownBlock = some g2 ∨ W3.heap.size ≤ g2 := by
    rcases hg5 with h | h
    · exact .inl h
    · right; rw [h]; simp
  have t5 : Turn (fun k => G k) W3 W5 := (((Turn.refl _ W3).drew).alloc _).grown hgr5 fun k _ e => hAG k e
  obtain ⟨W6, G6, hrun6, hL6, hG6, hgr6⟩ := hback W5 g2 c2 ((World.grownBy_alloc W3.drew _ _).trans hgr5) (by rw [ints_append]; exact ho5) hg5'
  have hg2s : g2 ≠ s := by
    rintro rfl
    rcases hg5' with h | h
    · exact hGs (hAG _ h)
    · omega
  have hg2g : g2 ≠ g := by
    rintro rfl
    rcases hg5' with h | h
    · exact hgG (hAG _ h)
    · omega
  have t6 : Turn (fun k => k = b ∨ G k) W3 W6 := (t5.mono fun k _ e => .inr e).grown hgr6 fun k _ e => .inl (by cases e; rfl)
  have hb5 : Blk 0 W5 s [.slice (some ⟨g, 0, none⟩) (l.length + 1) cap, .map (some b)] := hb3.kept t5.size (t5.block s hsl3 hGs)
  have hb6 : Blk 0 W6 s [.slice (some ⟨g, 0, none⟩) (l.length + 1) cap, .map (some b)] := hb3.kept t6.size (t6.block s hsl3 fun e => e.elim (fun e => hbs e.symm) hGs)
  have ho6 : W6.ownsRow 0 3 1 (.slice (some ⟨g, 0, none⟩) (l.length + 1) cap) (l.length + 1) (ints l ++ [.int .i64 x]) := ownsRow_kept ho3 fun k e => t6.block k (by cases e; exact hgl3) (by cases e; exact fun e => e.elim (fun e => hgb e) hgG)
  refine ⟨g, cap, W2, W3, A, c, g2, c2, W5, W6, fun k => k = s ∨ k = g ∨ k = b ∨ G6 k, hrun, hb2, hW3.symm, hb3, hlook, hbl3, hrun5, hb5, hrun6, hb6, ?_, ?_, ?_⟩
  · refine ⟨_, some b, G6, hb6, by rw [List.length_append, ints_append]; exact ho6, .inr ⟨b, rfl, hL6⟩, fun k => by simp [Value.ownBlock, eq_comm], by simp [Value.ownBlock, hgs], fun h => ?_, fun k e h => ?_⟩
    · rcases hG6 s h with h | h
      · exact hGs h
      · exact hg2s h.symm
    · cases e
      rcases hG6 g h with h | h
      · exact hgG h
      · exact hg2g h.symm
  · exact (t3.mono (T' := fun k => k = s ∨ v.ownBlock = some k ∨ k = b ∨ G k) fun k _ e => e.elim .inl fun e => .inr (.inl e)).then t6 fun k _ e => .inr (.inr e)
  · rintro k (rfl | rfl | rfl | h)
    · exact .inl (.inl rfl)
    · rcases hg' with h | h
      · exact .inl (.inr (.inl h))
      · exact .inr h
    · exact .inl (.inr (.inr (.inl rfl)))
    · rcases hG6 k h with h | rfl
      · exact .inl (.inr (.inr (.inr h)))
      · rcases hg5' with h | h
        · exact .inl (.inr (.inr (.inr (hAG _ h))))
        · exact .inr (by omega)

end Go.Proofs.Ytnlepgbmbdmjbaa
