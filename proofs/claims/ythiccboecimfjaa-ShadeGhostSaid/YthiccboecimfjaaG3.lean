/- What is proved on the way to the statement, part 3 of 5: contracts of the functions, among other things in memory. -/
import Derived.Test.YthiccboecimfjaaG2
import Derived.Maps.GroupsBeside
import Derived.Shelf.SlMaps.Clone
import Derived.WalkKit
import Derived.Orders
import Derived.Lib.SliceRun
import Derived.Deep.CutRange
import Derived.Ground.SlmcProg
import Derived.Test.YthiccboecimfjaaProg
import Derived.Maps.RangeWalk
import Derived.LoopTactic
import Derived.OwnWalkIn
import Derived.TacticsInMore
import Derived.LoopNIn
import Derived.LoopIn
import Derived.Maps.AppendAt

/- Who was born where: a map of rows of the program's own, by whole numbers. -/
namespace Go.Proofs.Ythiccboecimfjaa
open Go.RowKit Go.Maps Go.MapKept Go.ChangeShapes
set_option maxRecDepth 100000
open Go.WideElems (Fit rd rg rd_val)

theorem keyedI : Keyed Try.prog 3 := int_keyed Try.underlying3
theorem keyI {x : Int} (h : In64 x) : keyOf Try.prog 3 (.int .i64 x) = some (.int .i64 x) := keyOf_int_mk Try.underlying3 (wf_i.2 h)
theorem zeroInts (w : World) : (zeroValue 31).run Try.prog w = .ok (.slice none 0 0) w := by kernel_rfl
theorem lits_inj {a b : List Int} (h : lits (H := Unit) .i64 a = lits .i64 b) : a = b :=
  (List.map_inj_right (fun x y e => by cases e; rfl)).1 h

/-- What the map's datum says: for each slot in which somebody was born all that it ever was. -/
structure ReadsG (D : DataW Unit) (l : List Int) : Prop where
  at' : ∀ x, D.atKey (.int .i64 x) .nil = if x ∈ l then .slice (lits .i64 (ids l x)) [] else .nil
  has' : ∀ x, Maps.has D (.int .i64 x) = decide (x ∈ l)
theorem ReadsG.empty : ReadsG (.map []) [] := ⟨fun x => by simp; rfl, fun x => by simp [Maps.has]⟩
theorem ReadsG.put {D : DataW Unit} {l : List Int} (h : ReadsG D l) (hD : IsMap D) (x : Int) : ReadsG (D.put (.int .i64 x) (.slice (lits .i64 (ids (l ++ [x]) x)) [])) (l ++ [x]) := by
  refine ⟨fun y => ?_, fun y => ?_⟩
  · by_cases e : y = x
    · subst e
      rw [atKey_put_same hD (show WideAt.IsKeyLit (.int .i64 y) from trivial), if_pos (by simp)]
    · have h1 : ids (l ++ [x]) y = ids l y := by rw [ids_snoc, if_neg (fun e' : x = y => e e'.symm), List.append_nil]
      rw [atKey_put_other (fun e' => e (by cases e'; rfl)), h.at' y, h1]
      simp [e]
  · by_cases e : y = x
    · subst e
      rw [has_put_same hD (show WideAt.IsKeyLit (.int .i64 y) from trivial)]; simp
    · rw [has_put_other (fun e' => e (by cases e'; rfl)), h.has' y]; simp [e]

section
variable {w w' : World} {base : Nat} {e k : TypeId} {q : IntKind} {b n : Nat} {D : DataW Unit} {P : Program}
theorem groups_owned {es : Array MapEntry} {clock : Nat} (F : Fit P k (rowElem (H := Unit) w base e q) es clock) {x : MapEntry} (hx : x ∈ es.toList) : ∃ zs, w.ownsInts base e q x.val zs := by
  obtain ⟨y, hy⟩ := F.reads x hx
  obtain ⟨z, hz, _⟩ := rd_val hy
  obtain ⟨zs, ho, _⟩ := rowElem_inv hz
  exact ⟨zs, ho⟩
/-- The groups stay while their own blocks do. -/
theorem groups_kept (h : w.ownsGroups P k base e q b n D) (hb' : w'.heap[b]? = w.heap[b]?)
    (hrow : ∀ es clock, w.heap[b]? = some (.map es clock) → ∀ x ∈ es.toList, ∀ g, x.val.ownBlock = some g → w'.heap[g]? = w.heap[g]?) : w'.ownsGroups P k base e q b n D := by
  obtain ⟨es, clock, hb, F, hs, rfl, hbb, hlen, hap⟩ := h
  have hk : ∀ x ∈ es.toList, ∀ zs, w.ownsInts base e q x.val zs → w'.ownsInts base e q x.val zs := fun x hx zs ho => ⟨ownsRow_kept ho.1 (hrow es clock hb x hx), ho.2⟩
  obtain ⟨F1, hmap, _⟩ := F.stay (R' := rowElem w' base e q) fun x hx z hz => by
    obtain ⟨zs, ho, rfl⟩ := rowElem_inv hz
    exact rowElem_mk (hk x hx zs ho)
  refine ⟨es, clock, hb'.trans hb, F1, hs, by rw [hmap], hbb, fun x hx zs ho => ?_, hap⟩
  obtain ⟨zs0, ho0⟩ := groups_owned F hx
  rw [ho.unique (hk x hx zs0 ho0)]
  exact hlen x hx zs0 ho0
/-- A look-up hangs on the map's block alone. -/
theorem look_same {t E : TypeId} {z : Value} {R : Value → Option (DataW Unit × List MemPlace)} {es : Array MapEntry} {clock : Nat} {key : Value} {kl : Lit} (K : Keyed P k) (ht : P.underlying t = some (.map k E)) (hz : ∀ w, (zeroValue E).run P w = .ok z w) (hb : w.heap[b]? = some (.map es clock)) (F : Fit P k R es clock)
    (hkey : keyOf P k key = some kl) {v : Value} (hv : (Instr.lookup t (.map (some b)) key false).run P w = .ok v w) (hb' : w'.heap[b]? = w.heap[b]?) : (Instr.lookup t (.map (some b)) key false).run P w' = .ok v w' := by
  have hb2 := hb'.trans hb
  rcases fit_look false K ht (hz w) hb F hkey with ⟨h1, n1, _⟩ | ⟨e1, _, m1, k1, h1, _⟩
  · rcases fit_look false K ht (hz w') hb2 F hkey with ⟨h2, n2, _⟩ | ⟨e2, _, m2, k2, h2, _⟩
    · rw [h1] at hv
      rw [h2]
      simp only [Bool.false_eq_true, if_false, Result.ok.injEq, and_true] at hv ⊢
      exact hv
    · exact absurd k2 (n1 e2 m2)
  · rcases fit_look false K ht (hz w') hb2 F hkey with ⟨h2, n2, _⟩ | ⟨e2, _, m2, k2, h2, _⟩
    · exact absurd k1 (n2 e1 m1)
    · have he : e1 = e2 := by
        obtain ⟨i, hi⟩ := List.getElem?_of_mem m1
        obtain ⟨j, hj⟩ := List.getElem?_of_mem m2
        by_cases hij : i = j
        · subst hij; rw [hi] at hj; exact Option.some.inj hj
        · exact absurd (k1.trans k2.symm) (WideElems.other_key F hj hi hij)
      subst he
      rw [h1] at hv
      rw [h2]
      simp only [Bool.false_eq_true, if_false, Result.ok.injEq, and_true] at hv ⊢
      exact hv
end

/-- Block b is the lives: for each slot of l all that it ever was; G: the rows' blocks. -/
def Lives (w : World) (b : Nat) (G : Nat → Prop) (l : List Int) : Prop :=
  ∃ D : DataW Unit, w.ownsGroups Try.prog 3 (b + 1) 3 .i64 b l.length D ∧ ReadsG D l ∧ ∀ g, G g ↔ ∃ es clock, w.heap[b]? = some (.map es clock) ∧ ∃ x ∈ es.toList, x.val.ownBlock = some g

section
variable {w w' : World} {b : Nat} {G : Nat → Prop} {l : List Int}
theorem Lives.isMap (h : Lives w b G l) : ∃ es clock, w.heap[b]? = some (.map es clock) := by
  obtain ⟨D, ⟨es, clock, hb, _⟩, _⟩ := h
  exact ⟨es, clock, hb⟩
theorem Lives.own (h : Lives w b G l) : b < w.heap.size := by
  obtain ⟨es, clock, hb⟩ := h.isMap
  exact (Array.getElem?_eq_some_iff.1 hb).1
theorem Lives.rows (h : Lives w b G l) : ∀ g, G g → b < g ∧ g < w.heap.size := by
  obtain ⟨D, ⟨es, clock, hb, F, _⟩, _, hG⟩ := h
  intro g hg
  obtain ⟨es', clock', hb', x, hx, hxg⟩ := (hG g).1 hg
  rw [hb] at hb'
  cases hb'
  obtain ⟨zs, ho⟩ := groups_owned F hx
  have := ho.1.lt g hxg
  omega
theorem Lives.made (w : World) : Lives (w.alloc (.map #[] 0)) w.heap.size (fun _ => False) [] :=
  ⟨.map [], World.ownsGroups_made w _ _ _ _, ReadsG.empty, fun g => ⟨False.elim, fun ⟨es, clock, hb, x, hx, _⟩ => by
    rw [(MapKept.heap_alloc w _).1] at hb
    cases hb
    simp at hx⟩⟩
theorem Lives.kept (h : Lives w b G l) (hb' : w'.heap[b]? = w.heap[b]?) (hG' : ∀ g, G g → w'.heap[g]? = w.heap[g]?) : Lives w' b G l := by
  obtain ⟨D, ho, hr, hG⟩ := h
  exact ⟨D, groups_kept ho hb' fun es clock hb x hx g hg => hG' g ((hG g).2 ⟨es, clock, hb, x, hx, hg⟩), hr, fun g => by rw [hb']; exact hG g⟩

/-- m[x]: all that x ever was; and the way back. -/
theorem Lives.look (h : Lives w b G l) {x : Int} (hx : In64 x) (hl : l.length ≤ 1000000) :
    ∃ A cap, (∀ w', w'.heap[b]? = w.heap[b]? → (Instr.lookup 99 (.map (some b)) (.int .i64 x) false).run Try.prog w' = .ok (.slice A (ids l x).length cap) w') ∧ w.ownsRow (b + 1) 3 1 (.slice A (ids l x).length cap) (ids l x).length (ints (ids l x)) ∧
      (∀ g, (Value.slice A (ids l x).length cap).ownBlock = some g → G g) ∧
      ∀ (w1 : World) (g c : Nat), w.grownBy w1 (Value.slice A (ids l x).length cap).ownBlock → w1.ownsRow (b + 1) 3 1 (.slice (some ⟨g, 0, none⟩) ((ids l x).length + 1) c) ((ids l x).length + 1) (ints (ids l x ++ [(l.length : Int) + 1])) →
        ((Value.slice A (ids l x).length cap).ownBlock = some g ∨ w.heap.size ≤ g) →
        ∃ w2 G', (Instr.mapUpdate 99 (.map (some b)) (.int .i64 x) (.slice (some ⟨g, 0, none⟩) ((ids l x).length + 1) c)).run Try.prog w1 = .ok () w2 ∧ Lives w2 b G' (l ++ [x]) ∧ (∀ k, G' k → G k ∨ k = g) ∧ w1.grownBy w2 (some b) := by
  obtain ⟨D, ho, hr, hG⟩ := h
  have hmax : l.length < maxLen := by unfold maxLen; omega
  obtain ⟨v, zs, hrun, hat, hoi, hzl, hback⟩ := ho.at keyedI Try.underlying99 (zeroInts w) hmax (keyI hx)
  have hz : zs = ids l x := by
    rw [hr.at' x] at hat
    rcases hoi.datum (H := Unit) with ⟨h1, h2⟩ | h1
    · rw [h1] at hat
      split at hat
      · cases hat
      · rename_i hn; rw [h2, ids_other hn]
    · rw [h1] at hat
      split at hat
      · simp only [DataW.slice.injEq, and_true] at hat
        exact (lits_inj hat).symm
      · cases hat
  subst hz
  obtain ⟨A, cap, rfl⟩ := ownsRow_slice hoi.1
  have hown0 := ho
  obtain ⟨es, clock, hb, F, hs, hD, hbb, hlen, hap⟩ := ho
  have hvG : ∀ g, (Value.slice A (ids l x).length cap).ownBlock = some g → G g := fun g hg => by
    rcases fit_look false keyedI Try.underlying99 (zeroInts w) hb F (keyI hx) with ⟨h1, _⟩ | ⟨e1, _, m1, _, h1, _⟩
    · rw [hrun] at h1
      simp only [Bool.false_eq_true, if_false, Result.ok.injEq, and_true] at h1
      rw [h1] at hg
      cases hg
    · rw [hrun] at h1
      simp only [Bool.false_eq_true, if_false, Result.ok.injEq, and_true] at h1
      rw [h1] at hg
      exact (hG g).2 ⟨es, clock, hb, e1, m1, hg⟩
  refine ⟨A, cap, fun w' hb' => look_same keyedI Try.underlying99 zeroInts hb F (keyI hx) hrun hb', hoi.1, hvG, fun w1 g c hgr how hloc => ?_⟩
  have hown' : w1.ownsInts (b + 1) 3 .i64 (.slice (some ⟨g, 0, none⟩) ((ids l x).length + 1) c) (ids l x ++ [(l.length : Int) + 1]) := by
    refine ⟨by simpa [ints] using how, fun z hz => ?_⟩
    rcases List.mem_append.1 hz with hz | hz
    · exact hoi.2 z hz
    · simp at hz
      subst hz
      exact wf_i.2 (by unfold In64; omega)
  obtain ⟨w2, hrun2, ho2, hg2⟩ := hback w1 _ _ hgr hown' (by have := ids_length_le l x; simp; omega) (by
    rcases hloc with h | h
    · exact .inl (by rw [h]; rfl)
    · exact .inr ⟨g, rfl, h⟩)
  have hb1 : w1.heap[b]? = some (.map es clock) := (hgr.block b (Array.getElem?_eq_some_iff.1 hb).1 (fun e1 => by
    have := (hoi.1.lt b e1.symm).1
    omega)).trans hb
  obtain ⟨es', clock', hb2, hwho⟩ := stored_who keyedI Try.underlying99 hb1 F (Nat.lt_of_le_of_lt hs hmax) (keyI hx) hrun2
  have e2 : ids (l ++ [x]) x = ids l x ++ [(l.length : Int) + 1] := by rw [ids_snoc, if_pos rfl]
  refine ⟨w2, fun k => ∃ es clock, w2.heap[b]? = some (.map es clock) ∧ ∃ x ∈ es.toList, x.val.ownBlock = some k, hrun2, ⟨_, by rw [List.length_append]; exact ho2, ?_, fun g => Iff.rfl⟩, ?_, hg2⟩
  · have hD' : IsMap D := ⟨_, hD⟩
    have := hr.put hD' x
    rw [e2] at this
    exact this
  · rintro k ⟨es2, clock2, hb2', y, hy, hyk⟩
    rw [hb2] at hb2'
    cases hb2'
    rcases hwho y hy with ⟨hy0, _⟩ | ⟨_, hval⟩
    · exact .inl ((hG k).2 ⟨es, clock, hb, y, hy0, hyk⟩)
    · rw [hval] at hyk
      exact .inr (by cases hyk; rfl)
end
end Go.Proofs.Ythiccboecimfjaa

/- Souls: what they are in memory; New, Born. -/
namespace Go.Proofs.Ythiccboecimfjaa
open Go.RowKit Go.Maps
set_option maxRecDepth 100000

/-- Block s is souls: the births l in a row; F: the blocks that it is made of. -/
def IsS (w : World) (s : Nat) (F : Nat → Prop) (l : List Int) : Prop :=
  ∃ v mp G, Blk 0 w s [v, .map mp] ∧ w.ownsRow 0 3 1 v l.length (ints l) ∧ ((mp = none ∧ l = [] ∧ ∀ g, ¬ G g) ∨ ∃ b, mp = some b ∧ Lives w b G l) ∧
    (∀ k, F k ↔ (k = s ∨ v.ownBlock = some k ∨ mp = some k ∨ G k)) ∧ v.ownBlock ≠ some s ∧ ¬ G s ∧ ∀ g, v.ownBlock = some g → ¬ G g

section
variable {w w' : World} {s : Nat} {F : Nat → Prop} {l : List Int}
theorem IsS.lt (h : IsS w s F l) : ∀ k, F k → k < w.heap.size := by
  obtain ⟨v, mp, G, hb, ho, hm, hF, _⟩ := h
  intro k hk
  rcases (hF k).1 hk with rfl | e | e | e
  · exact hb.1
  · exact ownsRow_lt ho k e
  · rcases hm with ⟨rfl, _⟩ | ⟨b, rfl, hL⟩
    · cases e
    · cases e; exact hL.own
  · rcases hm with ⟨_, _, hn⟩ | ⟨b, _, hL⟩
    · exact absurd e (hn k)
    · exact (hL.rows k e).2
theorem IsS.loc (h : IsS w s F l) (hk : ∀ k, F k → w'.heap[k]? = w.heap[k]?) (hs : w.heap.size ≤ w'.heap.size) : IsS w' s F l := by
  obtain ⟨v, mp, G, hb, ho, hm, hF, h1, h2, h3⟩ := h
  refine ⟨v, mp, G, hb.kept hs (hk s ((hF s).2 (.inl rfl))), ownsRow_kept ho fun k e => hk k ((hF k).2 (.inr (.inl e))), ?_, hF, h1, h2, h3⟩
  rcases hm with hm | ⟨b, e, hL⟩
  · exact .inl hm
  · exact .inr ⟨b, e, hL.kept (hk b ((hF b).2 (.inr (.inr (.inl e))))) fun g hg => hk g ((hF g).2 (.inr (.inr (.inr hg))))⟩
/-- Souls, as a thing. -/
def soulI (s : Nat) (F : Nat → Prop) (l : List Int) : Item where
  F := F
  says := fun w => IsS w s F l
  loc := fun _ _ h hk hs => h.loc hk hs
end

set_option maxHeartbeats 800000 in
theorem newS_any (w : World) : Calls Try.prog 41 #[] w fun e w' => e = .returned (.pointer (some ⟨w.heap.size, 0, none⟩)) ∧ IsS w' w.heap.size (fun k => k = w.heap.size) [] ∧ Below w.heap.size w w' := by
  go_enter Try.func41, Try.ntmps41
  go_wp2
  go_ret
  exact ⟨rfl, ⟨.slice none 0 0, none, fun _ => False, Blk.new 0 w [.slice none 0 0, .map none] 101, World.ownsRow_nil _ _ _ _, .inl ⟨rfl, rfl, fun _ h => h⟩, fun k => by simp [Value.ownBlock], by simp [Value.ownBlock], fun h => h, by simp [Value.ownBlock]⟩, (Below.refl _ _).alloc (Nat.le_refl _) _⟩

set_option maxHeartbeats 800000 in
theorem born_low {s : Option Nat} {w : World} (x : Int) (hx : s = none ∨ x < 1) :
    Calls Try.prog 50 #[.pointer (s.map fun s => ⟨s, 0, none⟩), .int .i64 x] w fun e w' => e = .returned (.int .i64 0) ∧ w' = w := by
  rcases s with _ | s
  · go_enter Try.func50, Try.ntmps50
    go_wp2
    go_ret
    exact ⟨rfl, rfl⟩
  · have hx : x < 1 := by simpa using hx
    have hb : decide (x < 1) = true := by simp [hx]
    go_enter Try.func50, Try.ntmps50
    go_wp2
    go_ret
    exact ⟨rfl, rfl⟩

theorem not_map_blk {m : Nat} {w : World} {es : Array MapEntry} {clock b s : Nat} {v : Value} {vs : List Value} (hm : w.heap[b]? = some (.map es clock)) (hb : Blk m w s (v :: vs)) : b ≠ s := by
  rintro rfl
  have := hb.rule 0
  simp [World.cell?, hm] at this
theorem not_map_row {w : World} {es : Array MapEntry} {clock b base s n : Nat} {e : TypeId} {v : Value} {xs : List Value} (hm : w.heap[b]? = some (.map es clock)) (ho : w.ownsRow base e s v n xs) : v.ownBlock ≠ some b := by
  intro h
  rcases ho.2 with ⟨rfl, _⟩ | ⟨g, cap, cur, rfl, _, hg, _⟩
  · cases h
  · cases h
    rw [hm] at hg
    cases hg

/-- The worlds that a birth goes through: x appended to the births; the identity appended to x's own. -/
theorem born_worlds {W1 : World} {s b : Nat} {l : List Int} {v : Value} {G : Nat → Prop} (x : Int) (hx : In64 x) (hl : l.length ≤ 100000) (hb : Blk 0 W1 s [v, .map (some b)]) (ho : W1.ownsRow 0 3 1 v l.length (ints l)) (hL : Lives W1 b G l)
    (hvs : v.ownBlock ≠ some s) (hGs : ¬ G s) (hvG : ∀ g, v.ownBlock = some g → ¬ G g) :
    ∃ g cap W2 W3 A c g2 c2 W5 W6 F', (Builtin.append_ #[31, 31] 31 #[v, .slice (some ⟨W1.heap.size, 0, none⟩) 1 1]).run Try.prog (W1.alloc (.cells #[.int .i64 x] 3)) = .ok (.slice (some ⟨g, 0, none⟩) (l.length + 1) cap) W2 ∧
      Blk 0 W2 s [v, .map (some b)] ∧ W3 = W2.setCell ⟨s, 0, none⟩ (.slice (some ⟨g, 0, none⟩) (l.length + 1) cap) ∧ Blk 0 W3 s [.slice (some ⟨g, 0, none⟩) (l.length + 1) cap, .map (some b)] ∧
      (∀ w', w'.heap[b]? = W3.heap[b]? → (Instr.lookup 99 (.map (some b)) (.int .i64 x) false).run Try.prog w' = .ok (.slice A (ids l x).length c) w') ∧ b < W3.heap.size ∧
      (Builtin.append_ #[31, 31] 31 #[.slice A (ids l x).length c, .slice (some ⟨W3.heap.size, 0, none⟩) 1 1]).run Try.prog (W3.drew.alloc (.cells #[.int .i64 ((l.length : Int) + 1)] 3)) = .ok (.slice (some ⟨g2, 0, none⟩) ((ids l x).length + 1) c2) W5 ∧
      Blk 0 W5 s [.slice (some ⟨g, 0, none⟩) (l.length + 1) cap, .map (some b)] ∧
      (Instr.mapUpdate 99 (.map (some b)) (.int .i64 x) (.slice (some ⟨g2, 0, none⟩) ((ids l x).length + 1) c2)).run Try.prog W5 = .ok () W6 ∧
      Blk 0 W6 s [.slice (some ⟨g, 0, none⟩) (l.length + 1) cap, .map (some b)] ∧ IsS W6 s F' (l ++ [x]) ∧
      Turn (fun k => k = s ∨ v.ownBlock = some k ∨ k = b ∨ G k) W1 W6 ∧ ∀ k, F' k → (k = s ∨ v.ownBlock = some k ∨ k = b ∨ G k) ∨ W1.heap.size ≤ k := by
  obtain ⟨i0, hi0, hz0, hz1, hz2⟩ := info_parts infoInt
  obtain ⟨es, clock, hm⟩ := hL.isMap
  have hbs : b ≠ s := not_map_blk hm hb
  have hvb := not_map_row hm ho
  have hsl := hb.1
  have hbl := hL.own
  have hGl := hL.rows
  obtain ⟨g, cap, W2, hrun, ho2, hgr, hg, hgl⟩ := run_append_lies (P := Try.prog) (W1.alloc (.cells #[.int .i64 x] 3)) 31 31 0 3 i0 (.int .i64 0) 1 8 Try.underlying31 hi0 hz0 hz1 hz2 rfl (by decide) v l.length (ints l) (ho.alloc _)
    ⟨W1.heap.size, 0, none⟩ 1 1 [.int .i64 x] rfl (cells_new _ _ _) (by simp [Value.oneCell']) (by omega) (by simp [maxLen]; omega) (by omega) (by simp) _ rfl
  have t2 : Turn (fun k => v.ownBlock = some k) W1 W2 := ((Turn.refl _ W1).alloc _).grown hgr fun k _ e => e
  have hg' : v.ownBlock = some g ∨ W1.heap.size ≤ g := by
    rcases hg with h | h
    · exact .inl h
    · right; rw [h]; simp
  have hgs : g ≠ s := by
    rintro rfl
    rcases hg' with h | h
    · exact hvs h
    · omega
  have hgb : g ≠ b := by
    rintro rfl
    rcases hg' with h | h
    · exact hvb h
    · omega
  have hgG : ¬ G g := by
    intro h
    rcases hg' with h' | h'
    · exact hvG g h' h
    · have := hGl g h; omega
  have hb2 : Blk 0 W2 s [v, .map (some b)] := hb.kept t2.size (t2.block s hsl hvs)
  have t3 : Turn (fun k => k = s ∨ v.ownBlock = some k) W1 (W2.setCell ⟨s, 0, none⟩ (.slice (some ⟨g, 0, none⟩) (l.length + 1) cap)) := (t2.mono fun k _ e => .inr e).setCell (p := ⟨s, 0, none⟩) (fun _ => .inl rfl) _
  have hb3 : Blk 0 (W2.setCell ⟨s, 0, none⟩ (.slice (some ⟨g, 0, none⟩) (l.length + 1) cap)) s [.slice (some ⟨g, 0, none⟩) (l.length + 1) cap, .map (some b)] := hb2.set (by simp) _
  have ho3 : (W2.setCell ⟨s, 0, none⟩ (.slice (some ⟨g, 0, none⟩) (l.length + 1) cap)).ownsRow 0 3 1 (.slice (some ⟨g, 0, none⟩) (l.length + 1) cap) (l.length + 1) (ints l ++ [.int .i64 x]) := ownsRow_setCell_other ho2 (by simp [Value.ownBlock, hgs]) _
  have hL3 : Lives (W2.setCell ⟨s, 0, none⟩ (.slice (some ⟨g, 0, none⟩) (l.length + 1) cap)) b G l := hL.kept (t3.block b hbl (fun e => e.elim hbs hvb)) fun k hk => t3.block k (hGl k hk).2 (fun e => e.elim (fun e => hGs (e ▸ hk)) fun e => hvG k e hk)
  have hs3 := t3.size
  have hgl3 : g < (W2.setCell ⟨s, 0, none⟩ (.slice (some ⟨g, 0, none⟩) (l.length + 1) cap)).heap.size := by simpa using hgl
  clear ho2 hgl
  generalize hW3 : W2.setCell ⟨s, 0, none⟩ (.slice (some ⟨g, 0, none⟩) (l.length + 1) cap) = W3 at *
  have hsl3 := hb3.1
  have hbl3 := hL3.own
  have hL3d : Lives W3.drew b G l := hL3.kept rfl fun _ _ => rfl
  obtain ⟨A, c, hlook, hrow, hAG, hback⟩ := hL3d.look hx (by omega)
  have hidl := ids_length_le l x
  obtain ⟨g2, c2, W5, hrun5, ho5, hgr5, hg5, hgl5⟩ := run_append_lies (P := Try.prog) (W3.drew.alloc (.cells #[.int .i64 ((l.length : Int) + 1)] 3)) 31 31 (b + 1) 3 i0 (.int .i64 0) 1 8 Try.underlying31 hi0 hz0 hz1 hz2 rfl (by decide) _ (ids l x).length (ints (ids l x)) (hrow.alloc _)
    ⟨W3.heap.size, 0, none⟩ 1 1 [.int .i64 ((l.length : Int) + 1)] rfl (cells_new _ _ _) (by simp [Value.oneCell']) (by omega) (by simp [maxLen]; omega) (by omega) (by simp; omega) _ rfl
  have hg5' : (Value.slice A (ids l x).length c).ownBlock = some g2 ∨ W3.heap.size ≤ g2 := by
    rcases hg5 with h | h
    · exact .inl h
    · right; rw [h]; simp
  have t5 : Turn (fun k => G k) W3 W5 := (((Turn.refl _ W3).drew).alloc _).grown hgr5 fun k _ e => hAG k e
  obtain ⟨W6, G6, hrun6, hL6, hG6, hgr6⟩ := hback W5 g2 c2 ((World.grownBy_alloc W3.drew _ _).trans hgr5) (by rw [ints_append]; exact ho5) hg5'
  have hg2s : g2 ≠ s := by
    rintro rfl
    rcases hg5' with h | h
    · exact hGs (hAG _ h)
    · omega
  have hg2g : g2 ≠ g := by
    rintro rfl
    rcases hg5' with h | h
    · exact hgG (hAG _ h)
    · omega
  have t6 : Turn (fun k => k = b ∨ G k) W3 W6 := (t5.mono fun k _ e => .inr e).grown hgr6 fun k _ e => .inl (by cases e; rfl)
  have hb5 : Blk 0 W5 s [.slice (some ⟨g, 0, none⟩) (l.length + 1) cap, .map (some b)] := hb3.kept t5.size (t5.block s hsl3 hGs)
  have hb6 : Blk 0 W6 s [.slice (some ⟨g, 0, none⟩) (l.length + 1) cap, .map (some b)] := hb3.kept t6.size (t6.block s hsl3 fun e => e.elim (fun e => hbs e.symm) hGs)
  have ho6 : W6.ownsRow 0 3 1 (.slice (some ⟨g, 0, none⟩) (l.length + 1) cap) (l.length + 1) (ints l ++ [.int .i64 x]) := ownsRow_kept ho3 fun k e => t6.block k (by cases e; exact hgl3) (by cases e; exact fun e => e.elim (fun e => hgb e) hgG)
  refine ⟨g, cap, W2, W3, A, c, g2, c2, W5, W6, fun k => k = s ∨ k = g ∨ k = b ∨ G6 k, hrun, hb2, hW3.symm, hb3, hlook, hbl3, hrun5, hb5, hrun6, hb6, ?_, ?_, ?_⟩
  · refine ⟨_, some b, G6, hb6, by rw [List.length_append, ints_append]; exact ho6, .inr ⟨b, rfl, hL6⟩, fun k => by simp [Value.ownBlock, eq_comm], by simp [Value.ownBlock, hgs], fun h => ?_, fun k e h => ?_⟩
    · rcases hG6 s h with h | h
      · exact hGs h
      · exact hg2s h.symm
    · cases e
      rcases hG6 g h with h | h
      · exact hgG h
      · exact hg2g h.symm
  · exact (t3.mono (T' := fun k => k = s ∨ v.ownBlock = some k ∨ k = b ∨ G k) fun k _ e => e.elim .inl fun e => .inr (.inl e)).then t6 fun k _ e => .inr (.inr e)
  · rintro k (rfl | rfl | rfl | h)
    · exact .inl (.inl rfl)
    · rcases hg' with h | h
      · exact .inl (.inr (.inl h))
      · exact .inr h
    · exact .inl (.inr (.inr (.inl rfl)))
    · rcases hG6 k h with h | rfl
      · exact .inl (.inr (.inr (.inr h)))
      · rcases hg5' with h | h
        · exact .inl (.inr (.inr (.inr (hAG _ h))))
        · exact .inr (by omega)

end Go.Proofs.Ythiccboecimfjaa

/- Souls: Born. -/
namespace Go.Proofs.Ythiccboecimfjaa
open Go.RowKit Go.Maps
set_option maxRecDepth 100000

set_option maxRecDepth 100000 in
set_option maxHeartbeats 3200000 in
theorem born_any {s : Nat} {F : Nat → Prop} {l : List Int} {w : World} (x : Int) (hx : In64 x) (h1 : 1 ≤ x) (hl : l.length ≤ 100000) (hS : IsS w s F l) :
    Calls Try.prog 50 #[.pointer (some ⟨s, 0, none⟩), .int .i64 x] w fun e w' => e = .returned (.int .i64 ((l.length : Int) + 1)) ∧ ∃ F', IsS w' s F' (l ++ [x]) ∧ Step F F' w w' := by
  obtain ⟨v, mp, G, hb, ho, hm, hF, hvs, hGs, hvG⟩ := hS
  have hsl := hb.1
  have r0 := hb.rule
  have z0 : w.frozen? ⟨s, 1, none⟩ = false := hb.thaw 1 (by simp)
  have hx1 : decide (x < 1) = false := by simp; omega
  have hq := fun w => run_eql_map_nil_sl (P := Try.prog) w 99 _ _ mp Try.underlying99
  have hmm := @run_makeMap Try.prog
  have hE : Hid (∃ b W1 G', Blk 0 W1 s [v, .map (some b)] ∧ W1.ownsRow 0 3 1 v l.length (ints l) ∧ Lives W1 b G' l ∧ ¬ G' s ∧ (∀ g, v.ownBlock = some g → ¬ G' g) ∧ Turn F w W1 ∧ (∀ k, (k = s ∨ v.ownBlock = some k ∨ k = b ∨ G' k) → F k ∨ w.heap.size ≤ k) ∧
      (W1 = w ∧ mp = some b ∨ mp = none ∧ b = w.heap.size ∧ W1 = (w.setCell ⟨s, 1, none⟩ (.map (some w.heap.size))).alloc (.map #[] 0))) := by
    rcases hm with ⟨rfl, rfl, hn⟩ | ⟨b, rfl, hL⟩
    · have hLm := Lives.made (w.setCell ⟨s, 1, none⟩ (.map (some w.heap.size)))
      have hsz : (w.setCell ⟨s, 1, none⟩ (.map (some w.heap.size))).heap.size = w.heap.size := by simp
      rw [hsz] at hLm
      refine ⟨w.heap.size, _, fun _ => False, (hb.set (i := 1) (by simp) (.map (some w.heap.size))).more _, (ownsRow_setCell_other ho hvs _).alloc _, hLm, fun h => h, fun _ _ h => h, ((Turn.refl F w).setCell (p := ⟨s, 1, none⟩) (fun _ => (hF s).2 (.inl rfl)) _).alloc _, ?_, .inr ⟨rfl, rfl, rfl⟩⟩
      rintro k (rfl | h | rfl | h)
      · exact .inl ((hF _).2 (.inl rfl))
      · exact .inl ((hF _).2 (.inr (.inl h)))
      · exact .inr (Nat.le_refl _)
      · exact h.elim
    · refine ⟨b, w, G, hb, ho, hL, hGs, hvG, Turn.refl _ _, ?_, .inl ⟨rfl, rfl⟩⟩
      rintro k (rfl | h | rfl | h)
      · exact .inl ((hF _).2 (.inl rfl))
      · exact .inl ((hF _).2 (.inr (.inl h)))
      · exact .inl ((hF _).2 (.inr (.inr (.inl rfl))))
      · exact .inl ((hF _).2 (.inr (.inr (.inr h))))
  clear hm ho hvG hGs
  obtain ⟨b, W1, G', hb1, ho1, hL1, hG1, hv1, hT1, hF1, hW⟩ := hE.out
  obtain ⟨g, cap, W2, W3, A, c, g2, c2, W5, W6, F', hrun, hb2, hW3, hb3, hlook, hbl3, hrun5, hb5, hrun6, hb6, hS6, hT6, hF6⟩ := born_worlds x hx hl hb1 ho1 hL1 hvs hG1 hv1
  obtain ⟨A0, c0, rfl⟩ := ownsRow_slice ho1
  have hEND : Hid (IsS W6 s F' (l ++ [x]) ∧ Step F F' w W6) := Lib.hid ⟨hS6, ⟨hT1.then (hT6.mono (T' := fun k => k < w.heap.size → F k) fun k hk e hk' => (hF1 k e).resolve_right (by omega)) fun k hk e => e hk, fun k hk => by
    rcases hF6 k hk with h | h
    · exact hF1 k h
    · exact .inr (Nat.le_trans hT1.size h)⟩⟩
  have HRUN := Lib.hid hrun
  have HB1 := Lib.hid hb1.rule
  have HB2 := Lib.hid (And.intro hb2.rule (And.intro (hb2.thaw 0 (by simp)) hb2.1))
  have HB3 := Lib.hid (And.intro hb3.rule (And.intro hb3.drew.rule (And.intro (hb3.drew.more (.cells #[.int .i64 ((l.length : Int) + 1)] 3)).rule (And.intro hb5.rule hb6.rule))))
  have hk0 : W3.drew.heap[b]? = W3.heap[b]? := rfl
  have hk1 : (W3.drew.alloc (.cells #[.int .i64 ((l.length : Int) + 1)] 3)).heap[b]? = W3.heap[b]? := Below.heap_alloc _ _ _ hbl3
  have HLOOK := Lib.hid (And.intro (hlook _ hk0) (hlook _ hk1))
  have HR5 := Lib.hid hrun5
  have HR6 := Lib.hid hrun6
  have HEX := Lib.hid hx
  have hw64 : wrap64 ((l.length : Int) + 1) = (l.length : Int) + 1 := w64 _ (by omega)
  clear hE hb hF hT1 hF1 hlook hrun5 hrun6 hS6 hT6 hF6 hbl3 hk0 hk1 hrun ho1 hL1 hG1 hv1 hx hb5 hb6 hvs
  have hb2r := HB2.out.1
  have hb2z := HB2.out.2.1
  have HW3 := Lib.hid hW3
  clear hW3 hb1 hb2 hb3
  rcases hW with ⟨rfl, rfl⟩ | ⟨rfl, hbw, hWW⟩
  case' inr =>
    have hsz : W1.heap.size = w.heap.size + 1 := by rw [hWW]; simp
    rw [hsz] at HRUN
    subst hWW hbw
    clear hsz
  all_goals
    simp only [Option.isNone_some, Option.isNone_none] at hq
    go_enter Try.func50, Try.ntmps50
    go_wp2_with (first | (at_builtin; refine wpList_append_run rfl _ _ 31 rfl HRUN.out rfl rfl ?_))
    rw [← HW3.out]
    clear hq hmm r0 z0 hb2r hb2z HB1 HB2 HRUN HW3
    refine Ord.wp_chain2 [12, 13, 14] (fun w' => ∀ i, w'.cell? ⟨s, i, none⟩ = [Value.slice (some ⟨g, 0, none⟩) (l.length + 1) cap, .map (some _)][i]?) (fun j w' => [W3.drew, W3.drew.alloc (.cells #[.int .i64 ((l.length : Int) + 1)] 3), W5, W6][j]? = some w') (by kernel_rfl) (by kernel_rfl) (by kernel_rfl) HB3.out.2.1 rfl (fun hT => ?_)
    have hT9 := Lib.hid hT
    clear hT
    repeat (refine Ord.ch2_value (v := ?_) hT9.out (by decide) (by rfl) ?_ ?_; rotate_left; (focus (intro w5 hS; go_simp <;> with_reducible rfl)); (try simp only [Act.put, List.setIfInBounds_toArray, List.set_cons_zero, List.set_cons_succ]))
    refine Ord.ch2_early 1 hT9.out (by decide) (by rfl) (by kernel_rfl) (by decide) (by rfl) (v := .slice A (ids l x).length c) ?_ ?_
    · intro w5 j hj hS hA
      obtain ⟨l0, l1⟩ := HLOOK.out
      rw [show W3.drew.alloc (.cells #[.int .i64 ((l.length : Int) + 1)] 3) = (W3.alloc (.cells #[.int .i64 ((l.length : Int) + 1)] 3)).drew from rfl] at l1
      rcases j with _ | _ | j
      · cases hA; go_simp <;> with_reducible rfl
      · cases hA; go_simp <;> with_reducible rfl
      · omega
    (try simp only [Act.put, List.setIfInBounds_toArray, List.set_cons_zero, List.set_cons_succ])
    repeat (refine Ord.ch2_value (v := ?_) hT9.out (by decide) (by rfl) ?_ ?_; rotate_left; (focus (intro w5 hS; skip; go_simp <;> with_reducible rfl)); (try simp only [Act.put, List.setIfInBounds_toArray, List.set_cons_zero, List.set_cons_succ]))
    refine Ord.ch2_turn 0 hT9.out (by rfl) (by decide) (Or.inl rfl) (by rfl) (v := .slice (some ⟨W3.heap.size, 0, none⟩) 1 1) ?_ ?_
    · intro w5 hS hA
      cases hA
      go_simp
      simp only [Ord.LandsIn]
      exact ⟨trivial, HB3.out.2.2.1, trivial⟩
    (try simp only [Act.put, List.setIfInBounds_toArray, List.set_cons_zero, List.set_cons_succ])
    refine Ord.ch2_turn 1 hT9.out (by rfl) (by decide) (Or.inr ⟨_, rfl, by kernel_rfl⟩) (by rfl) (v := .slice (some ⟨g2, 0, none⟩) ((ids l x).length + 1) c2) ?_ ?_
    · intro w5 hS hA
      cases hA
      refine append_lands rfl HR5.out (by rfl) (by rfl) ⟨HB3.out.2.2.2.1, rfl⟩
    (try simp only [Act.put, List.setIfInBounds_toArray, List.set_cons_zero, List.set_cons_succ])
    refine Ord.ch2_turn 2 hT9.out (by rfl) (by decide) (Or.inr ⟨_, rfl, by kernel_rfl⟩) (by rfl) (v := undef) ?_ ?_
    · intro w5 hS hA
      cases hA
      have hr6 := HR6.out
      simp [execOp, Act.eval, hr6, Result.andThen]
      exact ⟨rfl, HB3.out.2.2.2.2, rfl⟩
    (try simp only [Act.put, List.setIfInBounds_toArray, List.set_cons_zero, List.set_cons_succ])
    refine Ord.InText.nil fun w5 hS => ?_
    clear hT9
    obtain ⟨hC, hA⟩ := Ord.chain2_end hS
    clear hS
    cases hA
    go_wp2_with fail
    go_ret
    exact ⟨rfl, F', hEND.out⟩
end Go.Proofs.Ythiccboecimfjaa

/- Souls among other things; a birth in any slot. -/
namespace Go.Proofs.Ythiccboecimfjaa
open Go.RowKit Go.Maps
set_option maxRecDepth 100000

/-- The births behind one more. -/
def bornL (l : List Int) (x : Int) : List Int := if x < 1 then l else l ++ [x]
def bornV (l : List Int) (x : Int) : Int := if x < 1 then 0 else (l.length : Int) + 1
theorem bornL_length (l : List Int) (x : Int) : (bornL l x).length ≤ l.length + 1 := by unfold bornL; split <;> simp
theorem bornX_any {s : Nat} {F : Nat → Prop} {l : List Int} {w : World} (x : Int) (hx : In64 x) (hl : l.length ≤ 100000) (hS : IsS w s F l) :
    Calls Try.prog 50 #[.pointer (some ⟨s, 0, none⟩), .int .i64 x] w fun e w' => e = .returned (.int .i64 (bornV l x)) ∧ ∃ F', IsS w' s F' (bornL l x) ∧ Step F F' w w' := by
  unfold bornV bornL
  by_cases h : x < 1
  · rw [if_pos h, if_pos h]
    refine (born_low (s := some s) x (.inr h)).mono ?_
    rintro e w' ⟨rfl, rfl⟩
    exact ⟨rfl, F, hS, Step.refl _ _⟩
  · rw [if_neg h, if_neg h]
    exact born_any x hx (by omega) hl hS

section
variable {w0 w w' : World} {L : List Item} {s : Nat} {F F' : Nat → Prop} {l l' : List Int}
theorem Env.madeS (h : Env w0 L w) (hC : IsS w' s (fun k => k = s) l) (hc : w.heap.size ≤ s) (hb : Below w.heap.size w w') : Env w0 (soulI s (fun k => k = s) l :: L) w' :=
  h.add (soulI s (fun k => k = s) l) hb hC fun k hk => ⟨by have hk : k = s := hk; omega, hC.lt k hk⟩
theorem Env.soul (h : Env w0 L w) (i : Nat) (hi : L[i]? = some (soulI s F l)) : IsS w s F l := h.get i hi
theorem Env.turnS (h : Env w0 L w) (i : Nat) (hi : L[i]? = some (soulI s F l)) (hC : IsS w' s F' l') (hs : Step F F' w w') : Env w0 (L.set i (soulI s F' l')) w' :=
  h.step i (soulI s F' l') hi hs hC hC.lt
end
end Go.Proofs.Ythiccboecimfjaa

/- A drawn region whose operations each come to one value, whatever the order: walked once, in the order of the text. S says what every world on the way keeps (cells that are read, what has not turned); loads, arithmetic and calls (of functions that may make memory) go by it. -/
namespace Go.Proofs.Ythiccboecimfjaa
open Go
set_option maxRecDepth 100000

section
variable {P : Program} {ops : Array Oper} {Q : Exit → Act → World → Prop} {md : Region.Mode} {S : World → Prop}

/-- What a run comes to: the value v, or a call that comes to v; S is kept. -/
def LandsIn (P : Program) (S : World → Prop) (v : Value) : Result Next → Prop
  | .ok (.value u) w' => u = v ∧ S w'
  | .ok .skip w' => v = undef ∧ S w'
  | .ok (.enter f args) w' => Calls P f args w' fun e w'' => e = .returned v ∧ S w''
  | _ => False

/-- In frame a the operation comes to v from every world that meets S. -/
def Settles (P : Program) (ops : Array Oper) (S : World → Prop) (o : Oper) (v : Value) (a : Act) : Prop :=
  (Region.wanted o (yielded ops a.tmps) = true ∧ ∀ w, S w → LandsIn P S v ((execOp a.eval o).run P w)) ∨ (Region.wanted o (yielded ops a.tmps) = false ∧ v = undef)

theorem Settles.of_same {o : Oper} {v : Value} {a a' : Act} (h : Settles P ops S o v a) (he : execOp a'.eval o = execOp a.eval o)
    (hw : Region.wanted o (yielded ops a'.tmps) = Region.wanted o (yielded ops a.tmps)) : Settles P ops S o v a' := by
  unfold Settles at *
  rw [he, hw]
  exact h

theorem Settles.wpOp {i : Nat} {o : Oper} {v : Value} {a : Act} (hi : ops[i]? = some o) (h : Settles P ops S o v a) {K : Act → World → Prop} {w : World} (hS : S w)
    (hK : ∀ w', S w' → K (a.put o.dst v) w') : wpOp P ops Q i K a w := by
  unfold Go.wpOp
  simp only [hi]
  rcases h with ⟨hw, hv⟩ | ⟨hw, rfl⟩
  · simp only [hw, if_true]
    have := hv w hS
    refine .inl ?_
    unfold Oper.wp
    generalize (execOp a.eval o).run P w = r at *
    cases r with
    | ok n w' =>
      cases n <;> simp only [LandsIn] at this <;> simp only [Oper.upon]
      case value u => obtain ⟨rfl, h2⟩ := this; exact hK _ h2
      case skip => obtain ⟨rfl, h2⟩ := this; exact hK _ h2
      case enter f args =>
        refine Calls.mono this fun e w'' he => ?_
        obtain ⟨rfl, h2⟩ := he
        exact hK _ h2
    | halt x w' => simp only [LandsIn] at this
  · simp only [hw, Bool.false_eq_true, if_false]
    exact hK _ hS

/-- Whatever order is picked: each operation comes to a value that hangs on the frame alone. -/
def Every (P : Program) (md : Region.Mode) (ops : Array Oper) (Q : Exit → Act → World → Prop) (S : World → Prop) : Nat → Array Bool → Act → Prop
  | 0, listed, a => Region.ready md ops listed = [] ∧ ∀ w, S w → Q .normal a w
  | fuel + 1, listed, a => (Region.ready md ops listed = [] → ∀ w, S w → Q .normal a w) ∧
    ∀ i ∈ Region.ready md ops listed, ∃ o v, ops[i]? = some o ∧ Settles P ops S o v a ∧ Every P md ops Q S fuel (listed.setIfInBounds i true) (a.put o.dst v)

theorem Every.sound : ∀ (fuel : Nat) (listed : Array Bool) (a : Act), Every P md ops Q S fuel listed a → ∀ w, S w → wpAny P md ops Q fuel listed a w
  | 0, _, _, h, w, hS => ⟨h.1, h.2 w hS⟩
  | fuel + 1, listed, a, h, w, hS => ⟨fun h0 => h.1 h0 w hS, fun i hi => by
      obtain ⟨o, v, ho, hs, hE⟩ := h.2 i hi
      exact hs.wpOp ho hS fun w' hS' => Every.sound fuel _ _ hE w' hS'⟩

theorem Every.first {i : Nat} {oi : Oper} {v : Value} (hi : ops[i]? = some oi) (hsel : ∀ (j : Nat) (o : Oper) cs b, ops[j]? = some o → o.op ≠ .select cs b) :
    ∀ (fuel : Nat) (listed : Array Bool) (a : Act),
      (∀ j oj, ops[j]? = some oj → j ≠ i → listed.getD j true = false → (∀ e ∈ oj.after, Region.binds md e = true → e.on ≠ i) → oi.apart ops oj = true) →
      i ∈ Region.ready md ops listed → Settles P ops S oi v a →
      Every P md ops Q S fuel (listed.setIfInBounds i true) (a.put oi.dst v) → Every P md ops Q S (fuel + 1) listed a := by
  intro fuel
  induction fuel with
  | zero =>
    intro listed a _ hr hy H
    refine ⟨fun h => (by rw [h] at hr; cases hr), fun j hj => ?_⟩
    by_cases hji : j = i
    · subst hji; exact ⟨oi, v, hi, hy, H⟩
    · have := ready_mono hj hji
      rw [H.1] at this
      cases this
  | succ fuel ih =>
    intro listed a hfree hr hy H
    refine ⟨fun h => (by rw [h] at hr; cases hr), fun j hj => ?_⟩
    by_cases hji : j = i
    · subst hji; exact ⟨oi, v, hi, hy, H⟩
    · obtain ⟨oj, u, hoj, hsj, hE⟩ := H.2 j (ready_mono hj hji)
      obtain ⟨hjun, oj', hoj', hall⟩ := mem_ready.1 hj
      obtain rfl : oj = oj' := Option.some.inj (hoj.symm.trans hoj')
      have hnot : ∀ e ∈ oj.after, Region.binds md e = true → e.on ≠ i := fun e he hb heq => by
        have h1 := hall e he hb
        have h0 := (mem_ready.1 hr).1
        rw [heq] at h1
        rcases Nat.lt_or_ge i listed.size with h' | h'
        · simp [h'] at h0 h1; rw [h0] at h1; cases h1
        · simp [Array.getElem?_eq_none h'] at h1
      have hap := hfree j oj hoj hji hjun hnot
      obtain ⟨p1, p2, p3⟩ := Oper.apart_spec hap
      have hfree' : ∀ k ok, ops[k]? = some ok → k ≠ i → (listed.setIfInBounds j true).getD k true = false →
          (∀ e ∈ ok.after, Region.binds md e = true → e.on ≠ i) → oi.apart ops ok = true := fun k ok hk hki hun hno => by
        refine hfree k ok hk hki ?_ hno
        by_cases hjk : j = k
        · subst hjk; exact hjun
        · rw [getD_set_ne true hjk] at hun; exact hun
      refine ⟨oj, u, hoj, hsj.of_same (execOp_put oj (fun cs b => hsel j oj cs b hoj) a oi.dst v p1).symm (wanted_put oj a oi.dst v p1).symm, ?_⟩
      refine ih (listed.setIfInBounds j true) (a.put oj.dst u) hfree' (ready_mono hr (Ne.symm hji)) (hy.of_same (execOp_put oi (fun cs b => hsel i oi cs b hi) a oj.dst u p3) (wanted_put oi a oj.dst u p3)) ?_
      rw [Array.setIfInBounds_comm _ _ hji, ← Act.put_comm a v u p2]
      exact hE

/-- The operations of the text from k on, in its order. -/
def firstK (n k : Nat) : Array Bool := Array.ofFn (n := n) fun i => decide (i.1 < k)
def textFits (md : Region.Mode) (ops : Array Oper) : Bool :=
  Region.noSelect ops && (List.range ops.size).all fun k => Region.free md ops (firstK ops.size k) k && (Region.ready md ops (firstK ops.size k)).contains k
def InText (P : Program) (md : Region.Mode) (ops : Array Oper) (Q : Exit → Act → World → Prop) (S : World → Prop) (rest : List Oper) (a : Act) : Prop :=
  ∀ k, k + rest.length = ops.size → ops.toList.drop k = rest → Every P md ops Q S rest.length (firstK ops.size k) a

theorem firstK_succ (n k : Nat) : (firstK n k).setIfInBounds k true = firstK n (k + 1) := by
  apply Array.ext
  · simp [firstK]
  · intro i h1 h2
    by_cases hik : i = k
    · subst hik
      simp [firstK]
    · have e := Array.getElem_setIfInBounds_ne (xs := firstK n k) (i := k) (j := i) (a := true) (by simpa using h1) (by omega)
      rw [e]
      simp only [firstK, Array.getElem_ofFn]
      congr 1
      apply propext
      omega

theorem InText.nil {a : Act} (h : ∀ w, S w → Q .normal a w) : InText P md ops Q S [] a := fun k hk _ => by
  refine ⟨?_, h⟩
  have hk' : k = ops.size := by simpa using hk
  subst hk'
  unfold Region.ready
  rw [List.filter_eq_nil_iff]
  intro i hi
  have : i < ops.size := by simpa using hi
  simp [firstK, this]

theorem InText.cons {o : Oper} {rest : List Oper} {a : Act} {v : Value} (hf : textFits md ops = true) (hs : Settles P ops S o v a) (h : InText P md ops Q S rest (a.put o.dst v)) : InText P md ops Q S (o :: rest) a := fun k hk hd => by
  unfold textFits at hf
  rw [Bool.and_eq_true, List.all_eq_true] at hf
  have hlt : k < ops.size := by simp at hk; omega
  have hf2 := hf.2 k (by simpa using hlt)
  rw [Bool.and_eq_true] at hf2
  have ho : ops[k]? = some o := by
    have h0 : (ops.toList.drop k)[0]? = some o := by rw [hd]; rfl
    simpa using h0
  have hsel : ∀ (j : Nat) (o : Oper) cs b, ops[j]? = some o → o.op ≠ .select cs b := Region.noSelect_spec hf.1
  refine Every.first ho hsel rest.length (firstK ops.size k) a (Region.free_spec ho hf2.1) (by simpa using hf2.2) hs ?_
  rw [firstK_succ]
  refine h (k + 1) (by simp at hk; omega) ?_
  rw [← List.drop_drop, hd]
  rfl

/-- The start. -/
theorem wp_text {id : Nat} {a : Act} {w : World} (hm : P.follows .mixedOrders = true) (hf : textFits .any ops = true) (hS : S w.drew) (h : textFits .any ops = true → InText P .any ops Q S ops.toList a) : (Code.region id ops true).wp P Q a w :=
  wp_region_any hm (by
    have h0 := h hf 0 (by simp) rfl
    have e : firstK ops.size 0 = Array.replicate ops.size false := by
      apply Array.ext
      · simp [firstK]
      · intro i h1 h2; simp [firstK]
    rw [e] at h0
    simpa using Every.sound _ _ _ h0 _ hS)

/-- One step each: a value (arithmetic, a load, a move). -/
theorem text_value {o : Oper} {rest : List Oper} {a : Act} {v : Value} (hf : textFits md ops = true) (hw : Region.wanted o (yielded ops a.tmps) = true) (hv : ∀ w, S w → (execOp a.eval o).run P w = .ok (.value v) w)
    (h : InText P md ops Q S rest (a.put o.dst v)) : InText P md ops Q S (o :: rest) a :=
  InText.cons hf (Or.inl ⟨hw, fun w hS => by rw [hv w hS]; exact ⟨rfl, hS⟩⟩) h
/-- .. an operation that is not wanted .. -/
theorem text_off {o : Oper} {rest : List Oper} {a : Act} (hf : textFits md ops = true) (hw : Region.wanted o (yielded ops a.tmps) = false) (h : InText P md ops Q S rest (a.put o.dst undef)) : InText P md ops Q S (o :: rest) a :=
  InText.cons hf (Or.inr ⟨hw, rfl⟩) h
/-- .. a call. -/
theorem text_call {o : Oper} {rest : List Oper} {a : Act} {v : Value} {f : FuncId} {args : Array Value} (hf : textFits md ops = true) (hw : Region.wanted o (yielded ops a.tmps) = true) (hr : ∀ w, S w → (execOp a.eval o).run P w = .ok (.enter f args) w)
    (hc : ∀ w, S w → Calls P f args w fun e w' => e = .returned v ∧ S w') (h : InText P md ops Q S rest (a.put o.dst v)) : InText P md ops Q S (o :: rest) a :=
  InText.cons hf (Or.inl ⟨hw, fun w hS => by rw [hr w hS]; exact hc w hS⟩) h
end
end Go.Proofs.Ythiccboecimfjaa

/- Contracts of layer 6: who a slot is; of nothing. -/
namespace Go.Proofs.Ythiccboecimfjaa
open Go.RowKit Go.Maps
set_option maxRecDepth 100000

theorem IsS.over {w w' : World} {s : Nat} {F : Nat → Prop} {l : List Int} (h : IsS w s F l) (hb : Below w.heap.size w w') : IsS w' s F l := h.loc (fun k hk => hb.block k (h.lt k hk)) hb.size
/-- What stands in the block, and what a look-up is told. -/
theorem IsS.look {w : World} {s : Nat} {F : Nat → Prop} {l : List Int} (h : IsS w s F l) {x : Int} (hx : In64 x) (hl : l.length ≤ 1000000) :
    ∃ A0 c0 mp A cap, (∀ i, w.cell? ⟨s, i, none⟩ = [Value.slice A0 l.length c0, Value.map mp][i]?) ∧ s < w.heap.size ∧ Cells1 w A0 l ∧ (Instr.lookup 99 (.map mp) (.int .i64 x) false).run Try.prog w = .ok (.slice A (ids l x).length cap) w ∧
      w.ownsRow 0 3 1 (.slice A (ids l x).length cap) (ids l x).length (ints (ids l x)) := by
  obtain ⟨v, mp, G, hb, ho, hm, _⟩ := h
  obtain ⟨A0, c0, rfl⟩ := ownsRow_slice ho
  rcases hm with ⟨rfl, rfl, _⟩ | ⟨b, rfl, hL⟩
  · refine ⟨A0, c0, none, none, 0, hb.rule, hb.1, cells1 ho, ?_, World.ownsRow_nil _ _ _ _⟩
    have := Maps.look_nil (w := w) false keyedI Try.underlying99 (zeroInts w) (keyI hx)
    simpa [ids_nil] using this
  · obtain ⟨A, cap, h1, h2, _⟩ := hL.look hx hl
    exact ⟨A0, c0, some b, A, cap, hb.rule, hb.1, cells1 ho, h1 w rfl, ownsRow_base h2 (Nat.zero_le _)⟩

section
variable {w : World}
set_option maxHeartbeats 800000 in
theorem now_nil (x : Int) : Calls Try.prog 59 #[.pointer none, .int .i64 x] w fun e w' => e = .returned (.int .i64 0) ∧ w' = w := by
  go_enter Try.func59, Try.ntmps59
  go_wp2
  go_ret
  exact ⟨rfl, rfl⟩
end

section
variable {s : Nat} {F : Nat → Prop} {l : List Int} {w : World}
set_option maxHeartbeats 800000 in
theorem now_any (x : Int) (hx : In64 x) (hl : l.length ≤ 1000000) (hS : IsS w s F l) :
    Calls Try.prog 59 #[.pointer (some ⟨s, 0, none⟩), .int .i64 x] w fun e w' => e = .returned (.int .i64 (nowL l x)) ∧ w' = w := by
  obtain ⟨A0, c0, mp, A, cap, r, hsl, _, hlook, hrow⟩ := hS.look hx hl
  have hc := cells1 hrow
  have hidl := ids_length_le l x
  have hnow : nowL l x = (ids l x).getLastD 0 := rfl
  rw [hnow]
  clear hnow hrow
  generalize ids l x = m at *
  rcases hc with rfl | ⟨g, rfl, hg, hc⟩
  · go_enter Try.func59, Try.ntmps59
    go_wp2
    go_ret
    exact ⟨rfl, rfl⟩
  · by_cases h0 : m.length = 0
    · have hm : m = [] := List.eq_nil_of_length_eq_zero h0
      subst hm
      go_enter Try.func59, Try.ntmps59
      go_wp2
      go_ret
      exact ⟨rfl, rfl⟩
    · have hlast := hc (m.length - 1) (by omega)
      have e1 : m.getLastD 0 = m.getD (m.length - 1) 0 := by
        rcases m with _ | ⟨a, m⟩
        · simp at h0
        · rw [List.getLastD_cons]
          simp [List.getD, List.getLastD_eq_getLast?, List.getLast?_eq_getElem?]
          cases m <;> simp
      rw [e1]
      generalize m.getD (m.length - 1) 0 = z at *
      have hb : ((m.length : Int) == 0) = false := by rw [beq_eq_false_iff_ne]; omega
      have hw : wrap64 ((m.length : Int) - 1) = ((m.length - 1 : Nat) : Int) := by rw [w64 _ (by omega)]; omega
      have hin : (0 : Int) ≤ ((m.length - 1 : Nat) : Int) ∧ ((m.length - 1 : Nat) : Int) < m.length := by omega
      clear hc
      go_enter Try.func59, Try.ntmps59
      go_wp2
      go_ret
      exact ⟨rfl, rfl⟩

end
end Go.Proofs.Ythiccboecimfjaa

/- The plain world, watched: what it is in memory; its small functions; whether a reference is stale. -/
namespace Go.Proofs.Ythiccboecimfjaa
open Go.RowKit Go.Maps
set_option maxRecDepth 100000

/-- A ghost's cells. -/
def gv (p : Nat) (mp : Option Nat) (s : Nat) (st fa : Int) : List Value := [.pointer (some ⟨p, 0, none⟩), .map mp, .pointer (some ⟨s, 0, none⟩), .int .i64 st, .int .i64 fa]
/-- Whether a reference is stale. -/
def stB (l : List Int) (x y d : Int) : Bool := decide (x = 5) && decide (nowL l y ≠ d)
/-- How many faults there are behind a word that is written. -/
def faS (l : List Int) (x y d : Int) (b : Bool) (fa : Int) : Int := if (b || stB l x y d) = true then wrap64 (fa + 1) else fa

section
variable {w0 w : World} {L : List Item} {g p s c n m : Nat} {mp : Option Nat} {S F : Nat → Prop} {h f : Plc → Int} {l : List Int} {q : Cnt} {st fa : Int}
theorem watched_any {w : World} (hb : Blk 0 w g (gv p mp s st fa)) :
    Calls Try.prog 47 #[.pointer (some ⟨g, 0, none⟩)] w fun e w' => e = .returned (.pointer (some ⟨p, 0, none⟩)) ∧ w' = w := by
  have r := hb.rule
  unfold gv at r
  go_enter Try.func47, Try.ntmps47
  go_wp2
  go_ret
  exact ⟨rfl, rfl⟩
theorem souls_any {w : World} (hb : Blk 0 w g (gv p mp s st fa)) :
    Calls Try.prog 49 #[.pointer (some ⟨g, 0, none⟩)] w fun e w' => e = .returned (.pointer (some ⟨s, 0, none⟩)) ∧ w' = w := by
  have r := hb.rule
  unfold gv at r
  go_enter Try.func49, Try.ntmps49
  go_wp2
  go_ret
  exact ⟨rfl, rfl⟩
theorem stale_any {w : World} (hb : Blk 0 w g (gv p mp s st fa)) :
    Calls Try.prog 25 #[.pointer (some ⟨g, 0, none⟩)] w fun e w' => e = .returned (.int .i64 st) ∧ w' = w := by
  have r := hb.rule
  unfold gv at r
  go_enter Try.func25, Try.ntmps25
  go_wp2
  go_ret
  exact ⟨rfl, rfl⟩
theorem faults_any {w : World} (hb : Blk 0 w g (gv p mp s st fa)) :
    Calls Try.prog 24 #[.pointer (some ⟨g, 0, none⟩)] w fun e w' => e = .returned (.int .i64 fa) ∧ w' = w := by
  have r := hb.rule
  unfold gv at r
  go_enter Try.func24, Try.ntmps24
  go_wp2
  go_ret
  exact ⟨rfl, rfl⟩
theorem Env.gblk (hE : Env w0 L w) (i : Nat) (hi : L[i]? = some (boxI g (gv p mp s st fa))) : Blk 0 w g (gv p mp s st fa) := hE.get i hi

set_option maxHeartbeats 1600000 in
theorem isStale_any (x y z d : Int) (hy : In64 y) (hl : l.length ≤ 1000000) (i j : Nat) (hE : Env w0 L w) (hg : L[i]? = some (boxI g (gv p mp s st fa))) (hs : L[j]? = some (soulI s S l)) :
    Calls Try.prog 42 #[.pointer (some ⟨g, 0, none⟩), .agg #[.int .i64 x, .int .i64 y, .int .i64 z, .int .i64 d]] w fun e w' => e = .returned (.bool (stB l x y d)) ∧ Below w.heap.size w w' := by
  have hb := (Below.refl w.heap.size w).alloc (Nat.le_refl _) (.cells #[.int .i64 x, .int .i64 y, .int .i64 z, .int .i64 d] 46)
  replace hE := hE.box w.heap.size rfl [.int .i64 x, .int .i64 y, .int .i64 z, .int .i64 d] 46
  have HY := Lib.hid hy
  clear hy
  go_enter Try.func42, Try.ntmps42
  go_wp2_with fail
  obtain ⟨X, hXw⟩ : ∃ X, X = w.heap.size := ⟨_, rfl⟩
  rw [← hXw] at hE ⊢
  have HXW := Lib.hid hXw
  clear hXw
  have hg1 : (boxI X [.int .i64 x, .int .i64 y, .int .i64 z, .int .i64 d] :: L)[i + 1]? = some (boxI g (gv p mp s st fa)) := hg
  have hs1 : (boxI X [.int .i64 x, .int .i64 y, .int .i64 z, .int .i64 d] :: L)[j + 1]? = some (soulI s S l) := hs
  by_cases h5 : x = 5
  · have e1 : stB l x y d = (nowL l y != d) := by simp [stB, h5, bne, decide_not]; rfl
    have E1 := Lib.hid e1
    clear e1
    subst h5
    refine Ord.wp_chain [] (fun w' => Env w0 (boxI X [.int .i64 5, .int .i64 y, .int .i64 z, .int .i64 d] :: L) w' ∧ Below w.heap.size w w') (fun _ _ => True) (by kernel_rfl) (by kernel_rfl) (by kernel_rfl) ⟨hE.drew, hb.drew⟩ trivial (fun hT => ?_)
    have hT9 := Lib.hid hT
    clear hT
    repeat (first
      | (refine Ord.ch_value (v := ?_) hT9.out (by decide) (by rfl) ?_ ?_; rotate_left; (focus (intro w5 hS; have r := hS.1.rule 0 rfl; have r1 := hS.1.rule (i + 1) hg1; unfold gv at r1; go_simp <;> with_reducible rfl)); (try simp only [Act.put, List.setIfInBounds_toArray, List.set_cons_zero, List.set_cons_succ]))
      | (refine Ord.ch_off hT9.out (by decide) (by rfl) ?_; (try simp only [Act.put, List.setIfInBounds_toArray, List.set_cons_zero, List.set_cons_succ]))
      | (refine Ord.ch_call (v := ?_) (f := ?_) (args := ?_) hT9.out (by decide) (by rfl) ?_ ?_ ?_; rotate_left 3; (focus (intro w5 hS; have r := hS.1.rule 0 rfl; have r1 := hS.1.rule (i + 1) hg1; unfold gv at r1; go_simp; constructor <;> with_reducible rfl)); (focus (intro w5 hS; (first | (with_reducible refine (now_any y HY.out hl (hS.1.soul (j + 1) hs1)).mono ?_; rintro e w6 ⟨rfl, rfl⟩; constructor; with_reducible rfl; exact ⟨hS, fun _ h => h⟩)))); (try simp only [Act.put, List.setIfInBounds_toArray, List.set_cons_zero, List.set_cons_succ])))
    refine Ord.InText.nil fun w5 hS => ?_
    clear hT9
    obtain ⟨hC9, hA9⟩ := Ord.chain_end hS
    clear hS
    go_wp2
    go_ret
    exact ⟨ret_bool E1.out.symm, hC9.2⟩
  · have e1 : stB l x y d = false := by simp [stB, h5]
    have E1 := Lib.hid e1
    clear e1
    have h5' : (x == 5) = false := by simpa using h5
    refine Ord.wp_chain [] (fun w' => Env w0 (boxI X [.int .i64 x, .int .i64 y, .int .i64 z, .int .i64 d] :: L) w' ∧ Below w.heap.size w w') (fun _ _ => True) (by kernel_rfl) (by kernel_rfl) (by kernel_rfl) ⟨hE.drew, hb.drew⟩ trivial (fun hT => ?_)
    have hT9 := Lib.hid hT
    clear hT
    repeat (first
      | (refine Ord.ch_value (v := ?_) hT9.out (by decide) (by rfl) ?_ ?_; rotate_left; (focus (intro w5 hS; have r := hS.1.rule 0 rfl; have r1 := hS.1.rule (i + 1) hg1; unfold gv at r1; go_simp <;> with_reducible rfl)); (try simp only [Act.put, List.setIfInBounds_toArray, List.set_cons_zero, List.set_cons_succ]))
      | (refine Ord.ch_off hT9.out (by decide) (by rfl) ?_; (try simp only [Act.put, List.setIfInBounds_toArray, List.set_cons_zero, List.set_cons_succ]))
      | (refine Ord.ch_call (v := ?_) (f := ?_) (args := ?_) hT9.out (by decide) (by rfl) ?_ ?_ ?_; rotate_left 3; (focus (intro w5 hS; have r := hS.1.rule 0 rfl; have r1 := hS.1.rule (i + 1) hg1; unfold gv at r1; go_simp; constructor <;> with_reducible rfl)); (focus (intro w5 hS; (first | fail))); (try simp only [Act.put, List.setIfInBounds_toArray, List.set_cons_zero, List.set_cons_succ])))
    refine Ord.InText.nil fun w5 hS => ?_
    clear hT9
    obtain ⟨hC9, hA9⟩ := Ord.chain_end hS
    clear hS
    go_wp2
    go_ret
    exact ⟨ret_bool E1.out.symm, hC9.2⟩
end
end Go.Proofs.Ythiccboecimfjaa

/- The plain world, watched: what is written. -/
namespace Go.Proofs.Ythiccboecimfjaa
open Go.RowKit Go.Maps
set_option maxRecDepth 100000

section
variable {w0 w : World} {L : List Item} {g p s c n m : Nat} {mp : Option Nat} {S F : Nat → Prop} {h f : Plc → Int} {l : List Int} {q : Cnt} {st fa : Int}
set_option maxHeartbeats 3200000 in
theorem written_g (x y z d v0 e : Int) (b sb : Bool) (hx : Wf (x, y, z)) (he : In64 e) (hm : m < maxLen) (hl : l.length ≤ 1000000) (i : Nat) (hE : Env w0 L w) (hg : L[i]? = some (boxI g (gv p mp s st fa))) (hh : L[i + 1]? = some (leadsI mp h m)) (hs : L[i + 2]? = some (soulI s S l)) :
    Calls Try.prog 45 #[.pointer (some ⟨g, 0, none⟩), .agg #[.int .i64 x, .int .i64 y, .int .i64 z, .int .i64 d], .agg #[.int .u64 v0, .int .i64 e, .bool b], .bool sb] w fun e' w' => e' = .returned (.tuple #[]) ∧ ∃ mp', Env w0 ((L.set i (boxI g (gv p mp' s st (faS l x y d sb fa)))).set (i + 1) (leadsI mp' (upd h (x, y, z) e) (m + 1))) w' := by
  replace hE := (hE.box w.heap.size rfl [.int .i64 x, .int .i64 y, .int .i64 z, .int .i64 d] 46).box (w.heap.size + 1) (by simp) [.int .u64 v0, .int .i64 e, .bool b] 42
  have HX := Lib.hid hx
  have HE := Lib.hid he
  clear hx he
  generalize hfa : faS l x y d sb fa = fz
  unfold faS at hfa
  have HFZ := Lib.hid hfa
  clear hfa
  go_enter Try.func45, Try.ntmps45
  go_upto_region 1 with fail
  generalize (w.alloc _).alloc _ = w1 at *
  generalize w.heap.size + 1 = Y at *
  generalize w.heap.size = X at *
  have hXg : ¬ X = g := hE.off (i := 1) (j := i + 2) rfl hg (by omega) X rfl
  have hYg : ¬ Y = g := hE.off (i := 0) (j := i + 2) rfl hg (by omega) Y rfl
  have hgX : ¬ g = X := fun e => hXg e.symm
  have hgY : ¬ g = Y := fun e => hYg e.symm
  have z4 := fun (v : World) (hE : Env w0 (boxI Y [.int .u64 v0, .int .i64 e, .bool b] :: boxI X [.int .i64 x, .int .i64 y, .int .i64 z, .int .i64 d] :: L) v) => hE.thaw (i + 2) hg 4 (by simp [gv])
  have hT : ∀ (v : World), Env w0 (boxI Y [.int .u64 v0, .int .i64 e, .bool b] :: boxI X [.int .i64 x, .int .i64 y, .int .i64 z, .int .i64 d] :: L) v → Env w0 (boxI Y [.int .u64 v0, .int .i64 e, .bool b] :: boxI X [.int .i64 x, .int .i64 y, .int .i64 z, .int .i64 d] :: L.set i (boxI g (gv p mp s st (wrap64 (fa + 1))))) (v.setCell ⟨g, 4, none⟩ (.int .i64 (wrap64 (fa + 1)))) := fun v hE => hE.put (i + 2) hg (j := 4) (by simp [gv]) (.int .i64 (wrap64 (fa + 1)))
  have hT0 : ∀ (v : World), Env w0 (boxI Y [.int .u64 v0, .int .i64 e, .bool b] :: boxI X [.int .i64 x, .int .i64 y, .int .i64 z, .int .i64 d] :: L) v → Env w0 (boxI Y [.int .u64 v0, .int .i64 e, .bool b] :: boxI X [.int .i64 x, .int .i64 y, .int .i64 z, .int .i64 d] :: L.set i (boxI g (gv p mp s st fa))) v := fun v hE => by rw [setSelf hg]; exact hE
  have HT := Lib.hid hT
  have HT0 := Lib.hid hT0
  clear hT hT0
  cases sb
  case' true =>
    have r2 := hE.rule (i + 2) hg
    have z2 := z4 _ hE
    have hfa := HFZ.out
    clear HFZ
    unfold gv at r2
    go_upto_region 3 with fail
    have ez : wrap64 (fa + 1) = fz := by simpa using hfa
    replace hE := HT.out _ hE
    clear r2 z2 hfa
    generalize World.setCell _ _ _ = w3 at *
    rw [ez] at hE
    clear ez
  case' false =>
    have r0 := hE.rule 1 rfl
    go_wp2_with fail
    refine (isStale_any x y z d HX.out.2.1 hl (i + 2) (i + 4) hE hg hs).mono ?_
    rintro e1 w2 ⟨rfl, hb⟩
    replace hE := hE.over hb
    have hfa := HFZ.out
    rw [Bool.false_or] at hfa
    clear r0 hb HFZ
    generalize stB l x y d = t at *
    have r2 := hE.rule (i + 2) hg
    have z2 := z4 _ hE
    unfold gv at r2
    cases t
    case' false =>
      go_upto_region 3 with fail
      have ez : fa = fz := by simpa using hfa
      replace hE := HT0.out _ hE
      clear r2 z2 hfa
      rw [ez] at hE
      clear ez
      generalize w2 = w3 at *
    case' true =>
      go_upto_region 3 with fail
      have ez : wrap64 (fa + 1) = fz := by simpa using hfa
      replace hE := HT.out _ hE
      clear r2 z2 hfa
      generalize World.setCell _ _ _ = w3 at *
      rw [ez] at hE
      clear ez
  all_goals
    have hg1 : (L.set i (boxI g (gv p mp s st fz)))[i]? = some (boxI g (gv p mp s st fz)) := wself hg
    have hh1 : (L.set i (boxI g (gv p mp s st fz)))[i + 1]? = some (leadsI mp h m) := wset (j := i) (by omega) hh
    clear z4 HT HT0
    by_cases he0 : e = 0
    · subst he0
      have r0 := hE.rule 0 rfl
      go_wp2_with fail
      clear r0
      refine Ord.wp_chain [6] (fun w' => Blk 0 w' X [.int .i64 x, .int .i64 y, .int .i64 z, .int .i64 d] ∧ Blk 0 w' Y [.int .u64 v0, .int .i64 0, .bool b] ∧ Blk 0 w' g (gv p mp s st fz)) (Stage [Env w0 (boxI Y [.int .u64 v0, .int .i64 0, .bool b] :: boxI X [.int .i64 x, .int .i64 y, .int .i64 z, .int .i64 d] :: (L.set i (boxI g (gv p mp s st fz)))), Env w0 (boxI Y [.int .u64 v0, .int .i64 0, .bool b] :: boxI X [.int .i64 x, .int .i64 y, .int .i64 z, .int .i64 d] :: ((L.set i (boxI g (gv p mp s st fz)))).set (i + 1) (leadsI (mp) (upd h (x, y, z) 0) (m + 1)))]) (by kernel_rfl) (by kernel_rfl) (by kernel_rfl) ⟨hE.drew.get 1 rfl, hE.drew.get 0 rfl, hE.drew.get (i + 2) hg1⟩ ⟨_, rfl, hE.drew⟩ (fun hT => ?_)
      have hT9 := Lib.hid hT
      clear hT
      repeat (first
        | (refine Ord.ch_value (v := ?_) hT9.out (by decide) (by rfl) ?_ ?_; rotate_left; (focus (intro w5 hS; have r0 := hS.1.rule; have r1 := hS.2.1.rule; have r2 := hS.2.2.rule; unfold gv at r2; go_simp <;> with_reducible rfl)); (try simp only [Act.put, List.setIfInBounds_toArray, List.set_cons_zero, List.set_cons_succ]))
        | (refine Ord.ch_off hT9.out (by decide) (by rfl) ?_; (try simp only [Act.put, List.setIfInBounds_toArray, List.set_cons_zero, List.set_cons_succ])))
      refine Ord.ch_turn (v := .tuple #[]) 0 hT9.out rfl (by decide) (Or.inl rfl) (by rfl) ?_ ?_
      · rintro w5 hC5 ⟨P5, hP5, hA5⟩
        cases hP5
        obtain ⟨w6, hrun, hM6, ht⟩ := (hA5.leads (i + 3) hh1).drop HX.out 0
        simp only [pv] at hrun
        simp [execOp, resolve, invoke, builtin, Act.eval, hrun, Result.andThen]
        have hE6 := hA5.turnL (i + 3) hh1 (hM6.mono (Nat.le_succ _)) ht
        exact ⟨rfl, ⟨hE6.get 1 rfl, hE6.get 0 rfl, hE6.get (i + 2) (wset (j := i + 1) (by omega) hg1)⟩, _, rfl, hE6⟩
      (try simp only [Act.put, List.setIfInBounds_toArray, List.set_cons_zero, List.set_cons_succ])
      refine Ord.InText.nil fun w5 hS => ?_
      clear hT9
      obtain ⟨hC9, hA9⟩ := Ord.chain_end hS
      clear hS
      obtain ⟨P9, hP9, hA9⟩ := hA9
      cases hP9
      clear hC9 hE
      go_wp2
      (first | go_end0 | refine bodyPost_ret (results_none rfl _ _ _) rfl ?_)
      exact ⟨rfl, mp, hA9.sub (.cons _ (.cons _ (List.Sublist.refl _)))⟩
    · have heb : (e == 0) = false := by simpa using he0
      have hq := fun w => run_eql_map_nil_sl (P := Try.prog) w 81 _ _ mp Try.underlying81
      have r0 := hE.rule 0 rfl
      have r2 := hE.rule (i + 2) hg1
      have z1 := hE.thaw (i + 2) hg1 1 (by simp [gv])
      unfold gv at r2
      rcases mp with _ | mb
      · have hmm := @run_makeMap Try.prog
        simp only [Option.isNone_none] at hq
        have hgl := hE.boxLt (i + 2) hg1
        have r2o := fun o => cell_more hgl r2 o
        go_wp2_with fail
        replace hE := (hE.put (i + 2) hg1 (j := 1) (by simp [gv]) (.map (some w3.heap.size))).mapMade (i + 3) (wset (L := L.set i (boxI g (gv p none s st fz))) (j := i) (by omega) hh1) w3.heap.size (by simp [World.setCell])
        obtain ⟨mb, hmb⟩ : ∃ mb, w3.heap.size = mb := ⟨_, rfl⟩
        rw [hmb] at hE ⊢
        clear r0 r2 z1 hq heb hmm hgl r2o hmb
        change Env w0 (boxI Y [.int .u64 v0, .int .i64 e, .bool b] :: boxI X [.int .i64 x, .int .i64 y, .int .i64 z, .int .i64 d] :: ((L.set i (boxI g (gv p none s st fz))).set i (boxI g (gv p (some mb) s st fz))).set (i + 1) (leadsI (some mb) h m)) _ at hE
        rw [List.set_set] at hE
        have hg2 : ((L.set i (boxI g (gv p (some mb) s st fz))).set (i + 1) (leadsI (some mb) h m))[i]? = some (boxI g (gv p (some mb) s st fz)) := wset (j := i + 1) (by omega) (wself hg)
        have hh2 : ((L.set i (boxI g (gv p (some mb) s st fz))).set (i + 1) (leadsI (some mb) h m))[i + 1]? = some (leadsI (some mb) h m) := wself (wset (j := i) (a := leadsI none h m) (by omega) hh)
        generalize World.alloc _ _ = w4 at *
        refine Ord.wp_chain [8] (fun w' => Blk 0 w' X [.int .i64 x, .int .i64 y, .int .i64 z, .int .i64 d] ∧ Blk 0 w' Y [.int .u64 v0, .int .i64 e, .bool b] ∧ Blk 0 w' g (gv p (some mb) s st fz)) (Stage [Env w0 (boxI Y [.int .u64 v0, .int .i64 e, .bool b] :: boxI X [.int .i64 x, .int .i64 y, .int .i64 z, .int .i64 d] :: ((L.set i (boxI g (gv p (some mb) s st fz))).set (i + 1) (leadsI (some mb) h m))), Env w0 (boxI Y [.int .u64 v0, .int .i64 e, .bool b] :: boxI X [.int .i64 x, .int .i64 y, .int .i64 z, .int .i64 d] :: ((L.set i (boxI g (gv p (some mb) s st fz)))).set (i + 1) (leadsI ((some mb)) (upd h (x, y, z) e) (m + 1)))]) (by kernel_rfl) (by kernel_rfl) (by kernel_rfl) ⟨hE.drew.get 1 rfl, hE.drew.get 0 rfl, hE.drew.get (i + 2) hg2⟩ ⟨_, rfl, hE.drew⟩ (fun hT => ?_)
        have hT9 := Lib.hid hT
        clear hT
        repeat (first
          | (refine Ord.ch_value (v := ?_) hT9.out (by decide) (by rfl) ?_ ?_; rotate_left; (focus (intro w5 hS; have r0 := hS.1.rule; have r1 := hS.2.1.rule; have r2 := hS.2.2.rule; unfold gv at r2; go_simp <;> with_reducible rfl)); (try simp only [Act.put, List.setIfInBounds_toArray, List.set_cons_zero, List.set_cons_succ]))
          | (refine Ord.ch_off hT9.out (by decide) (by rfl) ?_; (try simp only [Act.put, List.setIfInBounds_toArray, List.set_cons_zero, List.set_cons_succ])))
        refine Ord.ch_turn (v := undef) 0 hT9.out rfl (by decide) (Or.inl rfl) (by rfl) ?_ ?_
        · rintro w5 hC5 ⟨P5, hP5, hA5⟩
          cases hP5
          obtain ⟨w6, hrun, hM6, ht⟩ := (hA5.leads (i + 3) hh2).store hm HX.out HE.out he0
          simp only [pv] at hrun
          simp [execOp, Act.eval, hrun, Result.andThen]
          have hE6 := hA5.turnL (i + 3) hh2 hM6 (ht.mono fun k _ e => by rw [e])
          change Env w0 (boxI Y [.int .u64 v0, .int .i64 e, .bool b] :: boxI X [.int .i64 x, .int .i64 y, .int .i64 z, .int .i64 d] :: ((L.set i (boxI g (gv p (some mb) s st fz))).set (i + 1) (leadsI (some mb) h m)).set (i + 1) (leadsI (some mb) (upd h (x, y, z) e) (m + 1))) _ at hE6
          rw [List.set_set] at hE6
          exact ⟨rfl, ⟨hE6.get 1 rfl, hE6.get 0 rfl, hE6.get (i + 2) (wset (j := i + 1) (by omega) (wself hg))⟩, _, rfl, hE6⟩
        (try simp only [Act.put, List.setIfInBounds_toArray, List.set_cons_zero, List.set_cons_succ])
        refine Ord.InText.nil fun w5 hS => ?_
        clear hT9
        obtain ⟨hC9, hA9⟩ := Ord.chain_end hS
        clear hS
        obtain ⟨P9, hP9, hA9⟩ := hA9
        cases hP9
        clear hC9 hE
        go_wp2
        (first | go_end0 | refine bodyPost_ret (results_none rfl _ _ _) rfl ?_)
        exact ⟨rfl, (some mb), hA9.sub (.cons _ (.cons _ (List.Sublist.refl _)))⟩
      · simp only [Option.isNone_some] at hq
        go_wp2_with fail
        clear r0 r2 z1 hq heb
        refine Ord.wp_chain [8] (fun w' => Blk 0 w' X [.int .i64 x, .int .i64 y, .int .i64 z, .int .i64 d] ∧ Blk 0 w' Y [.int .u64 v0, .int .i64 e, .bool b] ∧ Blk 0 w' g (gv p (some mb) s st fz)) (Stage [Env w0 (boxI Y [.int .u64 v0, .int .i64 e, .bool b] :: boxI X [.int .i64 x, .int .i64 y, .int .i64 z, .int .i64 d] :: (L.set i (boxI g (gv p (some mb) s st fz)))), Env w0 (boxI Y [.int .u64 v0, .int .i64 e, .bool b] :: boxI X [.int .i64 x, .int .i64 y, .int .i64 z, .int .i64 d] :: ((L.set i (boxI g (gv p (some mb) s st fz)))).set (i + 1) (leadsI ((some mb)) (upd h (x, y, z) e) (m + 1)))]) (by kernel_rfl) (by kernel_rfl) (by kernel_rfl) ⟨hE.drew.get 1 rfl, hE.drew.get 0 rfl, hE.drew.get (i + 2) hg1⟩ ⟨_, rfl, hE.drew⟩ (fun hT => ?_)
        have hT9 := Lib.hid hT
        clear hT
        repeat (first
          | (refine Ord.ch_value (v := ?_) hT9.out (by decide) (by rfl) ?_ ?_; rotate_left; (focus (intro w5 hS; have r0 := hS.1.rule; have r1 := hS.2.1.rule; have r2 := hS.2.2.rule; unfold gv at r2; go_simp <;> with_reducible rfl)); (try simp only [Act.put, List.setIfInBounds_toArray, List.set_cons_zero, List.set_cons_succ]))
          | (refine Ord.ch_off hT9.out (by decide) (by rfl) ?_; (try simp only [Act.put, List.setIfInBounds_toArray, List.set_cons_zero, List.set_cons_succ])))
        refine Ord.ch_turn (v := undef) 0 hT9.out rfl (by decide) (Or.inl rfl) (by rfl) ?_ ?_
        · rintro w5 hC5 ⟨P5, hP5, hA5⟩
          cases hP5
          obtain ⟨w6, hrun, hM6, ht⟩ := (hA5.leads (i + 3) hh1).store hm HX.out HE.out he0
          simp only [pv] at hrun
          simp [execOp, Act.eval, hrun, Result.andThen]
          have hE6 := hA5.turnL (i + 3) hh1 hM6 (ht.mono fun k _ e => by rw [e])
          exact ⟨rfl, ⟨hE6.get 1 rfl, hE6.get 0 rfl, hE6.get (i + 2) (wset (j := i + 1) (by omega) hg1)⟩, _, rfl, hE6⟩
        (try simp only [Act.put, List.setIfInBounds_toArray, List.set_cons_zero, List.set_cons_succ])
        refine Ord.InText.nil fun w5 hS => ?_
        clear hT9
        obtain ⟨hC9, hA9⟩ := Ord.chain_end hS
        clear hS
        obtain ⟨P9, hP9, hA9⟩ := hA9
        cases hP9
        clear hC9 hE
        go_wp2
        (first | go_end0 | refine bodyPost_ret (results_none rfl _ _ _) rfl ?_)
        exact ⟨rfl, (some mb), hA9.sub (.cons _ (.cons _ (List.Sublist.refl _)))⟩
end
end Go.Proofs.Ythiccboecimfjaa

/- The plain world, watched: contracts of its accesses. -/
namespace Go.Proofs.Ythiccboecimfjaa
open Go.RowKit Go.Maps
set_option maxRecDepth 100000

section
variable {w0 w : World} {L : List Item} {g p s c n m : Nat} {mp : Option Nat} {S F : Nat → Prop} {h f : Plc → Int} {l : List Int} {q : Cnt} {st fa : Int}
theorem new_g (hE : Env w0 L w) : Calls Try.prog 18 #[] w fun e w' => ∃ g p s c, e = .returned (.pointer (some ⟨g, 0, none⟩)) ∧ Env w0 (boxI g (gv p none s 0 0) :: leadsI none (fun _ => 0) 0 :: soulI s (fun k => k = s) [] :: wbox p c :: cellI c (fun k => k = c) (fun _ => 0) ⟨0, 0, 0, 0, 0⟩ 0 :: L) w' ∧ Below w.heap.size w w' := by
  go_enter Try.func18, Try.ntmps18
  go_wp2_with fail
  refine (new_w hE).mono ?_
  rintro e w1 ⟨p, c, rfl, hE, hb⟩
  go_wp2_with fail
  refine (newS_any w1).mono ?_
  rintro e w2 ⟨rfl, hC, hb2⟩
  replace hE := (hE.madeS hC (Nat.le_refl _) hb2).newL
  have hB := hb.trans (hb2.mono hb.size)
  clear hC hb hb2
  generalize w1.heap.size = s at *
  replace hE := hE.box w2.heap.size rfl (gv p none s 0 0) 83
  go_wp2
  go_ret
  exact ⟨_, _, _, _, rfl, hE, hB.alloc hB.size _⟩

set_option maxHeartbeats 1600000 in
theorem born_g (x : Int) (hx : In64 x) (hl : l.length ≤ 100000) (i : Nat) (hE : Env w0 L w) (hg : L[i]? = some (boxI g (gv p mp s st fa))) (hs : L[i + 2]? = some (soulI s S l)) :
    Calls Try.prog 23 #[.pointer (some ⟨g, 0, none⟩), .int .i64 x] w fun e w' => e = .returned (.int .i64 (bornV l x)) ∧ ∃ S', Env w0 (L.set (i + 2) (soulI s S' (bornL l x))) w' := by
  go_enter Try.func23, Try.ntmps23
  go_wp2_with fail
  refine (souls_any (hE.gblk i hg)).mono ?_
  rintro e w1 ⟨rfl, rfl⟩
  go_wp2_with fail
  refine (bornX_any x hx hl (hE.soul (i + 2) hs)).mono ?_
  rintro e w2 ⟨rfl, S', hC, ht⟩
  replace hE := hE.turnS (i + 2) hs hC ht
  go_wp2
  go_ret
  exact ⟨rfl, S', hE⟩

set_option maxHeartbeats 1600000 in
theorem store_g (x y z d v e : Int) (b : Bool) (hx : Wf (x, y, z)) (hv : InU v) (he : In64 e) (hn : n < maxLen) (hm : m < maxLen) (hl : l.length ≤ 1000000) (i : Nat) (hE : Env w0 L w) (hg : L[i]? = some (boxI g (gv p mp s st fa))) (hh : L[i + 1]? = some (leadsI mp h m)) (hs : L[i + 2]? = some (soulI s S l)) (hw : L[i + 3]? = some (wbox p c)) (hc : L[i + 4]? = some (cellI c F f q n)) :
    Calls Try.prog 20 #[.pointer (some ⟨g, 0, none⟩), .agg #[.int .i64 x, .int .i64 y, .int .i64 z, .int .i64 d], .agg #[.int .u64 v, .int .i64 e, .bool b]] w fun e' w' => e' = .returned (.tuple #[]) ∧ ∃ mp' F', Env w0 (((L.set (i + 4) (cellI c F' (upd f (x, y, z) v) { q with s := wrap64 (q.s + 1) } (n + 1))).set i (boxI g (gv p mp' s st (faS l x y d b fa)))).set (i + 1) (leadsI mp' (upd h (x, y, z) e) (m + 1))) w' := by
  replace hE := ((hE.box w.heap.size rfl [.int .i64 x, .int .i64 y, .int .i64 z, .int .i64 d] 46).box (w.heap.size + 1) (by simp) [.int .u64 v, .int .i64 e, .bool b] 42)
  have HX := Lib.hid hx
  have HE := Lib.hid he
  have HV := Lib.hid hv
  clear hx he hv
  go_enter Try.func20, Try.ntmps20
  go_wp2_with fail
  generalize (w.alloc _).alloc _ = w1 at *
  generalize w.heap.size + 1 = Y at *
  generalize w.heap.size = X at *
  refine Ord.wp_chain [6] (fun w' => Blk 0 w' X [.int .i64 x, .int .i64 y, .int .i64 z, .int .i64 d] ∧ Blk 0 w' Y [.int .u64 v, .int .i64 e, .bool b] ∧ Blk 0 w' g (gv p mp s st fa)) (Stage [Env w0 (boxI Y [.int .u64 v, .int .i64 e, .bool b] :: boxI X [.int .i64 x, .int .i64 y, .int .i64 z, .int .i64 d] :: L), fun w' => ∃ F', Env w0 (boxI Y [.int .u64 v, .int .i64 e, .bool b] :: boxI X [.int .i64 x, .int .i64 y, .int .i64 z, .int .i64 d] :: L.set (i + 4) (cellI c F' (upd f (x, y, z) v) { q with s := wrap64 (q.s + 1) } (n + 1))) w']) (by kernel_rfl) (by kernel_rfl) (by kernel_rfl) ⟨hE.drew.get 1 rfl, hE.drew.get 0 rfl, hE.drew.get (i + 2) hg⟩ ⟨_, rfl, hE.drew⟩ (fun hT => ?_)
  have hT9 := Lib.hid hT
  clear hT
  repeat (first
    | (refine Ord.ch_value (v := ?_) hT9.out (by decide) (by rfl) ?_ ?_; rotate_left; (focus (intro w5 hS; have r0 := hS.1.rule; have r1 := hS.2.1.rule; have r2 := hS.2.2.rule; unfold gv at r2; go_simp <;> with_reducible rfl)); (try simp only [Act.put, List.setIfInBounds_toArray, List.set_cons_zero, List.set_cons_succ]))
    | (refine Ord.ch_off hT9.out (by decide) (by rfl) ?_; (try simp only [Act.put, List.setIfInBounds_toArray, List.set_cons_zero, List.set_cons_succ])))
  refine Ord.ch_turn (v := .tuple #[]) 0 hT9.out rfl (by decide) (Or.inl rfl) (by rfl) ?_ ?_
  · rintro w5 hC5 ⟨P5, hP5, hA5⟩
    cases hP5
    skip
    go_simp
    simp only [Ord.LandsIn]
    refine (store_w x y z d v e b HX.out HV.out hn (i + 5) (i + 6) (by omega) hA5 hw hc).mono ?_
    rintro e6 w6 ⟨rfl, F6, hE6⟩; exact ⟨rfl, ⟨hE6.get 1 rfl, hE6.get 0 rfl, hE6.get (i + 2) (wset (j := i + 4) (by omega) hg)⟩, _, rfl, F6, hE6⟩
  (try simp only [Act.put, List.setIfInBounds_toArray, List.set_cons_zero, List.set_cons_succ])
  repeat (first
    | (refine Ord.ch_value (v := ?_) hT9.out (by decide) (by rfl) ?_ ?_; rotate_left; (focus (intro w5 hS; skip; go_simp <;> with_reducible rfl)); (try simp only [Act.put, List.setIfInBounds_toArray, List.set_cons_zero, List.set_cons_succ]))
    | (refine Ord.ch_off hT9.out (by decide) (by rfl) ?_; (try simp only [Act.put, List.setIfInBounds_toArray, List.set_cons_zero, List.set_cons_succ])))
  refine Ord.InText.nil fun w5 hS => ?_
  clear hT9
  obtain ⟨hC9, hA9⟩ := Ord.chain_end hS
  clear hS
  obtain ⟨P9, hP9, hA9⟩ := hA9
  cases hP9
  obtain ⟨F9, hA9⟩ := hA9
  clear hC9 hE
  have hg1 := wset (j := i + 4) (b := cellI c F9 (upd f (x, y, z) v) { q with s := wrap64 (q.s + 1) } (n + 1)) (by omega) hg
  have hh1 := wset (j := i + 4) (b := cellI c F9 (upd f (x, y, z) v) { q with s := wrap64 (q.s + 1) } (n + 1)) (by omega) hh
  have hs1 := wset (j := i + 4) (b := cellI c F9 (upd f (x, y, z) v) { q with s := wrap64 (q.s + 1) } (n + 1)) (by omega) hs
  have r0 := hA9.rule 0 rfl
  have r1 := hA9.rule 1 rfl
  go_wp2_with fail
  refine (written_g x y z d v e b b HX.out HE.out hm hl (i + 2) hA9 hg1 hh1 hs1).mono ?_
  rintro e6 w6 ⟨rfl, mp6, hE6⟩
  clear r0 r1 hA9
  go_wp2
  (first | go_end0 | refine bodyPost_ret (results_none rfl _ _ _) rfl ?_)
  exact ⟨rfl, mp6, F9, hE6.sub (.cons _ (.cons _ (List.Sublist.refl _)))⟩

set_option maxHeartbeats 1600000 in
theorem add_g (x y z d v : Int) (hx : Wf (x, y, z)) (hn : n < maxLen) (i : Nat) (hE : Env w0 L w) (hg : L[i]? = some (boxI g (gv p mp s st fa))) (hw : L[i + 3]? = some (wbox p c)) (hc : L[i + 4]? = some (cellI c F f q n)) :
    Calls Try.prog 22 #[.pointer (some ⟨g, 0, none⟩), .agg #[.int .i64 x, .int .i64 y, .int .i64 z, .int .i64 d], .int .u64 v] w fun e w' => e = .returned (.int .u64 (f (x, y, z))) ∧ ∃ F', Env w0 (L.set (i + 4) (cellI c F' (upd f (x, y, z) (IntKind.u64.wrap (f (x, y, z) + v))) { q with a := wrap64 (q.a + 1) } (n + 1))) w' := by
  replace hE := (hE.box w.heap.size rfl [.int .i64 x, .int .i64 y, .int .i64 z, .int .i64 d] 46)
  have HX := Lib.hid hx
  clear hx
  go_enter Try.func22, Try.ntmps22
  go_wp2_with fail
  generalize w.heap.size = X at *
  refine Ord.wp_chain [4] (fun w' => Blk 0 w' X [.int .i64 x, .int .i64 y, .int .i64 z, .int .i64 d] ∧ Blk 0 w' g (gv p mp s st fa)) (Stage [Env w0 (boxI X [.int .i64 x, .int .i64 y, .int .i64 z, .int .i64 d] :: L), fun w' => ∃ F', Env w0 (boxI X [.int .i64 x, .int .i64 y, .int .i64 z, .int .i64 d] :: L.set (i + 4) (cellI c F' (upd f (x, y, z) (IntKind.u64.wrap (f (x, y, z) + v))) { q with a := wrap64 (q.a + 1) } (n + 1))) w']) (by kernel_rfl) (by kernel_rfl) (by kernel_rfl) ⟨hE.drew.get 0 rfl, hE.drew.get (i + 1) hg⟩ ⟨_, rfl, hE.drew⟩ (fun hT => ?_)
  have hT9 := Lib.hid hT
  clear hT
  repeat (first
    | (refine Ord.ch_value (v := ?_) hT9.out (by decide) (by rfl) ?_ ?_; rotate_left; (focus (intro w5 hS; have r0 := hS.1.rule; go_simp <;> with_reducible rfl)); (try simp only [Act.put, List.setIfInBounds_toArray, List.set_cons_zero, List.set_cons_succ]))
    | (refine Ord.ch_off hT9.out (by decide) (by rfl) ?_; (try simp only [Act.put, List.setIfInBounds_toArray, List.set_cons_zero, List.set_cons_succ]))
    | (refine Ord.ch_call (v := ?_) (f := ?_) (args := ?_) hT9.out (by decide) (by rfl) ?_ ?_ ?_; rotate_left 3; (focus (intro w5 hS; have r0 := hS.1.rule; go_simp; constructor <;> with_reducible rfl)); (focus (intro w5 hS; (first | (with_reducible refine (watched_any hS.2).mono ?_; rintro e w6 ⟨rfl, rfl⟩; constructor; with_reducible rfl; exact ⟨hS, fun _ h => h⟩)))); (try simp only [Act.put, List.setIfInBounds_toArray, List.set_cons_zero, List.set_cons_succ])))
  refine Ord.ch_turn (v := .int .u64 (f (x, y, z))) 0 hT9.out rfl (by decide) (Or.inl rfl) (by rfl) ?_ ?_
  · rintro w5 hC5 ⟨P5, hP5, hA5⟩
    cases hP5
    skip
    go_simp
    simp only [Ord.LandsIn]
    refine (add_w x y z d v HX.out hn (i + 4) (i + 5) (by omega) hA5 hw hc).mono ?_
    rintro e6 w6 ⟨rfl, F6, hE6⟩; exact ⟨rfl, ⟨hE6.get 0 rfl, hE6.get (i + 1) (wset (j := i + 4) (by omega) hg)⟩, _, rfl, F6, hE6⟩
  (try simp only [Act.put, List.setIfInBounds_toArray, List.set_cons_zero, List.set_cons_succ])
  repeat (first
    | (refine Ord.ch_value (v := ?_) hT9.out (by decide) (by rfl) ?_ ?_; rotate_left; (focus (intro w5 hS; skip; go_simp <;> with_reducible rfl)); (try simp only [Act.put, List.setIfInBounds_toArray, List.set_cons_zero, List.set_cons_succ]))
    | (refine Ord.ch_off hT9.out (by decide) (by rfl) ?_; (try simp only [Act.put, List.setIfInBounds_toArray, List.set_cons_zero, List.set_cons_succ])))
  refine Ord.InText.nil fun w5 hS => ?_
  clear hT9
  obtain ⟨hC9, hA9⟩ := Ord.chain_end hS
  clear hS
  obtain ⟨P9, hP9, hA9⟩ := hA9
  cases hP9
  obtain ⟨F9, hA9⟩ := hA9
  clear hC9
  go_wp2
  go_ret
  exact ⟨rfl, F9, hA9.sub (.cons _ (List.Sublist.refl _))⟩

set_option maxHeartbeats 1600000 in
theorem peek_g (x y z : Int) (hx : Wf (x, y, z)) (i : Nat) (hE : Env w0 L w) (hg : L[i]? = some (boxI g (gv p mp s st fa))) (hw : L[i + 3]? = some (wbox p c)) (hc : L[i + 4]? = some (cellI c F f q n)) :
    Calls Try.prog 39 #[.pointer (some ⟨g, 0, none⟩), .agg #[.int .i64 x, .int .i64 y, .int .i64 z]] w fun e w' => e = .returned (.int .u64 (f (x, y, z))) ∧ Below w.heap.size w w' := by
  have hb := (Below.refl w.heap.size w).alloc (Nat.le_refl _) (.cells #[.int .i64 x, .int .i64 y, .int .i64 z] 44)
  replace hE := hE.box w.heap.size rfl [.int .i64 x, .int .i64 y, .int .i64 z] 44
  have HX := Lib.hid hx
  clear hx
  go_enter Try.func39, Try.ntmps39
  go_wp2_with fail
  obtain ⟨X, hXw⟩ : ∃ X, X = w.heap.size := ⟨_, rfl⟩
  rw [← hXw] at hE ⊢
  have HXW := Lib.hid hXw
  clear hXw
  have hg1 : (boxI X [.int .i64 x, .int .i64 y, .int .i64 z] :: L)[i + 1]? = some (boxI g (gv p mp s st fa)) := hg
  have hw1 : (boxI X [.int .i64 x, .int .i64 y, .int .i64 z] :: L)[i + 4]? = some (wbox p c) := hw
  have hc1 : (boxI X [.int .i64 x, .int .i64 y, .int .i64 z] :: L)[i + 5]? = some (cellI c F f q n) := hc
  refine Ord.wp_chain [] (fun w' => Env w0 (boxI X [.int .i64 x, .int .i64 y, .int .i64 z] :: L) w' ∧ Below w.heap.size w w') (fun _ _ => True) (by kernel_rfl) (by kernel_rfl) (by kernel_rfl) ⟨hE.drew, hb.drew⟩ trivial (fun hT => ?_)
  have hT9 := Lib.hid hT
  clear hT
  repeat (first
    | (refine Ord.ch_value (v := ?_) hT9.out (by decide) (by rfl) ?_ ?_; rotate_left; (focus (intro w5 hS; have r := hS.1.rule 0 rfl; go_simp <;> with_reducible rfl)); (try simp only [Act.put, List.setIfInBounds_toArray, List.set_cons_zero, List.set_cons_succ]))
    | (refine Ord.ch_off hT9.out (by decide) (by rfl) ?_; (try simp only [Act.put, List.setIfInBounds_toArray, List.set_cons_zero, List.set_cons_succ]))
    | (refine Ord.ch_call (v := ?_) (f := ?_) (args := ?_) hT9.out (by decide) (by rfl) ?_ ?_ ?_; rotate_left 3; (focus (intro w5 hS; have r := hS.1.rule 0 rfl; go_simp; constructor <;> with_reducible rfl)); (focus (intro w5 hS; (first | (with_reducible refine (watched_any (hS.1.gblk (i + 1) hg1)).mono ?_; rintro e w6 ⟨rfl, rfl⟩; constructor; with_reducible rfl; exact ⟨hS, fun _ h => h⟩) | (with_reducible refine (peek_w x y z HX.out (i + 4) (i + 5) hS.1 hw1 hc1).mono ?_; rintro e w6 ⟨rfl, hb6⟩; constructor; with_reducible rfl; exact ⟨⟨hS.1.over hb6, hS.2.trans (hb6.mono hS.2.size)⟩, fun _ h => h⟩)))); (try simp only [Act.put, List.setIfInBounds_toArray, List.set_cons_zero, List.set_cons_succ])))
  refine Ord.InText.nil fun w5 hS => ?_
  clear hT9
  obtain ⟨hC9, hA9⟩ := Ord.chain_end hS
  clear hS
  go_wp2
  go_ret
  exact ⟨rfl, hC9.2⟩

set_option maxHeartbeats 1600000 in
theorem count_g (i : Nat) (hE : Env w0 L w) (hg : L[i]? = some (boxI g (gv p mp s st fa))) (hw : L[i + 3]? = some (wbox p c)) (hc : L[i + 4]? = some (cellI c F f q n)) :
    Calls Try.prog 28 #[.pointer (some ⟨g, 0, none⟩)] w fun e w' => e = .returned (.agg #[.int .i64 q.l, .int .i64 q.s, .int .i64 q.w, .int .i64 q.f, .int .i64 q.a]) ∧ Below w.heap.size w w' := by
  have hb := (Below.refl w.heap.size w).alloc (Nat.le_refl _) (.cells #[.int .i64 0, .int .i64 0, .int .i64 0, .int .i64 0, .int .i64 0] 58)
  replace hE := hE.box w.heap.size rfl [.int .i64 0, .int .i64 0, .int .i64 0, .int .i64 0, .int .i64 0] 58
  go_enter Try.func28, Try.ntmps28
  go_wp2_with fail
  refine (watched_any (hE.gblk (i + 1) hg)).mono ?_
  rintro e w1 ⟨rfl, rfl⟩
  go_wp2_with fail
  refine (count_w (i + 4) (i + 5) hE hw hc).mono ?_
  rintro e w2 ⟨rfl, hb2⟩
  have hE2 := hE.over hb2
  have f5 := hE2.thaw 0 rfl
  have f0 := f5 0 (by simp)
  have f1 := f5 1 (by simp)
  have f2 := f5 2 (by simp)
  have f3 := f5 3 (by simp)
  have f4 := f5 4 (by simp)
  have r := hE2.rule 0 rfl
  have hB := hb.trans (hb2.mono hb.size)
  clear f5
  go_wp2
  have hP := hE2.put5 0 rfl (.int .i64 q.l) (.int .i64 q.s) (.int .i64 q.w) (.int .i64 q.f) (.int .i64 q.a)
  have q9 := hP.rule 0 rfl
  refine bodyPost_ret (v := .agg #[.int .i64 q.l, .int .i64 q.s, .int .i64 q.w, .int .i64 q.f, .int .i64 q.a]) (by simp [results, Try.results28, go_sem, q9]) rfl ⟨rfl, ?_⟩
  exact ((((hB.setCell (Nat.le_refl _) _).setCell (Nat.le_refl _) _).setCell (Nat.le_refl _) _).setCell (Nat.le_refl _) _).setCell (Nat.le_refl _) _
end
end Go.Proofs.Ythiccboecimfjaa

/- Places whose words aren't 0. -/
namespace Go.Proofs.Ythiccboecimfjaa

theorem pv_inj {x y : Plc} (h : pv x = pv y) : x = y := by
  obtain ⟨a, b, c⟩ := x
  obtain ⟨a', b', c'⟩ := y
  simp [pv] at h
  simp [h]
/-- ss are the places whose words aren't 0, each once. -/
def OpsF (f : Plc → Int) (ss : List Plc) : Prop := ss.Nodup ∧ ∀ x, x ∈ ss ↔ f x ≠ 0
end Go.Proofs.Ythiccboecimfjaa

/-
  DERIVED: THE SHELF's CONTRACTS AT THIS DUMP, IN PLAIN WORDS (tools/lay-plain.mjs out of 'YthiccboecimfjaaShelfC.lean', which tools/lay-shelf.mjs wrote): THE SAME DECLARATIONS UNDER THE SAME NAMES: 'import', 'namespace', 'open', 'def', 'theorem' AND NOTHING ELSE: no command of the shelf's: FOR A HAND-IN. Each laying: the table of numbers ('.._ren') and one theorem, a field a fact of the dump's own or the kernel's comparison; each contract: ONE APPLICATION.
-/
namespace Go.Proofs
open Go.Shelf
def Try.cloneWords_ren : Go.Shelf.Ren := ⟨fun | 5 => 71 | 7 => 73 | n => n, fun | 23 => 87 | 25 => 44 | 3 => 40 | 4 => 4 | 20 => 20 | n => n, fun | n => n⟩
theorem Try.cloneWords : Go.Proofs.SlLaysW.n5 Try.prog Try.cloneWords_ren := {
  mixed := by kernel_rfl
  f5 := ⟨Try.f71.name, by decide, Try.func71.trans (congrArg some (by kernel_rfl))⟩
  f7 := Try.func73.trans (congrArg some (by kernel_rfl))
  t4 := Try.underlying4
  a4 := Try.isAgg4
  z4 := Try.sizeOf4
  v4 := Try.zeroValue4
  t20 := Try.underlying20
  a20 := Try.isAgg20
  z20 := Try.sizeOf20
  v20 := Try.zeroValue20
  t23 := Try.underlying87
  a23 := Try.isAgg87
  z23 := Try.sizeOf87
  v23 := Try.zeroValue87 }
end Go.Proofs

/- Shared cells: a copy; whether two have the same words. -/
namespace Go.Proofs.Ythiccboecimfjaa
open Go.RowKit Go.Maps Go.Shelf
set_option maxRecDepth 100000

/-! ### copies -/
theorem clone_any {mp : Option Nat} {f : Plc → Int} {n : Nat} {w : World} (hM : MapIs w mp f n) :
    Calls Try.prog 71 #[.map mp] w fun e w' => ∃ mp', e = .returned (.map mp') ∧ MapIs w' mp' f n ∧ (∀ b, mp' = some b → w.heap.size ≤ b) ∧ Below w.heap.size w w' := by
  rcases hM with ⟨rfl, rfl⟩ | ⟨b, D, rfl, ho, hr⟩
  · refine Calls.mono (show Calls Try.prog 71 #[.map none] w _ from AnyW.maps_Clone_nil Try.cloneWords w) ?_
    rintro e w' ⟨rfl, rfl⟩
    exact ⟨none, rfl, .inl ⟨rfl, rfl⟩, fun b e => by (cases e), Below.refl _ _⟩
  · refine Calls.mono (show Calls Try.prog 71 #[.map (some b)] w _ from AnyW.maps_Clone_owns Try.cloneWords _ _ b n D w ho) ?_
    rintro e w' ⟨rfl, h1, _, h3⟩
    exact ⟨_, rfl, .inr ⟨_, D, rfl, h1, hr⟩, fun b e => by (cases e; exact Nat.le_refl _), h3⟩

set_option maxHeartbeats 800000 in
theorem copy_any {c n : Nat} {F : Nat → Prop} {f : Plc → Int} {q : Cnt} {w : World} (hC : IsC w c F f q n) :
    Calls Try.prog 65 #[.pointer (some ⟨c, 0, none⟩)] w fun e w' => ∃ c' F', e = .returned (.pointer (some ⟨c', 0, none⟩)) ∧ IsC w' c' F' f ⟨0, 0, 0, 0, 0⟩ n ∧ (∀ k, F' k → w.heap.size ≤ k) ∧ Below w.heap.size w w' := by
  obtain ⟨mp, hb, hm, hF⟩ := hC
  have r := hb.rule
  unfold cv at r
  have hc := clone_any hm
  clear hm
  go_enter Try.func65, Try.ntmps65
  go_wp2_with fail
  refine hc.mono ?_
  rintro e w1 ⟨mp', rfl, hM, hnew, hB⟩
  clear hc r
  go_wp2
  go_ret
  have hs := hB.size
  refine ⟨w1.heap.size, fun k => k = w1.heap.size ∨ mp' = some k, rfl, ⟨mp', Blk.new 0 w1 (cv mp' ⟨0, 0, 0, 0, 0⟩) 89, hM.more _, fun k => Iff.rfl⟩, fun k hk => ?_, hB.alloc hs _⟩
  rcases hk with rfl | e
  · exact hs
  · exact hnew k e

/-! ### how many words there are -/
theorem has_key {w : World} {b n : Nat} {D : DataW Unit} (h : w.ownsMap Try.prog 44 (plainElem (H := Unit) Try.prog 40) b n D) : ∃ es, D = .map es ∧ es.Pairwise (fun p q => p.1 ≠ q.1) ∧ ∀ p ∈ es, ∃ x, Wf x ∧ p.1 = kl x := by
  obtain ⟨es, clock, hb, Ft, hs, rfl⟩ := h
  refine ⟨_, rfl, ((WideShapes.sorted_perm _).pairwise_iff (fun {_ _} hne => Ne.symm hne)).2 (Maps.fit_apart keyPlace Ft), fun p hp => ?_⟩
  obtain ⟨x, hx, rfl⟩ := List.mem_map.1 (mem_sorted.1 hp)
  obtain ⟨y, hy⟩ := Ft.reads x hx
  rw [WideElems.rg_of hy]
  obtain ⟨z, hz, _, he⟩ := key_inv (WideElems.rd_key hy)
  exact ⟨z, hz, he⟩
theorem list_keys : ∀ (es : List (Lit × DataW Unit)), (∀ p ∈ es, ∃ x, Wf x ∧ p.1 = kl x) → ∃ ss : List Plc, ss.map kl = es.map (·.1) ∧ ∀ x ∈ ss, Wf x
  | [], _ => ⟨[], rfl, by simp⟩
  | p :: es, h => by
    obtain ⟨ss, h1, h2⟩ := list_keys es fun q hq => h q (by simp [hq])
    obtain ⟨x, hx, he⟩ := h p (by simp)
    exact ⟨x :: ss, by simp [h1, he], fun y hy => by
      rcases List.mem_cons.1 hy with rfl | hy
      · exact hx
      · exact h2 y hy⟩
/-- The number of entries. -/
def msz (mp : Option Nat) (w : World) (N : Nat) : Prop := ∀ ty, (Builtin.len_ #[87] ty #[.map mp]).run Try.prog w = .ok (.int .i64 (N : Nat)) w
theorem MapIs.count {w : World} {mp : Option Nat} {f : Plc → Int} {n : Nat} (h : MapIs w mp f n) : ∃ ss, OpsF f ss ∧ msz mp w ss.length := by
  rcases h with ⟨rfl, rfl⟩ | ⟨b, D, rfl, ho, hr⟩
  · exact ⟨[], ⟨List.nodup_nil, by simp⟩, fun ty => Maps.len_nil Try.underlying87 ty⟩
  · obtain ⟨es, rfl, hp, hk⟩ := has_key ho
    obtain ⟨ss, h1, h2⟩ := list_keys es hk
    have hlen : ss.length = es.length := by have := congrArg List.length h1; simpa using this
    refine ⟨ss, ⟨?_, fun x => ?_⟩, fun ty => ?_⟩
    · have hn : (ss.map kl).Pairwise (· ≠ ·) := by rw [h1, List.pairwise_map]; exact hp
      rw [List.pairwise_map] at hn
      exact hn.imp fun hne e => hne (by rw [e])
    · by_cases hw : Wf x
      · have h3 := hr.has' x hw
        rw [Maps.has_eq] at h3
        have h4 : (x ∈ ss) ↔ (es.any fun p => p.1.sameKey (kl x)) = true := by
          rw [List.any_eq_true]
          constructor
          · intro hx
            have : kl x ∈ es.map (·.1) := by rw [← h1]; exact List.mem_map.2 ⟨x, hx, rfl⟩
            obtain ⟨p, hp1, hp2⟩ := List.mem_map.1 this
            exact ⟨p, hp1, by rw [hp2]; exact WideAt.sameKey_self (kl_key x)⟩
          · rintro ⟨p, hp1, hp2⟩
            have : kl x ∈ ss.map kl := by rw [h1]; exact List.mem_map.2 ⟨p, hp1, WideAt.sameKey_eq hp2⟩
            obtain ⟨y, hy, he⟩ := List.mem_map.1 this
            rwa [← kl_inj (h2 y hy) hw he]
        rw [h4, h3]; simp
      · constructor
        · intro hx; exact absurd (h2 x hx) hw
        · intro hx; exact absurd (hr.words.out x hw) hx
    · rw [hlen]
      have := ho.len Try.underlying87 ty
      rwa [Maps.size_eq] at this

theorem all_in : ∀ (l m : List Plc), m.Nodup → (∀ x ∈ l, x ∈ m) → l.Nodup → m.length ≤ l.length → ∀ x ∈ m, x ∈ l
  | [], m, _, _, _, h, x, hx => by
    have : m = [] := List.eq_nil_of_length_eq_zero (by simpa using h)
    subst this
    cases hx
  | a :: l, m, hm, hs, hl, h, x, hx => by
    by_cases e : x = a
    · subst e; simp
    · have ham : a ∈ m := hs a (by simp)
      obtain ⟨h1, h2⟩ := List.nodup_cons.1 hl
      have := all_in l (m.erase a) (hm.erase a) (fun y hy => by
        have hya : y ≠ a := fun e => h1 (e ▸ hy)
        exact (List.mem_erase_of_ne hya).2 (hs y (by simp [hy]))) h2 (by rw [List.length_erase_of_mem ham]; simp at h; omega) x ((List.mem_erase_of_ne e).2 hx)
      simp [this]
theorem same_len {f : Plc → Int} {ss tt : List Plc} (h : OpsF f ss) (k : OpsF f tt) : ss.length = tt.length :=
  ((List.perm_ext_iff_of_nodup h.1 k.1).2 fun x => (h.2 x).trans (k.2 x).symm).length_eq
theorem same_of {f g : Plc → Int} {ss tt : List Plc} (h : OpsF f ss) (k : OpsF g tt) (hl : ss.length = tt.length) (hfg : ∀ x, f x ≠ 0 → g x = f x) : f = g := by
  have hsub : ∀ x ∈ ss, x ∈ tt := fun x hx => (k.2 x).2 (by have h1 := (h.2 x).1 hx; rw [hfg x h1]; exact h1)
  have hall := all_in ss tt k.1 hsub h.1 (by omega)
  funext x
  by_cases e : f x = 0
  · rw [e]
    by_cases e2 : g x = 0
    · exact e2.symm
    · exact absurd e ((h.2 x).1 (hall x ((k.2 x).2 e2)))
  · exact (hfg x e).symm
theorem MapIs.look2 {w : World} {mp : Option Nat} {f : Plc → Int} {n : Nat} (h : MapIs w mp f n) {x : Plc} (hx : Wf x) : (Instr.lookup 87 (.map mp) (pv x) true).run Try.prog w = .ok (.tuple #[.int .u64 (f x), .bool (decide (f x ≠ 0))]) w := by
  rcases h with ⟨rfl, rfl⟩ | ⟨b, D, rfl, ho, hr⟩
  · have := Maps.look_nil (w := w) true keyPlace Try.underlying87 (zeroWord w) (key_mk x hx)
    simpa using this
  · obtain ⟨v, ps, hrun, hv⟩ := ho.look_ok keyPlace Try.underlying87 (zeroWord w) (zd := wd 0) (zp := []) (plainElem_int Try.underlying40 (by decide)) (key_mk x hx)
    rw [hr.at' x hx] at hv
    obtain ⟨a, rfl, ha, _⟩ := plainElem_int_inv Try.underlying40 hv
    have : f x = a := by
      have := congrArg Prod.fst ha
      simpa [wd] using this
    rw [hrun, hr.has' x hx, this]
end Go.Proofs.Ythiccboecimfjaa
