/- Who was born where: a map of rows of the program's own, by whole numbers. -/
import Derived.Test.YtnlepgbmbdmjbaaOwn
import Derived.Test.YtnlepgbmbdmjbaaSoulM
import Derived.Maps.GroupsBeside
namespace Go.Proofs.Ytnlepgbmbdmjbaa
open Go.RowKit Go.Maps Go.MapKept Go.ChangeShapes
set_option maxRecDepth 100000
open Go.WideElems (Fit rd rg rd_val)

theorem keyedI : Keyed Try.prog 3 := int_keyed Try.underlying3
theorem keyI {x : Int} (h : In64 x) : keyOf Try.prog 3 (.int .i64 x) = some (.int .i64 x) := keyOf_int_mk Try.underlying3 (wf_i.2 h)
theorem zeroInts (w : World) : (zeroValue 30).run Try.prog w = .ok (.slice none 0 0) w := by kernel_rfl
theorem lits_inj {a b : List Int} (h : lits (H := Unit) .i64 a = lits .i64 b) : a = b :=
  (List.map_inj_right (fun x y e => by cases e; rfl)).1 h

/-- What the map's datum says: for each slot in which somebody was born all that it ever was. -/
structure ReadsG (D : DataW Unit) (l : List Int) : Prop where
  at' : ∀ x, D.atKey (.int .i64 x) .nil = if x ∈ l then .slice (lits .i64 (ids l x)) [] else .nil
  has' : ∀ x, Maps.has D (.int .i64 x) = decide (x ∈ l)
theorem ReadsG.empty : ReadsG (.map []) [] := ⟨fun x => by simp; rfl, fun x => by simp [Maps.has]⟩
theorem ReadsG.put {D : DataW Unit} {l : List Int} (h : ReadsG D l) (hD : IsMap D) (x : Int) : ReadsG (D.put (.int .i64 x) (.slice (lits .i64 (ids (l ++ [x]) x)) [])) (l ++ [x]) := by
  refine ⟨fun y => ?_, fun y => ?_⟩
  · by_cases e : y = x
    · subst e
      rw [atKey_put_same hD (show WideAt.IsKeyLit (.int .i64 y) from trivial), if_pos (by simp)]
    · have h1 : ids (l ++ [x]) y = ids l y := by rw [ids_snoc, if_neg (fun e' : x = y => e e'.symm), List.append_nil]
      rw [atKey_put_other (fun e' => e (by cases e'; rfl)), h.at' y, h1]
      simp [e]
  · by_cases e : y = x
    · subst e
      rw [has_put_same hD (show WideAt.IsKeyLit (.int .i64 y) from trivial)]; simp
    · rw [has_put_other (fun e' => e (by cases e'; rfl)), h.has' y]; simp [e]

section
variable {w w' : World} {base : Nat} {e k : TypeId} {q : IntKind} {b n : Nat} {D : DataW Unit} {P : Program}
theorem groups_owned {es : Array MapEntry} {clock : Nat} (F : Fit P k (rowElem (H := Unit) w base e q) es clock) {x : MapEntry} (hx : x ∈ es.toList) : ∃ zs, w.ownsInts base e q x.val zs := by
  obtain ⟨y, hy⟩ := F.reads x hx
  obtain ⟨z, hz, _⟩ := rd_val hy
  obtain ⟨zs, ho, _⟩ := rowElem_inv hz
  exact ⟨zs, ho⟩
/-- The groups stay while their own blocks do. -/
theorem groups_kept (h : w.ownsGroups P k base e q b n D) (hb' : w'.heap[b]? = w.heap[b]?)
    (hrow : ∀ es clock, w.heap[b]? = some (.map es clock) → ∀ x ∈ es.toList, ∀ g, x.val.ownBlock = some g → w'.heap[g]? = w.heap[g]?) : w'.ownsGroups P k base e q b n D := by
  obtain ⟨es, clock, hb, F, hs, rfl, hbb, hlen, hap⟩ := h
  have hk : ∀ x ∈ es.toList, ∀ zs, w.ownsInts base e q x.val zs → w'.ownsInts base e q x.val zs := fun x hx zs ho => ⟨ownsRow_kept ho.1 (hrow es clock hb x hx), ho.2⟩
  obtain ⟨F1, hmap, _⟩ := F.stay (R' := rowElem w' base e q) fun x hx z hz => by
    obtain ⟨zs, ho, rfl⟩ := rowElem_inv hz
    exact rowElem_mk (hk x hx zs ho)
  refine ⟨es, clock, hb'.trans hb, F1, hs, by rw [hmap], hbb, fun x hx zs ho => ?_, hap⟩
  obtain ⟨zs0, ho0⟩ := groups_owned F hx
  rw [ho.unique (hk x hx zs0 ho0)]
  exact hlen x hx zs0 ho0
/-- A look-up hangs on the map's block alone. -/
theorem look_same {t E : TypeId} {z : Value} {R : Value → Option (DataW Unit × List MemPlace)} {es : Array MapEntry} {clock : Nat} {key : Value} {kl : Lit} (K : Keyed P k) (ht : P.underlying t = some (.map k E)) (hz : ∀ w, (zeroValue E).run P w = .ok z w) (hb : w.heap[b]? = some (.map es clock)) (F : Fit P k R es clock)
    (hkey : keyOf P k key = some kl) {v : Value} (hv : (Instr.lookup t (.map (some b)) key false).run P w = .ok v w) (hb' : w'.heap[b]? = w.heap[b]?) : (Instr.lookup t (.map (some b)) key false).run P w' = .ok v w' := by
  have hb2 := hb'.trans hb
  rcases fit_look false K ht (hz w) hb F hkey with ⟨h1, n1, _⟩ | ⟨e1, _, m1, k1, h1, _⟩
  · rcases fit_look false K ht (hz w') hb2 F hkey with ⟨h2, n2, _⟩ | ⟨e2, _, m2, k2, h2, _⟩
    · rw [h1] at hv
      rw [h2]
      simp only [Bool.false_eq_true, if_false, Result.ok.injEq, and_true] at hv ⊢
      exact hv
    · exact absurd k2 (n1 e2 m2)
  · rcases fit_look false K ht (hz w') hb2 F hkey with ⟨h2, n2, _⟩ | ⟨e2, _, m2, k2, h2, _⟩
    · exact absurd k1 (n2 e1 m1)
    · have he : e1 = e2 := by
        obtain ⟨i, hi⟩ := List.getElem?_of_mem m1
        obtain ⟨j, hj⟩ := List.getElem?_of_mem m2
        by_cases hij : i = j
        · subst hij; rw [hi] at hj; exact Option.some.inj hj
        · exact absurd (k1.trans k2.symm) (WideElems.other_key F hj hi hij)
      subst he
      rw [h1] at hv
      rw [h2]
      simp only [Bool.false_eq_true, if_false, Result.ok.injEq, and_true] at hv ⊢
      exact hv
end

/-- Block b is the lives: for each slot of l all that it ever was; G: the rows' blocks. -/
def Lives (w : World) (b : Nat) (G : Nat → Prop) (l : List Int) : Prop :=
  ∃ D : DataW Unit, w.ownsGroups Try.prog 3 (b + 1) 3 .i64 b l.length D ∧ ReadsG D l ∧ ∀ g, G g ↔ ∃ es clock, w.heap[b]? = some (.map es clock) ∧ ∃ x ∈ es.toList, x.val.ownBlock = some g

section
variable {w w' : World} {b : Nat} {G : Nat → Prop} {l : List Int}
theorem Lives.isMap (h : Lives w b G l) : ∃ es clock, w.heap[b]? = some (.map es clock) := by
  obtain ⟨D, ⟨es, clock, hb, _⟩, _⟩ := h
  exact ⟨es, clock, hb⟩
theorem Lives.own (h : Lives w b G l) : b < w.heap.size := by
  obtain ⟨es, clock, hb⟩ := h.isMap
  exact (Array.getElem?_eq_some_iff.1 hb).1
theorem Lives.rows (h : Lives w b G l) : ∀ g, G g → b < g ∧ g < w.heap.size := by
  obtain ⟨D, ⟨es, clock, hb, F, _⟩, _, hG⟩ := h
  intro g hg
  obtain ⟨es', clock', hb', x, hx, hxg⟩ := (hG g).1 hg
  rw [hb] at hb'
  cases hb'
  obtain ⟨zs, ho⟩ := groups_owned F hx
  have := ho.1.lt g hxg
  omega
theorem Lives.made (w : World) : Lives (w.alloc (.map #[] 0)) w.heap.size (fun _ => False) [] :=
  ⟨.map [], World.ownsGroups_made w _ _ _ _, ReadsG.empty, fun g => ⟨False.elim, fun ⟨es, clock, hb, x, hx, _⟩ => by
    rw [(MapKept.heap_alloc w _).1] at hb
    cases hb
    simp at hx⟩⟩
theorem Lives.kept (h : Lives w b G l) (hb' : w'.heap[b]? = w.heap[b]?) (hG' : ∀ g, G g → w'.heap[g]? = w.heap[g]?) : Lives w' b G l := by
  obtain ⟨D, ho, hr, hG⟩ := h
  exact ⟨D, groups_kept ho hb' fun es clock hb x hx g hg => hG' g ((hG g).2 ⟨es, clock, hb, x, hx, hg⟩), hr, fun g => by rw [hb']; exact hG g⟩

/-- m[x]: all that x ever was; and the way back. -/
theorem Lives.look (h : Lives w b G l) {x : Int} (hx : In64 x) (hl : l.length ≤ 1000000) :
    ∃ A cap, (∀ w', w'.heap[b]? = w.heap[b]? → (Instr.lookup 75 (.map (some b)) (.int .i64 x) false).run Try.prog w' = .ok (.slice A (ids l x).length cap) w') ∧ w.ownsRow (b + 1) 3 1 (.slice A (ids l x).length cap) (ids l x).length (ints (ids l x)) ∧
      (∀ g, (Value.slice A (ids l x).length cap).ownBlock = some g → G g) ∧
      ∀ (w1 : World) (g c : Nat), w.grownBy w1 (Value.slice A (ids l x).length cap).ownBlock → w1.ownsRow (b + 1) 3 1 (.slice (some ⟨g, 0, none⟩) ((ids l x).length + 1) c) ((ids l x).length + 1) (ints (ids l x ++ [(l.length : Int) + 1])) →
        ((Value.slice A (ids l x).length cap).ownBlock = some g ∨ w.heap.size ≤ g) →
        ∃ w2 G', (Instr.mapUpdate 75 (.map (some b)) (.int .i64 x) (.slice (some ⟨g, 0, none⟩) ((ids l x).length + 1) c)).run Try.prog w1 = .ok () w2 ∧ Lives w2 b G' (l ++ [x]) ∧ (∀ k, G' k → G k ∨ k = g) ∧ w1.grownBy w2 (some b) := by
  obtain ⟨D, ho, hr, hG⟩ := h
  have hmax : l.length < maxLen := by unfold maxLen; omega
  obtain ⟨v, zs, hrun, hat, hoi, hzl, hback⟩ := ho.at keyedI Try.underlying75 (zeroInts w) hmax (keyI hx)
  have hz : zs = ids l x := by
    rw [hr.at' x] at hat
    rcases hoi.datum (H := Unit) with ⟨h1, h2⟩ | h1
    · rw [h1] at hat
      split at hat
      · cases hat
      · rename_i hn; rw [h2, ids_other hn]
    · rw [h1] at hat
      split at hat
      · simp only [DataW.slice.injEq, and_true] at hat
        exact (lits_inj hat).symm
      · cases hat
  subst hz
  obtain ⟨A, cap, rfl⟩ := ownsRow_slice hoi.1
  have hown0 := ho
  obtain ⟨es, clock, hb, F, hs, hD, hbb, hlen, hap⟩ := ho
  have hvG : ∀ g, (Value.slice A (ids l x).length cap).ownBlock = some g → G g := fun g hg => by
    rcases fit_look false keyedI Try.underlying75 (zeroInts w) hb F (keyI hx) with ⟨h1, _⟩ | ⟨e1, _, m1, _, h1, _⟩
    · rw [hrun] at h1
      simp only [Bool.false_eq_true, if_false, Result.ok.injEq, and_true] at h1
      rw [h1] at hg
      cases hg
    · rw [hrun] at h1
      simp only [Bool.false_eq_true, if_false, Result.ok.injEq, and_true] at h1
      rw [h1] at hg
      exact (hG g).2 ⟨es, clock, hb, e1, m1, hg⟩
  refine ⟨A, cap, fun w' hb' => look_same keyedI Try.underlying75 zeroInts hb F (keyI hx) hrun hb', hoi.1, hvG, fun w1 g c hgr how hloc => ?_⟩
  have hown' : w1.ownsInts (b + 1) 3 .i64 (.slice (some ⟨g, 0, none⟩) ((ids l x).length + 1) c) (ids l x ++ [(l.length : Int) + 1]) := by
    refine ⟨by simpa [ints] using how, fun z hz => ?_⟩
    rcases List.mem_append.1 hz with hz | hz
    · exact hoi.2 z hz
    · simp at hz
      subst hz
      exact wf_i.2 (by unfold In64; omega)
  obtain ⟨w2, hrun2, ho2, hg2⟩ := hback w1 _ _ hgr hown' (by have := ids_length_le l x; simp; omega) (by
    rcases hloc with h | h
    · exact .inl (by rw [h]; rfl)
    · exact .inr ⟨g, rfl, h⟩)
  have hb1 : w1.heap[b]? = some (.map es clock) := (hgr.block b (Array.getElem?_eq_some_iff.1 hb).1 (fun e1 => by
    have := (hoi.1.lt b e1.symm).1
    omega)).trans hb
  obtain ⟨es', clock', hb2, hwho⟩ := stored_who keyedI Try.underlying75 hb1 F (Nat.lt_of_le_of_lt hs hmax) (keyI hx) hrun2
  have e2 : ids (l ++ [x]) x = ids l x ++ [(l.length : Int) + 1] := by rw [ids_snoc, if_pos rfl]
  refine ⟨w2, fun k => ∃ es clock, w2.heap[b]? = some (.map es clock) ∧ ∃ x ∈ es.toList, x.val.ownBlock = some k, hrun2, ⟨_, by rw [List.length_append]; exact ho2, ?_, fun g => Iff.rfl⟩, ?_, hg2⟩
  · have hD' : IsMap D := ⟨_, hD⟩
    have := hr.put hD' x
    rw [e2] at this
    exact this
  · rintro k ⟨es2, clock2, hb2', y, hy, hyk⟩
    rw [hb2] at hb2'
    cases hb2'
    rcases hwho y hy with ⟨hy0, _⟩ | ⟨_, hval⟩
    · exact .inl ((hG k).2 ⟨es, clock, hb, y, hy0, hyk⟩)
    · rw [hval] at hyk
      exact .inr (by cases hyk; rfl)
end
end Go.Proofs.Ytnlepgbmbdmjbaa
