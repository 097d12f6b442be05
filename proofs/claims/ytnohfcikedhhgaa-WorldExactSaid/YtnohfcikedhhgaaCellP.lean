/- Places: those whose words aren't 0, in their order. -/
import Derived.Test.YtnohfcikedhhgaaCellK
import Derived.Test.YtnohfcikedhhgaaCellI
namespace Go.Proofs.Ytnohfcikedhhgaa
open Go.RowKit Go.Maps Go.Shelf Go.Sort
set_option maxRecDepth 100000

/-! ### rows of places -/
def z3 : Plc := (0, 0, 0)
/-- v is a slice of just those places. -/
def RowP (w : World) (v : Value) (l : List Plc) : Prop :=
  (l = [] ∧ v = .slice none 0 0) ∨ ∃ g cap, v = .slice (some ⟨g, 0, none⟩) l.length cap ∧ g < w.heap.size ∧ ∀ j, j < l.length →
    w.cell? ⟨g, j * 3, none⟩ = some (.int .i64 (l.getD j z3).1) ∧ w.cell? ⟨g, j * 3 + 1, none⟩ = some (.int .i64 (l.getD j z3).2.1) ∧ w.cell? ⟨g, j * 3 + 2, none⟩ = some (.int .i64 (l.getD j z3).2.2)
theorem RowP.over {w w' : World} {v : Value} {l : List Plc} {T : Nat → Prop} (h : RowP w v l) (ht : Turn T w w') (hT : ∀ g len cap, v = .slice (some ⟨g, 0, none⟩) len cap → ¬ T g) : RowP w' v l := by
  rcases h with h | ⟨g, cap, hv, hg, hc⟩
  · exact .inl h
  · have hb := ht.block g hg (hT g _ cap hv)
    exact .inr ⟨g, cap, hv, Nat.lt_of_lt_of_le hg ht.size, fun j hj => by
      obtain ⟨h1, h2, h3⟩ := hc j hj
      refine ⟨?_, ?_, ?_⟩
      · rw [World.cell?_of_block (w := w) hb]; exact h1
      · rw [World.cell?_of_block (w := w) hb]; exact h2
      · rw [World.cell?_of_block (w := w) hb]; exact h3⟩

theorem flatP_get (l : List Plc) : ∀ (j c : Nat), j < l.length → c < 3 → (flatP l)[j * 3 + c]? = (encP (l.getD j z3))[c]? := by
  induction l with
  | nil => intro j c h; simp at h
  | cons x l ih =>
    intro j c hj hc
    have e : flatP (x :: l) = encP x ++ flatP l := by simp [flatP]
    cases j with
    | zero => rw [e, List.getElem?_append_left (by simp [encP]; omega)]; simp
    | succ j =>
      rw [e, List.getElem?_append_right (by simp [encP]; omega)]
      have := ih j c (by simpa using hj) hc
      have e2 : (j + 1) * 3 + c - (encP x).length = j * 3 + c := by simp [encP]; omega
      rw [e2, this]
      simp

theorem holds_of_row {w : World} {g cap : Nat} {cur : Array Value} {l : List Plc} {t : TypeId} (hg : w.heap[g]? = some (.cells cur t (0, 0))) (hc : cur.size = cap * 3) (hl : l.length ≤ cap) (ht : cur.toList.take (l.length * 3) = flatP l) : HoldsK encP 3 w g 0 l.toArray := by
  intro j hj
  have hj' : j < l.length * 3 := by simpa using hj
  refine ⟨?_, by simp [World.frozen?, hg]⟩
  have h1 : (cur.toList.take (l.length * 3))[j]? = (flatP l)[j]? := by rw [ht]
  rw [List.getElem?_take_of_lt hj'] at h1
  have h2 := flatP_get l (j / 3) (j % 3) (by omega) (by omega)
  rw [show j / 3 * 3 + j % 3 = j by omega] at h2
  have h3 : (encP (l.getD (j / 3) z3))[j % 3]? = some ((encP (l.getD (j / 3) z3))[j % 3]!) := by
    have : j % 3 < (encP (l.getD (j / 3) z3)).length := by simp [encP]; omega
    rw [List.getElem?_eq_getElem this, getElem!_pos (encP (l.getD (j / 3) z3)) (j % 3) this]
  simp only [World.cell?, hg, Nat.zero_add]
  rw [get_flatK _ _ _ _ (by simpa using hj')]
  have h4 : l.toArray[j / 3]! = l.getD (j / 3) z3 := by
    have hlt : j / 3 < l.length := by omega
    simp [hlt]
  have h5 : cur[j]? = some ((encP (l.getD (j / 3) z3))[j % 3]!) := by
    rw [← h3, ← h2, ← h1]; simp
  rw [h4]
  simpa using h5

theorem grown_sorted {w : World} {g n : Nat} {os : Array Obj} (d : Array Plc) : w.grownBy (sortWorldK encP 3 w g 0 n d os) (some g) := by
  refine ⟨rfl, rfl, rfl, by simp [sortWorldK, putRowK, grow, putRow, mapBlock, Sort.ahead], fun k hk hne => ?_⟩
  have h1 : g ≠ k := fun e => hne (by rw [e])
  unfold sortWorldK putRowK
  rw [heap_grow_old _ _ (by simpa [putRow, mapBlock, Sort.ahead] using hk)]
  simp [putRow, mapBlock, Sort.ahead, Array.getElem?_modify, h1]

theorem row_of_holds {w : World} {g cap : Nat} {l : List Plc} (hg : g < w.heap.size) (h : HoldsK encP 3 w g 0 l.toArray) : RowP w (.slice (some ⟨g, 0, none⟩) l.length cap) l := by
  refine .inr ⟨g, cap, rfl, hg, fun j hj => ?_⟩
  have e : l.toArray[j]! = l.getD j z3 := by simp [hj]
  have h0 := (h.cell (i := j) (c := 0) (by simpa using hj) (by omega)).1
  have h1 := (h.cell (i := j) (c := 1) (by simpa using hj) (by omega)).1
  have h2 := (h.cell (i := j) (c := 2) (by simpa using hj) (by omega)).1
  rw [e] at h0 h1 h2
  simp only [Nat.zero_add, Nat.add_zero] at h0 h1 h2
  exact ⟨h0, h1, h2⟩

/-! ### the order -/
def Rising (l : List Plc) : Prop := l.Pairwise fun x y => ltOf cmpP x y = true
theorem sortL_perm (l : List Plc) : (sortL l).Perm l := List.mergeSort_perm _ _
theorem sortL_rising {l : List Plc} (h : l.Nodup) : Rising (sortL l) := by
  have hs : (sortL l).Pairwise fun x y => (!(ltOf cmpP) y x) = true := by
    unfold sortL
    refine List.pairwise_mergeSort (fun a b c h1 h2 => ?_) (fun a b => ?_) l
    · simp only [Bool.not_eq_true'] at *
      exact swoP.ntrans _ _ _ h2 h1
    · simp only [Bool.or_eq_true, Bool.not_eq_true']
      cases h1 : ltOf cmpP b a
      · exact .inl rfl
      · refine .inr ?_
        cases h2 : ltOf cmpP a b
        · rfl
        · have := swoP.trans _ _ _ h1 h2
          rw [swoP.irrefl] at this
          cases this
  have hn : (sortL l).Nodup := (sortL_perm l).nodup_iff.2 h
  refine (hs.and hn).imp fun {x y} hxy => ?_
  obtain ⟨h1, h2⟩ := hxy
  cases h3 : ltOf cmpP x y
  · exact absurd (totP x y h3 (by simpa using h1)) h2
  · rfl
theorem rising_eq : ∀ {l m : List Plc}, Rising l → Rising m → (∀ x, x ∈ l ↔ x ∈ m) → l = m
  | [], [], _, _, _ => rfl
  | [], y :: m, _, _, h => by have := (h y).2 (by simp); simp at this
  | x :: l, [], _, _, h => by have := (h x).1 (by simp); simp at this
  | x :: l, y :: m, h1, h2, h => by
    obtain ⟨a1, a2⟩ := List.pairwise_cons.1 h1
    obtain ⟨b1, b2⟩ := List.pairwise_cons.1 h2
    have no : ∀ a b : Plc, ltOf cmpP a b = true → ltOf cmpP b a = true → False := fun a b p q => by
      have := swoP.trans _ _ _ p q
      rw [swoP.irrefl] at this
      cases this
    have hxy : x = y := by
      rcases List.mem_cons.1 ((h x).1 (by simp)) with e | hx
      · exact e
      · rcases List.mem_cons.1 ((h y).2 (by simp)) with e | hy
        · exact e.symm
        · exact (no x y (a1 y hy) (b1 x hx)).elim
    subst hxy
    rw [rising_eq a2 b2 fun z => ⟨fun hz => by
      rcases List.mem_cons.1 ((h z).1 (by simp [hz])) with e | h'
      · subst e; exact (no _ _ (a1 _ hz) (a1 _ hz)).elim
      · exact h', fun hz => by
      rcases List.mem_cons.1 ((h z).2 (by simp [hz])) with e | h'
      · subst e; exact (no _ _ (b1 _ hz) (b1 _ hz)).elim
      · exact h'⟩]
/-- l are the places whose words aren't 0, rising. -/
def PlacesOf (f : Plc → Int) (l : List Plc) : Prop := Rising l ∧ ∀ x, x ∈ l ↔ f x ≠ 0
theorem PlacesOf.eq {f : Plc → Int} {l m : List Plc} (h : PlacesOf f l) (k : PlacesOf f m) : l = m := rising_eq h.1 k.1 fun x => (h.2 x).trans (k.2 x).symm
theorem PlacesOf.sort {f : Plc → Int} {ss : List Plc} (h : OpsF f ss) : PlacesOf f (sortL ss) := ⟨sortL_rising h.1, fun x => ((sortL_perm ss).mem_iff).trans (h.2 x)⟩

/-! ### the calls -/
set_option maxHeartbeats 1000000 in
theorem collect_any {Bm nn : Nat} {mp : Option Nat} {f : Plc → Int} {w : World} (hBm : Bm < w.heap.size)
    (hm : w.cell? ⟨Bm, 0, none⟩ = some (.map mp)) (hM : MapIs w mp f nn) (hN : nn ≤ maxLen) (hNb : nn * 24 ≤ 140737488355328) :
    Calls Try.prog 42 #[.func (.func 44) #[] #[.pointer (some ⟨Bm, 0, none⟩)]] w fun e w' => ∃ v ss, e = .returned v ∧ OpsN f nn ss ∧ w'.ownsRow w.heap.size 35 3 v ss.length (flatP ss) ∧ (v = .slice none 0 0 ↔ ss = []) ∧ Below w.heap.size w w' := by
  have h1 : Calls Try.prog 48 #[.slice none 0 0, .func (.func 44) #[] #[.pointer (some ⟨Bm, 0, none⟩)]] w _ := (callsIn_wide (n := 6)).1 (append_in Fence.wide 6 trivial trivial rfl (by omega) hBm hm hM hN hNb)
  clear hm hM
  go_enter Try.func42, Try.ntmps42
  go_wp2_with (refine h1.mono ?_; rintro e w1 ⟨v, ss, rfl, h2, h3, h4, h5⟩)
  go_ret
  exact ⟨v, ss, rfl, h2, h3, h4, h5⟩

set_option maxHeartbeats 1000000 in
theorem sorted_any {Bm nn : Nat} {mp : Option Nat} {f : Plc → Int} {w : World} (hBm : Bm < w.heap.size)
    (hm : w.cell? ⟨Bm, 0, none⟩ = some (.map mp)) (hM : MapIs w mp f nn) (hN : nn ≤ maxLen) (hNb : nn * 24 ≤ 140737488355328) :
    Calls Try.prog 35 #[.func (.func 44) #[] #[.pointer (some ⟨Bm, 0, none⟩)], .func (.func 37) #[] #[]] w fun e w' => ∃ v l, e = .returned v ∧ PlacesOf f l ∧ RowP w' v l ∧ Below w.heap.size w w' := by
  have h1 := collect_any hBm hm hM hN hNb
  clear hm hM
  go_enter Try.func35, Try.ntmps35
  go_wp2_with fail
  refine h1.mono ?_
  rintro e w1 ⟨v, ss, rfl, ⟨h2, h2n⟩, h3, h4, h5⟩
  rcases h3.2 with ⟨rfl, hz⟩ | ⟨g, cap, cur, rfl, hg0, hg, hl, hcap, hcs, htk⟩
  · have hs : ss = [] := h4.1 rfl
    subst hs
    go_wp2_with (refine (sort_none _ _ _ _).mono ?_; rintro e w2 ⟨rfl, rfl⟩)
    go_ret
    exact ⟨_, [], rfl, ⟨List.Pairwise.nil, fun x => by simpa using h2.2 x⟩, .inl ⟨rfl, rfl⟩, h5⟩
  · have hH := holds_of_row hg hcs hl htk
    have hgl : g < w1.heap.size := (Array.getElem?_eq_some_iff.1 hg).1
    have hc := sort_any g 0 cap ss.toArray w1 hH hgl (by simp; omega)
    have h6 := PlacesOf.sort h2
    have hlen : (sortL ss).length = ss.length := (sortL_perm ss).length_eq
    simp only [List.size_toArray] at hc
    have HH := Lib.hid hH
    clear h1 h3 h4 hg htk hcs hH
    go_wp2_with (refine hc.mono ?_; rintro e w2 ⟨rfl, n, os, rfl⟩)
    go_ret
    have hgr := grown_sorted (w := w1) (g := g) (n := n) (os := os) (sortL ss).toArray
    refine ⟨_, sortL ss, rfl, h6, ?_, h5.grown hgr h5.size fun k e => by cases e; exact hg0⟩
    rw [← hlen]
    refine row_of_holds (Nat.lt_of_lt_of_le hgl hgr.size) (holdsK_grow _ _ _ _ _ _ _ (by simpa [putRowK, putRow, mapBlock, Sort.ahead] using hgl) (holdsK_putRowK _ _ _ _ _ ss.toArray _ ?_ (by simp [hlen])))
    exact holdsK_ahead _ _ _ _ _ _ _ HH.out

set_option maxHeartbeats 1000000 in
theorem places_any {c n : Nat} {F : Nat → Prop} {f : Plc → Int} {q : Cnt} {w : World} (hn : n ≤ 1000000) (hC : IsC w c F f q n) :
    Calls Try.prog 20 #[.pointer (some ⟨c, 0, none⟩)] w fun e w' => ∃ v l, e = .returned v ∧ PlacesOf f l ∧ RowP w' v l ∧ Below w.heap.size w w' := by
  obtain ⟨mp, hb, hm, hF⟩ := hC
  have r := hb.rule
  unfold cv at r
  have hk := fun w' => (callsIn_wide (n := 6)).1 (keys_in Fence.wide 6 trivial rfl mp w')
  have hs := sorted_any (w := w.alloc (.cells #[.map mp] 73)) (Bm := w.heap.size) (by simp) ((Blk.new 0 w [.map mp] _).rule 0) (hm.more _) (by unfold maxLen; omega) (by omega)
  go_enter Try.func20, Try.ntmps20
  go_wp2_with fail
  refine (hk _).mono ?_
  rintro e w1 ⟨rfl, rfl⟩
  clear hk
  go_wp2_with fail
  refine hs.mono ?_
  rintro e w2 ⟨v, l, rfl, h1, h2, h3⟩
  clear hs
  go_wp2
  go_ret
  exact ⟨v, l, rfl, h1, h2, ((Below.refl _ _).alloc (Nat.le_refl _) _).trans (h3.mono (by simp))⟩
/-- The one place whose word isn't 0. -/
theorem places_one {x : Plc} {v : Int} (hv : v ≠ 0) {l : List Plc} (h : PlacesOf (upd (fun _ => 0) x v) l) : l.length = 1 := by
  have h1 : PlacesOf (upd (fun _ => 0) x v) [x] := ⟨List.pairwise_singleton _ _, fun y => by unfold upd; split <;> simp_all⟩
  rw [h.eq h1]; rfl

theorem RowP.len {w : World} {v : Value} {l : List Plc} (h : RowP w v l) : ∃ a cap, v = .slice a l.length cap := by
  rcases h with ⟨rfl, rfl⟩ | ⟨g, cap, rfl, _⟩
  · exact ⟨_, _, rfl⟩
  · exact ⟨_, _, rfl⟩
theorem RowP.below {w w' : World} {v : Value} {l : List Plc} (h : RowP w v l) (hb : Below w.heap.size w w') : RowP w' v l := h.over (Turn.of_below hb : Turn (fun _ => False) w w') fun _ _ _ _ e => e
end Go.Proofs.Ytnohfcikedhhgaa
