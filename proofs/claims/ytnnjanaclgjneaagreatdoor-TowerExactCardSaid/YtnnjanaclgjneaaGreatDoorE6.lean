/- What is proved on the way to the statement, part 6 of 13: contracts of the functions, among other things in memory. -/
import Derived.Test.YtnnjanaclgjneaaGreatDoorE5
import Derived.Shelf.SlSortCmp.Insertion
import Derived.Sort.Statements

/- The reference's thread: contracts. -/
namespace Go.Proofs.YtnnjanaclgjneaaGreatDoor
open Go.RowKit Go.Maps
set_option maxRecDepth 100000

theorem ok_wrap {x e : Int} (hx : InU x) (h0 : 0 ≤ e) (h1 : e ≤ 9223372036854775807) : (x == IntKind.u64.wrap e) = okB x e := by
  unfold InU at hx
  have hw : IntKind.u64.wrap e = e := by rw [IntKind.wrap_u64]; omega
  rw [hw]
  unfold okB epB epI
  by_cases h : x ≤ 9223372036854775807
  · simp [h]
  · simp [h]; omega
section
variable {w0 w : World} {L : List Item} {u m n c : Nat} {F : Nat → Prop} {ml : List OneR} {A : Option Addr} {k s b h l e N hs r : Int}
set_option maxHeartbeats 1600000 in
theorem rvalid_w (x : Int) (hmx : getL ml (1, 0, 0) = x) (hx : InU x) (h0 : 0 ≤ e) (h1 : e ≤ 9223372036854775807) (hml : ml.length ≤ 1000000) (i j : Nat) (hE : Env w0 L w) (hi : L[i]? = some (boxI u (urv k s b h l e A n c N hs r))) (hj : L[j]? = some (refI m F ml)) :
    Calls Tryz.prog 155 #[.pointer (some ⟨u, 0, none⟩), .pointer (some ⟨m, 0, none⟩)] w fun o w' => o = .returned (.bool (okB x e)) ∧ Env w0 (L.set i (boxI u (urv k s b h l e A n c N hs (if okB x e then r else wrap64 (r + 1))))) w' := by
  have hok := ok_wrap hx h0 h1
  have hsame : ∀ w', Env w0 L w' → Env w0 (L.set i (boxI u (urv k s b h l e A n c N hs r))) w' := fun w' h => by
    rw [set_same hi]; exact h
  have HS := Lib.hid hsame
  clear hsame hx
  generalize hR : (if okB x e then r else wrap64 (r + 1)) = R
  generalize okB x e = B at *
  have HR := Lib.hid hR
  have HCB : Hid (∀ v, Env w0 L v → ∀ z, v.cell? ⟨u, z, none⟩ = (urv k s b h l e A n c N hs r)[z]?) := Lib.hid fun v hv => hv.rule i hi
  unfold urv at HCB
  have HGC : Hid (∀ v, Env w0 L v → Calls Tryz.prog 88 #[.pointer (some ⟨m, 0, none⟩), .agg #[.int .i64 1, .int .i64 0, .int .i64 0]] v fun o w' => o = .returned (.int .u64 x) ∧ Below v.heap.size v w') := Lib.hid fun v hv => by
    have := refGet_any 1 0 0 hml (hv.ref j hj)
    rw [hmx] at this
    exact this
  have HOK := Lib.hid hok
  clear hR hok hmx
  go_enter Tryz.func155, Tryz.ntmps155
  go_wp2_with fail
  have hok := HOK.out
  refine wp_text (S := (Env w0 L)) (by kernel_rfl) (by kernel_rfl) hE.drew (fun hT => ?_)
  have hT9 := Lib.hid hT
  clear hT
  repeat (first
    | (refine text_value (v := ?_) hT9.out (by rfl) ?_ ?_; rotate_left; (focus (intro w5 hS; have r1 := HCB.out _ hS; go_simp <;> with_reducible rfl)); (try simp only [Act.put, List.setIfInBounds_toArray, List.set_cons_zero, List.set_cons_succ]))
    | (refine text_off hT9.out (by rfl) ?_; (try simp only [Act.put, List.setIfInBounds_toArray, List.set_cons_zero, List.set_cons_succ]))
    | (refine text_call (v := ?_) (f := ?_) (args := ?_) hT9.out (by rfl) ?_ ?_ ?_; rotate_left 3; (focus (intro w5 hS; have r1 := HCB.out _ hS; go_simp; constructor <;> with_reducible rfl)); (focus (intro w5 hS; (first | (with_reducible refine (epoch13_any _).mono ?_; rintro o w6 ⟨rfl, hb5⟩; constructor; with_reducible rfl; exact hS.over hb5) | (with_reducible refine (HGC.out _ hS).mono ?_; rintro o w6 ⟨rfl, hb5⟩; constructor; with_reducible rfl; exact hS.over hb5)))); (try simp only [Act.put, List.setIfInBounds_toArray, List.set_cons_zero, List.set_cons_succ])))
  refine InText.nil fun w5 hS5 => ?_
  clear hT9
  clear hE
  have HE := Lib.hid hS5
  clear hS5
  cases B
  · have HR2 := HR.out
    simp only [Bool.false_eq_true, if_false] at HR2
    subst HR2
    have hE := HE.out
    have r1 := HCB.out _ hE
    have ff := hE.thaw i hi
    have f9 := ff 9 (by simp [urv])
    clear ff HOK HR
    go_wp2_with fail
    go_ret
    exact ⟨rfl, hE.put i hi (j := 9) (by simp [urv]) (.int .i64 (wrap64 (r + 1)))⟩
  · have HR2 := HR.out
    simp only [if_true] at HR2
    subst HR2
    clear HOK
    go_wp2_with fail
    go_ret
    exact ⟨rfl, HS.out _ HE.out⟩
end
end Go.Proofs.YtnnjanaclgjneaaGreatDoor

/- The reference's Cell, Slot. -/
namespace Go.Proofs.YtnnjanaclgjneaaGreatDoor
open Go.RowKit Go.Maps
set_option maxRecDepth 100000

set_option maxHeartbeats 400000 in
theorem cell13_any (y z : Int) (w : World) : Calls Tryz.prog 114 #[.int .i64 y, .int .i64 z] w fun e w' => e = .returned (.agg #[.int .i64 5, .int .i64 y, .int .i64 z]) ∧ Below w.heap.size w w' := by
  go_enter Tryz.func114, Tryz.ntmps114
  go_wp2
  exact bodyPost_ret (v := .agg #[.int .i64 5, .int .i64 y, .int .i64 z]) (by simp [results, Tryz.results114, go_sem]) rfl ⟨rfl, (Below.refl _ _).alloc (Nat.le_refl _) _⟩
end Go.Proofs.YtnnjanaclgjneaaGreatDoor

/- The reference's Cell, Slot. -/
namespace Go.Proofs.YtnnjanaclgjneaaGreatDoor
open Go.RowKit Go.Maps
set_option maxRecDepth 100000

theorem rslot_of (v : World) (m : Bool) (s b : Int) : (Instr.field 219 (.agg #[.bool m, .int .i64 s, .int .i64 b]) 1).run Tryz.prog v = .ok (.int .i64 s) v := by kernel_rfl
theorem slot13_any (x : Int) (hx : InU x) (w : World) : Calls Tryz.prog 116 #[.int .u64 x] w fun e w' => e = .returned (.int .i64 (slotI x)) ∧ Below w.heap.size w w' := by
  have h := rslot_of
  have hr := refOf_any x w hx.1 hx.2
  obtain ⟨s, hs⟩ : ∃ s, slotI x = s := ⟨_, rfl⟩
  rw [hs] at hr ⊢
  have HR := Lib.hid hr
  clear hx hr hs
  go_enter Tryz.func116, Tryz.ntmps116
  go_wp2_with fail
  refine HR.out.mono ?_
  rintro e w1 ⟨rfl, hb⟩
  go_wp2_with fail
  go_ret
  exact ⟨rfl, hb⟩
end Go.Proofs.YtnnjanaclgjneaaGreatDoor

/- The reference's words in a row: Swap, Less. -/

namespace Go.Proofs.YtnnjanaclgjneaaGreatDoor
open Go.RowKit Go.Maps
set_option maxRecDepth 100000

def swL (l : List OneR) (x : Plc) (o v : Int) : List OneR := if getL l x = o then setL l x v else l
set_option maxHeartbeats 1600000 in
theorem refSwap_any {u : Nat} {F : Nat → Prop} {l : List OneR} {w : World} (a b d o v : Int) (hl : l.length ≤ 1000000) (hU : IsU w u F l) :
    Calls Tryz.prog 117 #[.pointer (some ⟨u, 0, none⟩), .agg #[.int .i64 a, .int .i64 b, .int .i64 d], .int .u64 o, .int .u64 v] w fun e w' => e = .returned (.bool (decide (getL l (a, b, d) = o))) ∧ ∃ F', IsU w' u F' (swL l (a, b, d) o v) ∧ Step F F' w w' := by
  have hE := (Fr.start w).push w.heap.size rfl [.int .i64 a, .int .i64 b, .int .i64 d] 105
  have r := hE.rule 0 rfl
  have HU := Lib.hid hU
  go_enter Tryz.func117, Tryz.ntmps117
  go_wp2_with fail
  refine (refGet_any a b d hl (HU.out.over hE.below)).mono ?_
  rintro e w1 ⟨rfl, hb⟩
  replace hE := hE.over hb
  have hb0 := hE.below
  clear hb r
  by_cases hg : getL l (a, b, d) = o
  · have r := hE.rule 0 rfl
    have hg' : decide (getL l (a, b, d) = o) = true := by simp [hg]
    go_wp2_with fail
    refine (refSet_any a b d v hl (HU.out.over hb0)).mono ?_
    rintro e w2 ⟨rfl, F', hU2, hs⟩
    go_wp2
    go_ret
    exact ⟨by rw [hg']; rfl, F', by rw [swL, if_pos hg]; exact hU2, (Step.of_below F hb0).trans hs⟩
  · have r := hE.rule 0 rfl
    have hg' : decide (getL l (a, b, d) = o) = false := by simp [hg]
    go_wp2_with fail
    go_ret
    exact ⟨by rw [hg']; rfl, F, by rw [swL, if_neg hg]; exact HU.out.over hb0, Step.of_below F hb0⟩

end Go.Proofs.YtnnjanaclgjneaaGreatDoor

/- The order of places; the library's sort at it. -/
namespace Go.Proofs.YtnnjanaclgjneaaGreatDoor
open Go.RowKit Go.Maps Go.Shelf Go.Sort
set_option maxRecDepth 100000

/-- How two places stand. -/
def orI (a b c : Int) : Int := if a ≠ 0 then a else if b ≠ 0 then b else c
def cmpP (x y : Plc) : Int := orI (Lib.compareInt x.1 y.1) (Lib.compareInt x.2.1 y.2.1) (Lib.compareInt x.2.2 y.2.2)
theorem cmp_neg (a b : Int) : Lib.compareInt a b < 0 ↔ a < b := by unfold Lib.compareInt; split <;> (try split) <;> omega
theorem cmp_zero (a b : Int) : Lib.compareInt a b = 0 ↔ a = b := by unfold Lib.compareInt; split <;> (try split) <;> omega
theorem ltP (x y : Plc) : ltOf cmpP x y = true ↔ x.1 < y.1 ∨ (x.1 = y.1 ∧ (x.2.1 < y.2.1 ∨ (x.2.1 = y.2.1 ∧ x.2.2 < y.2.2))) := by
  have h1 := cmp_neg x.1 y.1
  have h2 := cmp_neg x.2.1 y.2.1
  have h3 := cmp_neg x.2.2 y.2.2
  have z1 := cmp_zero x.1 y.1
  have z2 := cmp_zero x.2.1 y.2.1
  have e : ltOf cmpP x y = true ↔ cmpP x y < 0 := by simp [ltOf]
  rw [e]
  unfold cmpP orI
  split
  · rename_i h; rw [h1]; rw [ne_eq, z1] at h; omega
  · rename_i h
    have h := z1.1 (by simpa using h)
    split
    · rename_i k; rw [h2]; rw [ne_eq, z2] at k; omega
    · rename_i k
      have k := z2.1 (by simpa using k)
      rw [h3]; omega
theorem ltP_false (x y : Plc) : ltOf cmpP x y = false ↔ ¬ (x.1 < y.1 ∨ (x.1 = y.1 ∧ (x.2.1 < y.2.1 ∨ (x.2.1 = y.2.1 ∧ x.2.2 < y.2.2)))) := by rw [← ltP, Bool.not_eq_true]
theorem swoP : SWO (ltOf cmpP) where
  irrefl x := by rw [ltP_false]; omega
  trans x y z h1 h2 := by rw [ltP] at *; omega
  ntrans x y z h1 h2 := by rw [ltP_false] at *; omega
theorem totP (x y : Plc) (h1 : ltOf cmpP x y = false) (h2 : ltOf cmpP y x = false) : x = y := by
  rw [ltP_false] at *
  obtain ⟨a, b, c⟩ := x
  obtain ⟨a', b', c'⟩ := y
  simp only [Prod.mk.injEq]
  simp only at h1 h2
  omega

/-- A place's cells. -/
def encP (x : Plc) : List Value := [.int .i64 x.1, .int .i64 x.2.1, .int .i64 x.2.2]
end Go.Proofs.YtnnjanaclgjneaaGreatDoor

/- The keys of a map of words, collected: each once, in whatever order; then sorted: Places. -/
namespace Go.Proofs.YtnnjanaclgjneaaGreatDoor
open Go.RowKit Go.Maps Go.Shelf Go.Sort
set_option maxRecDepth 100000

attribute [local go_sem] Oper.semAt_some

def flatP (l : List Plc) : List Value := l.flatMap encP
theorem flatP_snoc (l : List Plc) (x : Plc) : flatP (l ++ [x]) = flatP l ++ encP x := by simp [flatP]
theorem flatP_length (l : List Plc) : (flatP l).length = l.length * 3 := by
  induction l with
  | nil => rfl
  | cons x l ih => simp [flatP, encP] at *; omega
theorem infoPlace : (Tryz.prog.info? 105).map (fun i => (i.zero, i.size, i.bytes)) = some (some (.agg #[.int .i64 0, .int .i64 0, .int .i64 0]), 3, 24) := by kernel_rfl
end Go.Proofs.YtnnjanaclgjneaaGreatDoor

/- Places: those whose words aren't 0, in their order. -/
namespace Go.Proofs.YtnnjanaclgjneaaGreatDoor
open Go.RowKit Go.Maps Go.Shelf Go.Sort
set_option maxRecDepth 100000

/-! ### rows of places -/
def z3 : Plc := (0, 0, 0)
/-- v is a slice of just those places. -/
def RowP (w : World) (v : Value) (l : List Plc) : Prop :=
  (l = [] ∧ v = .slice none 0 0) ∨ ∃ g cap, v = .slice (some ⟨g, 0, none⟩) l.length cap ∧ g < w.heap.size ∧ ∀ j, j < l.length →
    w.cell? ⟨g, j * 3, none⟩ = some (.int .i64 (l.getD j z3).1) ∧ w.cell? ⟨g, j * 3 + 1, none⟩ = some (.int .i64 (l.getD j z3).2.1) ∧ w.cell? ⟨g, j * 3 + 2, none⟩ = some (.int .i64 (l.getD j z3).2.2)
theorem RowP.over {w w' : World} {v : Value} {l : List Plc} {T : Nat → Prop} (h : RowP w v l) (ht : Turn T w w') (hT : ∀ g len cap, v = .slice (some ⟨g, 0, none⟩) len cap → ¬ T g) : RowP w' v l := by
  rcases h with h | ⟨g, cap, hv, hg, hc⟩
  · exact .inl h
  · have hb := ht.block g hg (hT g _ cap hv)
    exact .inr ⟨g, cap, hv, Nat.lt_of_lt_of_le hg ht.size, fun j hj => by
      obtain ⟨h1, h2, h3⟩ := hc j hj
      refine ⟨?_, ?_, ?_⟩
      · rw [World.cell?_of_block (w := w) hb]; exact h1
      · rw [World.cell?_of_block (w := w) hb]; exact h2
      · rw [World.cell?_of_block (w := w) hb]; exact h3⟩

theorem flatP_get (l : List Plc) : ∀ (j c : Nat), j < l.length → c < 3 → (flatP l)[j * 3 + c]? = (encP (l.getD j z3))[c]? := by
  induction l with
  | nil => intro j c h; simp at h
  | cons x l ih =>
    intro j c hj hc
    have e : flatP (x :: l) = encP x ++ flatP l := by simp [flatP]
    cases j with
    | zero => rw [e, List.getElem?_append_left (by simp [encP]; omega)]; simp
    | succ j =>
      rw [e, List.getElem?_append_right (by simp [encP]; omega)]
      have := ih j c (by simpa using hj) hc
      have e2 : (j + 1) * 3 + c - (encP x).length = j * 3 + c := by simp [encP]; omega
      rw [e2, this]
      simp

def Rising (l : List Plc) : Prop := l.Pairwise fun x y => ltOf cmpP x y = true
theorem rising_eq : ∀ {l m : List Plc}, Rising l → Rising m → (∀ x, x ∈ l ↔ x ∈ m) → l = m
  | [], [], _, _, _ => rfl
  | [], y :: m, _, _, h => by have := (h y).2 (by simp); simp at this
  | x :: l, [], _, _, h => by have := (h x).1 (by simp); simp at this
  | x :: l, y :: m, h1, h2, h => by
    obtain ⟨a1, a2⟩ := List.pairwise_cons.1 h1
    obtain ⟨b1, b2⟩ := List.pairwise_cons.1 h2
    have no : ∀ a b : Plc, ltOf cmpP a b = true → ltOf cmpP b a = true → False := fun a b p q => by
      have := swoP.trans _ _ _ p q
      rw [swoP.irrefl] at this
      cases this
    have hxy : x = y := by
      rcases List.mem_cons.1 ((h x).1 (by simp)) with e | hx
      · exact e
      · rcases List.mem_cons.1 ((h y).2 (by simp)) with e | hy
        · exact e.symm
        · exact (no x y (a1 y hy) (b1 x hx)).elim
    subst hxy
    rw [rising_eq a2 b2 fun z => ⟨fun hz => by
      rcases List.mem_cons.1 ((h z).1 (by simp [hz])) with e | h'
      · subst e; exact (no _ _ (a1 _ hz) (a1 _ hz)).elim
      · exact h', fun hz => by
      rcases List.mem_cons.1 ((h z).2 (by simp [hz])) with e | h'
      · subst e; exact (no _ _ (b1 _ hz) (b1 _ hz)).elim
      · exact h'⟩]
/-- l are the places whose words aren't 0, rising. -/
def PlacesOf (f : Plc → Int) (l : List Plc) : Prop := Rising l ∧ ∀ x, x ∈ l ↔ f x ≠ 0
theorem PlacesOf.eq {f : Plc → Int} {l m : List Plc} (h : PlacesOf f l) (k : PlacesOf f m) : l = m := rising_eq h.1 k.1 fun x => (h.2 x).trans (k.2 x).symm
/-- The one place whose word isn't 0. -/
theorem places_one {x : Plc} {v : Int} (hv : v ≠ 0) {l : List Plc} (h : PlacesOf (upd (fun _ => 0) x v) l) : l.length = 1 := by
  have h1 : PlacesOf (upd (fun _ => 0) x v) [x] := ⟨List.pairwise_singleton _ _, fun y => by unfold upd; split <;> simp_all⟩
  rw [h.eq h1]; rfl

theorem RowP.len {w : World} {v : Value} {l : List Plc} (h : RowP w v l) : ∃ a cap, v = .slice a l.length cap := by
  rcases h with ⟨rfl, rfl⟩ | ⟨g, cap, rfl, _⟩
  · exact ⟨_, _, rfl⟩
  · exact ⟨_, _, rfl⟩
theorem RowP.below {w w' : World} {v : Value} {l : List Plc} (h : RowP w v l) (hb : Below w.heap.size w w') : RowP w' v l := h.over (Turn.of_below hb : Turn (fun _ => False) w w') fun _ _ _ _ e => e
end Go.Proofs.YtnnjanaclgjneaaGreatDoor

/- The reference's words in a row: Swap, Less. -/
namespace Go.Proofs.YtnnjanaclgjneaaGreatDoor
open Go.RowKit Go.Maps Go.Sort
set_option maxRecDepth 100000

set_option maxHeartbeats 1600000 in
theorem less_any (x y z a b d : Int) (w : World) :
    Calls Tryz.prog 143 #[.agg #[.int .i64 x, .int .i64 y, .int .i64 z], .agg #[.int .i64 a, .int .i64 b, .int .i64 d]] w fun e w' => e = .returned (.bool (ltOf cmpP (x, y, z) (a, b, d))) ∧ Below w.heap.size w w' := by
  have hE := ((Fr.start w).push w.heap.size rfl [.int .i64 x, .int .i64 y, .int .i64 z] 105).push (w.heap.size + 1) (by simp) [.int .i64 a, .int .i64 b, .int .i64 d] 105
  have r := hE.rule 0 rfl
  have r1 := hE.rule 1 rfl
  have hL : ltOf cmpP (x, y, z) (a, b, d) = if x ≠ a then decide (x < a) else if y ≠ b then decide (y < b) else decide (z < d) := by
    have h := ltP (x, y, z) (a, b, d)
    rw [Bool.eq_iff_iff, h]
    split
    · simp; omega
    · split
      · simp; omega
      · simp; omega
  rw [hL]
  go_enter Tryz.func143, Tryz.ntmps143
  by_cases h1 : x = a
  · subst h1
    by_cases h2 : y = b
    · subst h2
      go_wp2_with fail
      go_ret
      exact ⟨by simp, hE.below⟩
    · go_wp2_with fail
      go_ret
      exact ⟨by simp [h2], hE.below⟩
  · go_wp2_with fail
    go_ret
    exact ⟨by simp [h1], hE.below⟩



end Go.Proofs.YtnnjanaclgjneaaGreatDoor

/- The reference's words among other things; counts as cells. -/
namespace Go.Proofs.YtnnjanaclgjneaaGreatDoor
open Go.RowKit Go.Maps
set_option maxRecDepth 100000

/-- Counts in five cells. -/
def bv (t : Cnt) : List Value := [.int .i64 t.l, .int .i64 t.s, .int .i64 t.w, .int .i64 t.f, .int .i64 t.a]
theorem swf_getL (l : List OneR) (x : Plc) (o v : Int) : swf (getL l) x o v = getL (swL l x o v) := by
  unfold swf swL
  split
  · rw [getL_set]
  · rfl
theorem LOk.sw {l : List OneR} {N : Nat} (h : LOk l N) (x : Plc) (o v : Int) : LOk (swL l x o v) (N + 1) := by
  unfold swL; split
  · exact h.set x v
  · exact h.more
end Go.Proofs.YtnnjanaclgjneaaGreatDoor

/- The reference's lanes: their small functions. -/
namespace Go.Proofs.YtnnjanaclgjneaaGreatDoor
open Go.RowKit Go.Maps
set_option maxRecDepth 100000

/-- A reference's lane's cells. -/
def rlC (lv key : Int) (vs : Bool) (x y z pc W X K V C : Int) (fd : Bool) : List Value := [.int .i64 x, .int .i64 y, .int .i64 z, .int .i64 lv, .int .u64 key, .bool vs, .int .i64 pc, .int .u64 W, .int .u64 X, .int .u64 K, .int .u64 V, .int .i64 C, .bool fd]
/-- A reference's thread's cells: those of the statements' structure. -/
structure Uc where
  (k s b h l : Int)
  (A : Option Addr)
  (n c : Nat)
  (N hs : Int)
def Q15 : Uc := ⟨2, 1000, 3, 1, 1073741824, none, 0, 0, 0, 0⟩
def ruC (uc : Uc) (e ro : Int) : List Value := urv uc.k uc.s uc.b uc.h uc.l e uc.A uc.n uc.c uc.N uc.hs ro

section
variable {uc : Uc} {w : World} {b : Nat} {lv key : Int} {vs fd : Bool} {x y z pc W X K V C : Int}

set_option maxHeartbeats 1600000 in
theorem next_r (hlv : 0 ≤ lv ∧ lv ≤ 1000000) (hb : Blk 0 w b (rlC lv key vs x y z pc W X K V C fd)) : Calls Tryz.prog 153 #[.pointer (some ⟨b, 0, none⟩)] w fun e w' => e = .returned (.agg #[.int .i64 5, .int .i64 C, .int .i64 (7 + lv)]) ∧ Below w.heap.size w w' := by
  have hal := hb.1
  have hX := hb.more (.cells [.int .i64 0, .int .i64 0, .int .i64 0].toArray 105)
  have hZ := Blk.new 0 w [.int .i64 0, .int .i64 0, .int .i64 0] 105
  have hE := (Below.refl w.heap.size w).alloc (Nat.le_refl _) (.cells [.int .i64 0, .int .i64 0, .int .i64 0].toArray 105)
  have hw7 : wrap64 (7 + lv) = 7 + lv := w64 _ (by omega)
  have hw8 : IntKind.i64.wrap (7 + lv) = 7 + lv := by rw [wrap_i]; exact hw7
  have HW := Lib.hid hw7
  clear hb hlv hw7
  go_enter Tryz.func153, Tryz.ntmps153
  go_wp2_with fail
  refine Ord.wp_chain [10] (fun w' => Below w.heap.size w w' ∧ Blk 0 w' b (rlC lv key vs x y z pc W X K V C fd)) (fun j w' => Blk 0 w' w.heap.size (if j = 0 then [.int .i64 0, .int .i64 0, .int .i64 0] else [.int .i64 5, .int .i64 C, .int .i64 (7 + lv)])) (by kernel_rfl) (by kernel_rfl) (by kernel_rfl) ⟨hE.drew, hX.drew⟩ hZ.drew (fun hT => ?_)
  have hT9 := Lib.hid hT
  clear hT
  repeat (first
    | (refine Ord.ch_value (v := ?_) hT9.out (by decide) (by rfl) ?_ ?_; rotate_left; (focus (intro w5 hS; have r := Blk.rule hS.2; unfold rlC at r; go_simp <;> with_reducible rfl)); (try simp only [Act.put, List.setIfInBounds_toArray, List.set_cons_zero, List.set_cons_succ]))
    | (refine Ord.ch_off hT9.out (by decide) (by rfl) ?_; (try simp only [Act.put, List.setIfInBounds_toArray, List.set_cons_zero, List.set_cons_succ]))
    | (refine Ord.ch_call (v := ?_) (f := ?_) (args := ?_) hT9.out (by decide) (by rfl) ?_ ?_ ?_; rotate_left 3; (focus (intro w5 hS; have r := Blk.rule hS.2; unfold rlC at r; go_simp; constructor <;> with_reducible rfl)); (focus (intro w5 hS; (first | (with_reducible refine (cell13_any _ _ _).mono ?_; rintro o w6 ⟨rfl, hb6⟩; constructor; with_reducible rfl; exact ⟨⟨hS.1.trans (hb6.mono hS.1.size), hS.2.under hb6⟩, fun _ h => h.under hb6⟩)))); (try simp only [Act.put, List.setIfInBounds_toArray, List.set_cons_zero, List.set_cons_succ])))
  refine Ord.ch_turn (v := undef) 0 hT9.out rfl (by decide) (Or.inl rfl) (by rfl) ?_ ?_
  · rintro w5 hS hA2
    simp only [if_true] at hA2
    have r := hA2.rule
    have f0 := hA2.thaw 0 (by simp)
    have f1 := hA2.thaw 1 (by simp)
    have f2 := hA2.thaw 2 (by simp)
    have hz := hS.1.size
    go_simp
    refine ⟨rfl, ⟨?_, ?_⟩, ?_⟩
    · exact below_set (below_set (below_set hS.1 hz (by omega) _) (by simp; omega) (by omega) _) (by simp; omega) (by omega) _
    · exact ((hS.2.off (by omega) _).off (by omega) _).off (by omega) _
    · exact ((hA2.set (i := 0) (by simp) _).set (i := 1) (by simp) _).set (i := 2) (by simp) _
  (try simp only [Act.put, List.setIfInBounds_toArray, List.set_cons_zero, List.set_cons_succ])
  repeat (first
    | (refine Ord.ch_value (v := ?_) hT9.out (by decide) (by rfl) ?_ ?_; rotate_left; (focus (intro w5 hS; skip; go_simp <;> with_reducible rfl)); (try simp only [Act.put, List.setIfInBounds_toArray, List.set_cons_zero, List.set_cons_succ]))
    | (refine Ord.ch_off hT9.out (by decide) (by rfl) ?_; (try simp only [Act.put, List.setIfInBounds_toArray, List.set_cons_zero, List.set_cons_succ])))
  refine Ord.InText.nil fun w5 hS => ?_
  clear hT9
  obtain ⟨hC9, hA9⟩ := Ord.chain_end hS
  clear hS
  have q := hA9.rule
  simp only [show ¬ [10].length = 0 by decide, if_false] at q
  go_wp2
  exact bodyPost_ret (v := .agg #[.int .i64 5, .int .i64 C, .int .i64 (7 + lv)]) (by simp [results, Tryz.results153, go_sem, q]) rfl ⟨rfl, hC9.1⟩
end

section
variable {uc : Uc} {w0 w : World} {L : List Item} {b : Nat} {lv key : Int} {vs fd : Bool} {x y z pc W X K V C : Int}
set_option maxHeartbeats 1600000 in
theorem come_r (v : Int) (hv : InU v) (hE : Env w0 (boxI b (rlC lv key vs x y z pc W X K V C fd) :: L) w) :
    Calls Tryz.prog 154 #[.pointer (some ⟨b, 0, none⟩), .int .u64 v] w fun o w' => o = .returned (.int .i64 (cS v)) ∧ Env w0 (boxI b (rlC lv key vs x y z 3 v 0 K V (slotI v) fd) :: L) w' := by
  have hs13 := fun (u : World) => slot13_any v hv u
  obtain ⟨s, hs⟩ : ∃ s, slotI v = s := ⟨_, rfl⟩
  have hcs : cS v = if s = 0 then 1 else 0 := by unfold cS; rw [hs]
  rw [hcs, hs]
  simp only [hs] at hs13
  have HS := Lib.hid hs13
  clear hs hcs hs13 hv
  have r := hE.rule 0 rfl
  unfold rlC at r
  have f7 := hE.thaw 0 rfl 7 (by simp [rlC])
  have f8 := hE.thaw 0 rfl 8 (by simp [rlC])
  have hP := (hE.put 0 rfl (j := 7) (by simp [rlC]) (.int .u64 v)).put 0 rfl (j := 8) (by simp [rlC]) (.int .u64 0)
  replace hP : Env w0 (boxI b (rlC lv key vs x y z pc v 0 K V C fd) :: L) _ := hP
  go_enter Tryz.func154, Tryz.ntmps154
  go_wp2_with fail
  refine (HS.out _).mono ?_
  rintro o w1 ⟨rfl, hb⟩
  have hE1 := hP.over hb
  clear hb r f7 f8 hP hE
  have r := hE1.rule 0 rfl
  unfold rlC at r
  have f11 := hE1.thaw 0 rfl 11 (by simp [rlC])
  have f6 := hE1.thaw 0 rfl 6 (by simp [rlC])
  have hP := (hE1.put 0 rfl (j := 11) (by simp [rlC]) (.int .i64 s)).put 0 rfl (j := 6) (by simp [rlC]) (.int .i64 3)
  replace hP : Env w0 (boxI b (rlC lv key vs x y z 3 v 0 K V s fd) :: L) _ := hP
  by_cases h0 : s = 0
  · subst h0
    go_wp2_with fail
    go_ret
    exact ⟨rfl, hP⟩
  · have hsb : (s == 0) = false := by simpa using h0
    have H0 := Lib.hid h0
    clear h0
    go_wp2_with fail
    go_ret
    exact ⟨rfl, hP⟩
set_option maxHeartbeats 1600000 in
theorem holds2a_r (hm : markB W = true) (hv : InU W) (hE : Env w0 (boxI b (rlC lv key vs x y z 2 W X K V C fd) :: L) w) :
    Calls Tryz.prog 156 #[.pointer (some ⟨b, 0, none⟩)] w fun o w' => o = .returned (.int .i64 2) ∧ Env w0 (boxI b (rlC lv key vs x y z 2 W X K V C fd) :: L) w' := by
  have h1 := rmarked_any W w hv
  rw [hm] at h1
  have r := hE.rule 0 rfl
  unfold rlC at r
  clear hm hv
  go_enter Tryz.func156, Tryz.ntmps156
  go_wp2_with fail
  refine h1.mono ?_
  rintro o w1 ⟨rfl, hb⟩
  go_wp2_with fail
  go_ret
  exact ⟨rfl, hE.over hb⟩
set_option maxHeartbeats 1600000 in
theorem holds2b_r (hm : markB W = false) (hv : InU W) (hE : Env w0 (boxI b (rlC lv key vs x y z 2 W X K V C fd) :: L) w) :
    Calls Tryz.prog 156 #[.pointer (some ⟨b, 0, none⟩)] w fun o w' => o = .returned (.int .i64 (cS W)) ∧ Env w0 (boxI b (rlC lv key vs x y z 3 W 0 K V (slotI W) fd) :: L) w' := by
  have h1 := rmarked_any W w hv
  rw [hm] at h1
  have r := hE.rule 0 rfl
  unfold rlC at r
  have HV := Lib.hid hv
  clear hm hv
  go_enter Tryz.func156, Tryz.ntmps156
  go_wp2_with fail
  refine h1.mono ?_
  rintro o w1 ⟨rfl, hb⟩
  replace hE := hE.over hb
  clear hb r
  have r := hE.rule 0 rfl
  unfold rlC at r
  go_wp2_with fail
  refine (come_r W HV.out hE).mono ?_
  rintro o w2 ⟨rfl, hE2⟩
  go_wp2_with fail
  go_ret
  exact ⟨rfl, hE2⟩
set_option maxHeartbeats 1600000 in
theorem holds4_r (hv : InU X) (hE : Env w0 (boxI b (rlC lv key vs x y z 4 W X K V C fd) :: L) w) :
    Calls Tryz.prog 156 #[.pointer (some ⟨b, 0, none⟩)] w fun o w' => o = .returned (.int .i64 0) ∧ Env w0 (boxI b (rlC lv key vs x y z (if markB X then 5 else 6) W X K V C fd) :: L) w' := by
  obtain ⟨mk, hmk⟩ : ∃ mk, markB X = mk := ⟨_, rfl⟩
  have h1 := fun (u : World) => rmarked_any X u hv
  simp only [hmk] at h1
  rw [hmk]
  have H1 := Lib.hid h1
  have r := hE.rule 0 rfl
  unfold rlC at r
  have f6 := hE.thaw 0 rfl 6 (by simp [rlC])
  have hP := hE.put 0 rfl (j := 6) (by simp [rlC]) (.int .i64 6)
  replace hP : Env w0 (boxI b (rlC lv key vs x y z 6 W X K V C fd) :: L) _ := hP
  clear hmk hv h1
  go_enter Tryz.func156, Tryz.ntmps156
  go_wp2_with fail
  refine (H1.out _).mono ?_
  rintro o w1 ⟨rfl, hb⟩
  replace hP := hP.over hb
  clear hb r f6
  cases mk
  · go_wp2_with fail
    go_ret
    exact ⟨rfl, hP⟩
  · have r := hP.rule 0 rfl
    unfold rlC at r
    have f6 := hP.thaw 0 rfl 6 (by simp [rlC])
    have hQ := hP.put 0 rfl (j := 6) (by simp [rlC]) (.int .i64 5)
    go_wp2_with fail
    go_ret
    exact ⟨rfl, hQ⟩
set_option maxHeartbeats 1600000 in
theorem holds7a_r (hk : K < key) (hlv : 0 ≤ lv ∧ lv ≤ 1000000) (hv : InU X) (hE : Env w0 (boxI b (rlC lv key vs x y z 7 W X K V C fd) :: L) w) :
    Calls Tryz.prog 156 #[.pointer (some ⟨b, 0, none⟩)] w fun o w' => o = .returned (.int .i64 (cS X)) ∧ Env w0 (boxI b (rlC lv key vs 5 C (7 + lv) 3 X 0 K V (slotI X) fd) :: L) w' := by
  have hkb : decide (K < key) = true := by simpa using hk
  have r := hE.rule 0 rfl
  unfold rlC at r
  have HV := Lib.hid hv
  clear hv hk
  go_enter Tryz.func156, Tryz.ntmps156
  go_wp2_with fail
  clear r
  refine wp_text (S := (Env w0 (boxI b (rlC lv key vs x y z 7 W X K V C fd) :: L))) (by kernel_rfl) (by kernel_rfl) hE.drew (fun hT => ?_)
  have hT9 := Lib.hid hT
  clear hT
  repeat (first
    | (refine text_value (v := ?_) hT9.out (by rfl) ?_ ?_; rotate_left; (focus (intro w5 hS; have r := hS.rule 0 rfl; unfold rlC at r; go_simp <;> with_reducible rfl)); (try simp only [Act.put, List.setIfInBounds_toArray, List.set_cons_zero, List.set_cons_succ]))
    | (refine text_off hT9.out (by rfl) ?_; (try simp only [Act.put, List.setIfInBounds_toArray, List.set_cons_zero, List.set_cons_succ]))
    | (refine text_call (v := ?_) (f := ?_) (args := ?_) hT9.out (by rfl) ?_ ?_ ?_; rotate_left 3; (focus (intro w5 hS; have r := hS.rule 0 rfl; unfold rlC at r; go_simp; constructor <;> with_reducible rfl)); (focus (intro w5 hS; (first | fail))); (try simp only [Act.put, List.setIfInBounds_toArray, List.set_cons_zero, List.set_cons_succ])))
  refine InText.nil fun w5 hS5 => ?_
  clear hT9
  clear hE
  go_wp2_with fail
  refine (next_r hlv (hS5.get 0 rfl)).mono ?_
  rintro o w6 ⟨rfl, hb⟩
  have hE := hS5.over hb
  clear hS5 hb
  have r := hE.rule 0 rfl
  unfold rlC at r
  have g0 := hE.thaw 0 rfl 0 (by simp [rlC])
  have g1 := hE.thaw 0 rfl 1 (by simp [rlC])
  have g2 := hE.thaw 0 rfl 2 (by simp [rlC])
  have hP := ((hE.put 0 rfl (j := 0) (by simp [rlC]) (.int .i64 5)).put 0 rfl (j := 1) (by simp [rlC]) (.int .i64 C)).put 0 rfl (j := 2) (by simp [rlC]) (.int .i64 (7 + lv))
  replace hP : Env w0 (boxI b (rlC lv key vs 5 C (7 + lv) 7 W X K V C fd) :: L) _ := hP
  have r9 := hP.rule 0 rfl
  unfold rlC at r9
  go_wp2_with fail
  refine (come_r X HV.out hP).mono ?_
  rintro o w2 ⟨rfl, hE2⟩
  go_wp2_with fail
  go_ret
  exact ⟨rfl, hE2⟩

set_option maxHeartbeats 1600000 in
theorem holds7b_r (hk : K = key) (hE : Env w0 (boxI b (rlC lv key false x y z 7 W X K V C fd) :: L) w) :
    Calls Tryz.prog 156 #[.pointer (some ⟨b, 0, none⟩)] w fun o w' => o = .returned (.int .i64 1) ∧ Env w0 (boxI b (rlC lv key false x y z 7 W X K V C true) :: L) w' := by
  have hkb : decide (K < key) = false := by simp; omega
  have hkq : (K == key) = true := by simpa using hk
  clear hk
  have r := hE.rule 0 rfl
  unfold rlC at r
  go_enter Tryz.func156, Tryz.ntmps156
  go_wp2_with fail
  clear r
  refine wp_text (S := (Env w0 (boxI b (rlC lv key false x y z 7 W X K V C fd) :: L))) (by kernel_rfl) (by kernel_rfl) hE.drew (fun hT => ?_)
  have hT9 := Lib.hid hT
  clear hT
  repeat (first
    | (refine text_value (v := ?_) hT9.out (by rfl) ?_ ?_; rotate_left; (focus (intro w5 hS; have r := hS.rule 0 rfl; unfold rlC at r; go_simp <;> with_reducible rfl)); (try simp only [Act.put, List.setIfInBounds_toArray, List.set_cons_zero, List.set_cons_succ]))
    | (refine text_off hT9.out (by rfl) ?_; (try simp only [Act.put, List.setIfInBounds_toArray, List.set_cons_zero, List.set_cons_succ]))
    | (refine text_call (v := ?_) (f := ?_) (args := ?_) hT9.out (by rfl) ?_ ?_ ?_; rotate_left 3; (focus (intro w5 hS; have r := hS.rule 0 rfl; unfold rlC at r; go_simp; constructor <;> with_reducible rfl)); (focus (intro w5 hS; (first | fail))); (try simp only [Act.put, List.setIfInBounds_toArray, List.set_cons_zero, List.set_cons_succ])))
  refine InText.nil fun w5 hS5 => ?_
  clear hT9
  clear hE
  go_wp2_with fail
  have hE := hS5
  clear hS5
  refine wp_text (S := (Env w0 (boxI b (rlC lv key false x y z 7 W X K V C fd) :: L))) (by kernel_rfl) (by kernel_rfl) hE.drew (fun hT => ?_)
  have hT9 := Lib.hid hT
  clear hT
  repeat (first
    | (refine text_value (v := ?_) hT9.out (by rfl) ?_ ?_; rotate_left; (focus (intro w5 hS; have r := hS.rule 0 rfl; unfold rlC at r; go_simp <;> with_reducible rfl)); (try simp only [Act.put, List.setIfInBounds_toArray, List.set_cons_zero, List.set_cons_succ]))
    | (refine text_off hT9.out (by rfl) ?_; (try simp only [Act.put, List.setIfInBounds_toArray, List.set_cons_zero, List.set_cons_succ]))
    | (refine text_call (v := ?_) (f := ?_) (args := ?_) hT9.out (by rfl) ?_ ?_ ?_; rotate_left 3; (focus (intro w5 hS; have r := hS.rule 0 rfl; unfold rlC at r; go_simp; constructor <;> with_reducible rfl)); (focus (intro w5 hS; (first | fail))); (try simp only [Act.put, List.setIfInBounds_toArray, List.set_cons_zero, List.set_cons_succ])))
  refine InText.nil fun w5 hS5 => ?_
  clear hT9
  clear hE
  have r := hS5.rule 0 rfl
  unfold rlC at r
  have f12 := hS5.thaw 0 rfl 12 (by simp [rlC])
  have hP := hS5.put 0 rfl (j := 12) (by simp [rlC]) (.bool true)
  replace hP : Env w0 (boxI b (rlC lv key false x y z 7 W X K V C true) :: L) _ := hP
  go_wp2_with fail
  go_ret
  exact ⟨rfl, hP⟩

set_option maxHeartbeats 1600000 in
theorem holds7c_r (hk : K = key) (hE : Env w0 (boxI b (rlC lv key true x y z 7 W X K V C fd) :: L) w) :
    Calls Tryz.prog 156 #[.pointer (some ⟨b, 0, none⟩)] w fun o w' => o = .returned (.int .i64 0) ∧ Env w0 (boxI b (rlC lv key true x y z 8 W X K V C true) :: L) w' := by
  have hkb : decide (K < key) = false := by simp; omega
  have hkq : (K == key) = true := by simpa using hk
  clear hk
  have r := hE.rule 0 rfl
  unfold rlC at r
  go_enter Tryz.func156, Tryz.ntmps156
  go_wp2_with fail
  clear r
  refine wp_text (S := (Env w0 (boxI b (rlC lv key true x y z 7 W X K V C fd) :: L))) (by kernel_rfl) (by kernel_rfl) hE.drew (fun hT => ?_)
  have hT9 := Lib.hid hT
  clear hT
  repeat (first
    | (refine text_value (v := ?_) hT9.out (by rfl) ?_ ?_; rotate_left; (focus (intro w5 hS; have r := hS.rule 0 rfl; unfold rlC at r; go_simp <;> with_reducible rfl)); (try simp only [Act.put, List.setIfInBounds_toArray, List.set_cons_zero, List.set_cons_succ]))
    | (refine text_off hT9.out (by rfl) ?_; (try simp only [Act.put, List.setIfInBounds_toArray, List.set_cons_zero, List.set_cons_succ]))
    | (refine text_call (v := ?_) (f := ?_) (args := ?_) hT9.out (by rfl) ?_ ?_ ?_; rotate_left 3; (focus (intro w5 hS; have r := hS.rule 0 rfl; unfold rlC at r; go_simp; constructor <;> with_reducible rfl)); (focus (intro w5 hS; (first | fail))); (try simp only [Act.put, List.setIfInBounds_toArray, List.set_cons_zero, List.set_cons_succ])))
  refine InText.nil fun w5 hS5 => ?_
  clear hT9
  clear hE
  go_wp2_with fail
  have hE := hS5
  clear hS5
  refine wp_text (S := (Env w0 (boxI b (rlC lv key true x y z 7 W X K V C fd) :: L))) (by kernel_rfl) (by kernel_rfl) hE.drew (fun hT => ?_)
  have hT9 := Lib.hid hT
  clear hT
  repeat (first
    | (refine text_value (v := ?_) hT9.out (by rfl) ?_ ?_; rotate_left; (focus (intro w5 hS; have r := hS.rule 0 rfl; unfold rlC at r; go_simp <;> with_reducible rfl)); (try simp only [Act.put, List.setIfInBounds_toArray, List.set_cons_zero, List.set_cons_succ]))
    | (refine text_off hT9.out (by rfl) ?_; (try simp only [Act.put, List.setIfInBounds_toArray, List.set_cons_zero, List.set_cons_succ]))
    | (refine text_call (v := ?_) (f := ?_) (args := ?_) hT9.out (by rfl) ?_ ?_ ?_; rotate_left 3; (focus (intro w5 hS; have r := hS.rule 0 rfl; unfold rlC at r; go_simp; constructor <;> with_reducible rfl)); (focus (intro w5 hS; (first | fail))); (try simp only [Act.put, List.setIfInBounds_toArray, List.set_cons_zero, List.set_cons_succ])))
  refine InText.nil fun w5 hS5 => ?_
  clear hT9
  clear hE
  have r := hS5.rule 0 rfl
  unfold rlC at r
  have f12 := hS5.thaw 0 rfl 12 (by simp [rlC])
  have hP := hS5.put 0 rfl (j := 12) (by simp [rlC]) (.bool true)
  replace hP : Env w0 (boxI b (rlC lv key true x y z 7 W X K V C true) :: L) _ := hP
  have f6 := hS5.thaw 0 rfl 6 (by simp [rlC])
  have hQ := hP.put 0 rfl (j := 6) (by simp [rlC]) (.int .i64 8)
  go_wp2_with fail
  go_ret
  exact ⟨rfl, hQ⟩

set_option maxHeartbeats 1600000 in
theorem holds7d_r (hk : key < K) (hE : Env w0 (boxI b (rlC lv key vs x y z 7 W X K V C fd) :: L) w) :
    Calls Tryz.prog 156 #[.pointer (some ⟨b, 0, none⟩)] w fun o w' => o = .returned (.int .i64 1) ∧ Env w0 (boxI b (rlC lv key vs x y z 7 W X K V C fd) :: L) w' := by
  have hkb : decide (K < key) = false := by simp; omega
  have hkq : (K == key) = false := by simp; omega
  clear hk
  have r := hE.rule 0 rfl
  unfold rlC at r
  go_enter Tryz.func156, Tryz.ntmps156
  go_wp2_with fail
  clear r
  refine wp_text (S := (Env w0 (boxI b (rlC lv key vs x y z 7 W X K V C fd) :: L))) (by kernel_rfl) (by kernel_rfl) hE.drew (fun hT => ?_)
  have hT9 := Lib.hid hT
  clear hT
  repeat (first
    | (refine text_value (v := ?_) hT9.out (by rfl) ?_ ?_; rotate_left; (focus (intro w5 hS; have r := hS.rule 0 rfl; unfold rlC at r; go_simp <;> with_reducible rfl)); (try simp only [Act.put, List.setIfInBounds_toArray, List.set_cons_zero, List.set_cons_succ]))
    | (refine text_off hT9.out (by rfl) ?_; (try simp only [Act.put, List.setIfInBounds_toArray, List.set_cons_zero, List.set_cons_succ]))
    | (refine text_call (v := ?_) (f := ?_) (args := ?_) hT9.out (by rfl) ?_ ?_ ?_; rotate_left 3; (focus (intro w5 hS; have r := hS.rule 0 rfl; unfold rlC at r; go_simp; constructor <;> with_reducible rfl)); (focus (intro w5 hS; (first | fail))); (try simp only [Act.put, List.setIfInBounds_toArray, List.set_cons_zero, List.set_cons_succ])))
  refine InText.nil fun w5 hS5 => ?_
  clear hT9
  clear hE
  go_wp2_with fail
  have hE := hS5
  clear hS5
  refine wp_text (S := (Env w0 (boxI b (rlC lv key vs x y z 7 W X K V C fd) :: L))) (by kernel_rfl) (by kernel_rfl) hE.drew (fun hT => ?_)
  have hT9 := Lib.hid hT
  clear hT
  repeat (first
    | (refine text_value (v := ?_) hT9.out (by rfl) ?_ ?_; rotate_left; (focus (intro w5 hS; have r := hS.rule 0 rfl; unfold rlC at r; go_simp <;> with_reducible rfl)); (try simp only [Act.put, List.setIfInBounds_toArray, List.set_cons_zero, List.set_cons_succ]))
    | (refine text_off hT9.out (by rfl) ?_; (try simp only [Act.put, List.setIfInBounds_toArray, List.set_cons_zero, List.set_cons_succ]))
    | (refine text_call (v := ?_) (f := ?_) (args := ?_) hT9.out (by rfl) ?_ ?_ ?_; rotate_left 3; (focus (intro w5 hS; have r := hS.rule 0 rfl; unfold rlC at r; go_simp; constructor <;> with_reducible rfl)); (focus (intro w5 hS; (first | fail))); (try simp only [Act.put, List.setIfInBounds_toArray, List.set_cons_zero, List.set_cons_succ])))
  refine InText.nil fun w5 hS5 => ?_
  clear hT9
  clear hE
  go_wp2_with fail
  go_ret
  exact ⟨rfl, hS5⟩

set_option maxHeartbeats 1600000 in
theorem holds9_r (hE : Env w0 (boxI b (rlC lv key vs x y z 9 W X K V C fd) :: L) w) :
    Calls Tryz.prog 156 #[.pointer (some ⟨b, 0, none⟩)] w fun o w' => o = .returned (.int .i64 1) ∧ Env w0 (boxI b (rlC lv key vs x y z 9 W X K V C fd) :: L) w' := by
  have r := hE.rule 0 rfl
  unfold rlC at r
  go_enter Tryz.func156, Tryz.ntmps156
  go_wp2_with fail
  clear r
  refine wp_text (S := (Env w0 (boxI b (rlC lv key vs x y z 9 W X K V C fd) :: L))) (by kernel_rfl) (by kernel_rfl) hE.drew (fun hT => ?_)
  have hT9 := Lib.hid hT
  clear hT
  repeat (first
    | (refine text_value (v := ?_) hT9.out (by rfl) ?_ ?_; rotate_left; (focus (intro w5 hS; have r := hS.rule 0 rfl; unfold rlC at r; go_simp <;> with_reducible rfl)); (try simp only [Act.put, List.setIfInBounds_toArray, List.set_cons_zero, List.set_cons_succ]))
    | (refine text_off hT9.out (by rfl) ?_; (try simp only [Act.put, List.setIfInBounds_toArray, List.set_cons_zero, List.set_cons_succ]))
    | (refine text_call (v := ?_) (f := ?_) (args := ?_) hT9.out (by rfl) ?_ ?_ ?_; rotate_left 3; (focus (intro w5 hS; have r := hS.rule 0 rfl; unfold rlC at r; go_simp; constructor <;> with_reducible rfl)); (focus (intro w5 hS; (first | fail))); (try simp only [Act.put, List.setIfInBounds_toArray, List.set_cons_zero, List.set_cons_succ])))
  refine InText.nil fun w5 hS5 => ?_
  clear hT9
  clear hE
  go_wp2_with fail
  have hE := hS5
  clear hS5
  refine wp_text (S := (Env w0 (boxI b (rlC lv key vs x y z 9 W X K V C fd) :: L))) (by kernel_rfl) (by kernel_rfl) hE.drew (fun hT => ?_)
  have hT9 := Lib.hid hT
  clear hT
  repeat (first
    | (refine text_value (v := ?_) hT9.out (by rfl) ?_ ?_; rotate_left; (focus (intro w5 hS; have r := hS.rule 0 rfl; unfold rlC at r; go_simp <;> with_reducible rfl)); (try simp only [Act.put, List.setIfInBounds_toArray, List.set_cons_zero, List.set_cons_succ]))
    | (refine text_off hT9.out (by rfl) ?_; (try simp only [Act.put, List.setIfInBounds_toArray, List.set_cons_zero, List.set_cons_succ]))
    | (refine text_call (v := ?_) (f := ?_) (args := ?_) hT9.out (by rfl) ?_ ?_ ?_; rotate_left 3; (focus (intro w5 hS; have r := hS.rule 0 rfl; unfold rlC at r; go_simp; constructor <;> with_reducible rfl)); (focus (intro w5 hS; (first | fail))); (try simp only [Act.put, List.setIfInBounds_toArray, List.set_cons_zero, List.set_cons_succ])))
  refine InText.nil fun w5 hS5 => ?_
  clear hT9
  clear hE
  go_wp2_with fail
  go_ret
  exact ⟨rfl, hS5⟩

end
end Go.Proofs.YtnnjanaclgjneaaGreatDoor

/- A part of a block, at a place of it. -/
namespace Go.Proofs.YtnnjanaclgjneaaGreatDoor
open Go.RowKit Go.Maps
set_option maxRecDepth 100000

/-- What stands ahead, the part, what stands behind. -/
def wr (PP TT vs : List Value) : List Value := PP ++ (vs ++ TT)
section
variable {PP TT vs : List Value} {k0 : Nat}
theorem wr_get (h : PP.length = k0) {j : Nat} (hj : j < vs.length) : (wr PP TT vs)[k0 + j]? = vs[j]? := by
  subst h
  unfold wr
  rw [List.getElem?_append_right (by omega), Nat.add_sub_cancel_left, List.getElem?_append_left hj]
theorem wr_set (h : PP.length = k0) {j : Nat} (hj : j < vs.length) (v : Value) : (wr PP TT vs).set (k0 + j) v = wr PP TT (vs.set j v) := by
  subst h
  unfold wr
  rw [List.set_append_right _ _ (by omega), Nat.add_sub_cancel_left, List.set_append_left _ _ hj]
theorem wr_lt (h : PP.length = k0) {j : Nat} (hj : j < vs.length) : k0 + j < (wr PP TT vs).length := by
  unfold wr
  rw [List.length_append, List.length_append]
  omega
end
section
variable {w0 w : World} {L : List Item} {PP TT vs : List Value} {k0 b : Nat}
theorem Env.thawW (hE : Env w0 L w) (h : PP.length = k0) (i : Nat) (hi : L[i]? = some (boxI b (wr PP TT vs))) (j : Nat) (hj : j < vs.length) : w.frozen? ⟨b, k0 + j, none⟩ = false := hE.thaw i hi _ (wr_lt h hj)
theorem Env.putW (hE : Env w0 L w) (h : PP.length = k0) (i : Nat) (hi : L[i]? = some (boxI b (wr PP TT vs))) {j : Nat} (hj : j < vs.length) (v : Value) : Env w0 (L.set i (boxI b (wr PP TT (vs.set j v)))) (w.setCell ⟨b, k0 + j, none⟩ v) := by
  have := hE.put i hi (j := k0 + j) (wr_lt h hj) v
  rwa [wr_set h hj] at this
theorem Env.thawW0 (hE : Env w0 L w) (h : PP.length = k0) (i : Nat) (hi : L[i]? = some (boxI b (wr PP TT vs))) (hj : 0 < vs.length) : w.frozen? ⟨b, k0, none⟩ = false := hE.thawW h i hi 0 hj
theorem Env.putW0 (hE : Env w0 L w) (h : PP.length = k0) (i : Nat) (hi : L[i]? = some (boxI b (wr PP TT vs))) (hj : 0 < vs.length) (v : Value) : Env w0 (L.set i (boxI b (wr PP TT (vs.set 0 v)))) (w.setCell ⟨b, k0, none⟩ v) := hE.putW h i hi hj v
theorem rl_at {lv key : Int} {vs fd : Bool} {x y z pc W X K V C : Int} (h : PP.length = k0) (hr : ∀ j, w.cell? ⟨b, j, none⟩ = (wr PP TT (rlC lv key vs x y z pc W X K V C fd))[j]?) :
    w.cell? ⟨b, k0, none⟩ = some (.int .i64 x) ∧ w.cell? ⟨b, k0 + 1, none⟩ = some (.int .i64 y) ∧ w.cell? ⟨b, k0 + 2, none⟩ = some (.int .i64 z) ∧ w.cell? ⟨b, k0 + 3, none⟩ = some (.int .i64 lv) ∧ w.cell? ⟨b, k0 + 4, none⟩ = some (.int .u64 key) ∧ w.cell? ⟨b, k0 + 5, none⟩ = some (.bool vs) ∧ w.cell? ⟨b, k0 + 6, none⟩ = some (.int .i64 pc) ∧ w.cell? ⟨b, k0 + 7, none⟩ = some (.int .u64 W) ∧ w.cell? ⟨b, k0 + 8, none⟩ = some (.int .u64 X) ∧ w.cell? ⟨b, k0 + 9, none⟩ = some (.int .u64 K) ∧ w.cell? ⟨b, k0 + 10, none⟩ = some (.int .u64 V) ∧ w.cell? ⟨b, k0 + 11, none⟩ = some (.int .i64 C) ∧ w.cell? ⟨b, k0 + 12, none⟩ = some (.bool fd) := by
  have g : ∀ j, j < 13 → w.cell? ⟨b, k0 + j, none⟩ = (rlC lv key vs x y z pc W X K V C fd)[j]? := fun j hj => by rw [hr, wr_get h (by simpa [rlC] using hj)]
  exact ⟨g 0 (by omega), g 1 (by omega), g 2 (by omega), g 3 (by omega), g 4 (by omega), g 5 (by omega), g 6 (by omega), g 7 (by omega), g 8 (by omega), g 9 (by omega), g 10 (by omega), g 11 (by omega), g 12 (by omega)⟩
end
end Go.Proofs.YtnnjanaclgjneaaGreatDoor

/- The reference's lanes, as parts of a greater block: their small functions. -/
namespace Go.Proofs.YtnnjanaclgjneaaGreatDoor
open Go.RowKit Go.Maps
set_option maxRecDepth 100000

section
variable {PP TT : List Value} {k0 : Nat} (hpo : Hid (PP.length = k0))
include hpo
variable {uc : Uc} {w : World} {b : Nat} {lv key : Int} {vs fd : Bool} {x y z pc W X K V C : Int}

set_option maxHeartbeats 1600000 in
theorem next_ro (hlv : 0 ≤ lv ∧ lv ≤ 1000000) (hb : Blk 0 w b (wr PP TT (rlC lv key vs x y z pc W X K V C fd))) : Calls Tryz.prog 153 #[.pointer (some ⟨b, k0, none⟩)] w fun e w' => e = .returned (.agg #[.int .i64 5, .int .i64 C, .int .i64 (7 + lv)]) ∧ Below w.heap.size w w' := by
  have hal := hb.1
  have hX := hb.more (.cells [.int .i64 0, .int .i64 0, .int .i64 0].toArray 105)
  have hZ := Blk.new 0 w [.int .i64 0, .int .i64 0, .int .i64 0] 105
  have hE := (Below.refl w.heap.size w).alloc (Nat.le_refl _) (.cells [.int .i64 0, .int .i64 0, .int .i64 0].toArray 105)
  have hw7 : wrap64 (7 + lv) = 7 + lv := w64 _ (by omega)
  have hw8 : IntKind.i64.wrap (7 + lv) = 7 + lv := by rw [wrap_i]; exact hw7
  have HW := Lib.hid hw7
  clear hb hlv hw7
  go_enter Tryz.func153, Tryz.ntmps153
  go_wp2_with fail
  refine Ord.wp_chain [10] (fun w' => Below w.heap.size w w' ∧ Blk 0 w' b (wr PP TT (rlC lv key vs x y z pc W X K V C fd))) (fun j w' => Blk 0 w' w.heap.size (if j = 0 then [.int .i64 0, .int .i64 0, .int .i64 0] else [.int .i64 5, .int .i64 C, .int .i64 (7 + lv)])) (by kernel_rfl) (by kernel_rfl) (by kernel_rfl) ⟨hE.drew, hX.drew⟩ hZ.drew (fun hT => ?_)
  have hT9 := Lib.hid hT
  clear hT
  repeat (first
    | (refine Ord.ch_value (v := ?_) hT9.out (by decide) (by rfl) ?_ ?_; rotate_left; (focus (intro w5 hS; obtain ⟨rr0, rr1, rr2, rr3, rr4, rr5, rr6, rr7, rr8, rr9, rr10, rr11, rr12⟩ := rl_at hpo.out (Blk.rule hS.2); go_simp <;> with_reducible rfl)); (try simp only [Act.put, List.setIfInBounds_toArray, List.set_cons_zero, List.set_cons_succ]))
    | (refine Ord.ch_off hT9.out (by decide) (by rfl) ?_; (try simp only [Act.put, List.setIfInBounds_toArray, List.set_cons_zero, List.set_cons_succ]))
    | (refine Ord.ch_call (v := ?_) (f := ?_) (args := ?_) hT9.out (by decide) (by rfl) ?_ ?_ ?_; rotate_left 3; (focus (intro w5 hS; obtain ⟨rr0, rr1, rr2, rr3, rr4, rr5, rr6, rr7, rr8, rr9, rr10, rr11, rr12⟩ := rl_at hpo.out (Blk.rule hS.2); go_simp; constructor <;> with_reducible rfl)); (focus (intro w5 hS; (first | (with_reducible refine (cell13_any _ _ _).mono ?_; rintro o w6 ⟨rfl, hb6⟩; constructor; with_reducible rfl; exact ⟨⟨hS.1.trans (hb6.mono hS.1.size), hS.2.under hb6⟩, fun _ h => h.under hb6⟩)))); (try simp only [Act.put, List.setIfInBounds_toArray, List.set_cons_zero, List.set_cons_succ])))
  refine Ord.ch_turn (v := undef) 0 hT9.out rfl (by decide) (Or.inl rfl) (by rfl) ?_ ?_
  · rintro w5 hS hA2
    simp only [if_true] at hA2
    have r := hA2.rule
    have f0 := hA2.thaw 0 (by simp)
    have f1 := hA2.thaw 1 (by simp)
    have f2 := hA2.thaw 2 (by simp)
    have hz := hS.1.size
    go_simp
    refine ⟨rfl, ⟨?_, ?_⟩, ?_⟩
    · exact below_set (below_set (below_set hS.1 hz (by omega) _) (by simp; omega) (by omega) _) (by simp; omega) (by omega) _
    · exact ((hS.2.off (by omega) _).off (by omega) _).off (by omega) _
    · exact ((hA2.set (i := 0) (by simp) _).set (i := 1) (by simp) _).set (i := 2) (by simp) _
  (try simp only [Act.put, List.setIfInBounds_toArray, List.set_cons_zero, List.set_cons_succ])
  repeat (first
    | (refine Ord.ch_value (v := ?_) hT9.out (by decide) (by rfl) ?_ ?_; rotate_left; (focus (intro w5 hS; skip; go_simp <;> with_reducible rfl)); (try simp only [Act.put, List.setIfInBounds_toArray, List.set_cons_zero, List.set_cons_succ]))
    | (refine Ord.ch_off hT9.out (by decide) (by rfl) ?_; (try simp only [Act.put, List.setIfInBounds_toArray, List.set_cons_zero, List.set_cons_succ])))
  refine Ord.InText.nil fun w5 hS => ?_
  clear hT9
  obtain ⟨hC9, hA9⟩ := Ord.chain_end hS
  clear hS
  have q := hA9.rule
  simp only [show ¬ [10].length = 0 by decide, if_false] at q
  go_wp2
  exact bodyPost_ret (v := .agg #[.int .i64 5, .int .i64 C, .int .i64 (7 + lv)]) (by simp [results, Tryz.results153, go_sem, q]) rfl ⟨rfl, hC9.1⟩
end

section
variable {PP TT : List Value} {k0 : Nat} (hpo : Hid (PP.length = k0))
include hpo
variable {uc : Uc} {w0 w : World} {L : List Item} {b : Nat} {lv key : Int} {vs fd : Bool} {x y z pc W X K V C : Int}
set_option maxHeartbeats 1600000 in
theorem come_ro (v : Int) (hv : InU v) (hE : Env w0 (boxI b (wr PP TT (rlC lv key vs x y z pc W X K V C fd)) :: L) w) :
    Calls Tryz.prog 154 #[.pointer (some ⟨b, k0, none⟩), .int .u64 v] w fun o w' => o = .returned (.int .i64 (cS v)) ∧ Env w0 (boxI b (wr PP TT (rlC lv key vs x y z 3 v 0 K V (slotI v) fd)) :: L) w' := by
  have hs13 := fun (u : World) => slot13_any v hv u
  obtain ⟨s, hs⟩ : ∃ s, slotI v = s := ⟨_, rfl⟩
  have hcs : cS v = if s = 0 then 1 else 0 := by unfold cS; rw [hs]
  rw [hcs, hs]
  simp only [hs] at hs13
  have HS := Lib.hid hs13
  clear hs hcs hs13 hv
  obtain ⟨rr0, rr1, rr2, rr3, rr4, rr5, rr6, rr7, rr8, rr9, rr10, rr11, rr12⟩ := rl_at hpo.out (hE.rule 0 rfl)
  have f7 := hE.thawW hpo.out 0 rfl 7 (by simp [rlC])
  have f8 := hE.thawW hpo.out 0 rfl 8 (by simp [rlC])
  have hP := (hE.putW hpo.out 0 rfl (j := 7) (by simp [rlC]) (.int .u64 v)).putW hpo.out 0 rfl (j := 8) (by simp [rlC]) (.int .u64 0)
  replace hP : Env w0 (boxI b (wr PP TT (rlC lv key vs x y z pc v 0 K V C fd)) :: L) _ := hP
  go_enter Tryz.func154, Tryz.ntmps154
  go_wp2_with fail
  refine (HS.out _).mono ?_
  rintro o w1 ⟨rfl, hb⟩
  have hE1 := hP.over hb
  clear hb rr0 rr1 rr2 rr3 rr4 rr5 rr6 rr7 rr8 rr9 rr10 rr11 rr12 f7 f8 hP hE
  obtain ⟨rr0, rr1, rr2, rr3, rr4, rr5, rr6, rr7, rr8, rr9, rr10, rr11, rr12⟩ := rl_at hpo.out (hE1.rule 0 rfl)
  have f11 := hE1.thawW hpo.out 0 rfl 11 (by simp [rlC])
  have f6 := hE1.thawW hpo.out 0 rfl 6 (by simp [rlC])
  have hP := (hE1.putW hpo.out 0 rfl (j := 11) (by simp [rlC]) (.int .i64 s)).putW hpo.out 0 rfl (j := 6) (by simp [rlC]) (.int .i64 3)
  replace hP : Env w0 (boxI b (wr PP TT (rlC lv key vs x y z 3 v 0 K V s fd)) :: L) _ := hP
  by_cases h0 : s = 0
  · subst h0
    go_wp2_with fail
    go_ret
    exact ⟨rfl, hP⟩
  · have hsb : (s == 0) = false := by simpa using h0
    have H0 := Lib.hid h0
    clear h0
    go_wp2_with fail
    go_ret
    exact ⟨rfl, hP⟩
set_option maxHeartbeats 1600000 in
theorem holds2a_ro (hm : markB W = true) (hv : InU W) (hE : Env w0 (boxI b (wr PP TT (rlC lv key vs x y z 2 W X K V C fd)) :: L) w) :
    Calls Tryz.prog 156 #[.pointer (some ⟨b, k0, none⟩)] w fun o w' => o = .returned (.int .i64 2) ∧ Env w0 (boxI b (wr PP TT (rlC lv key vs x y z 2 W X K V C fd)) :: L) w' := by
  have h1 := rmarked_any W w hv
  rw [hm] at h1
  obtain ⟨rr0, rr1, rr2, rr3, rr4, rr5, rr6, rr7, rr8, rr9, rr10, rr11, rr12⟩ := rl_at hpo.out (hE.rule 0 rfl)
  clear hm hv
  go_enter Tryz.func156, Tryz.ntmps156
  go_wp2_with fail
  refine h1.mono ?_
  rintro o w1 ⟨rfl, hb⟩
  go_wp2_with fail
  go_ret
  exact ⟨rfl, hE.over hb⟩
set_option maxHeartbeats 1600000 in
theorem holds2b_ro (hm : markB W = false) (hv : InU W) (hE : Env w0 (boxI b (wr PP TT (rlC lv key vs x y z 2 W X K V C fd)) :: L) w) :
    Calls Tryz.prog 156 #[.pointer (some ⟨b, k0, none⟩)] w fun o w' => o = .returned (.int .i64 (cS W)) ∧ Env w0 (boxI b (wr PP TT (rlC lv key vs x y z 3 W 0 K V (slotI W) fd)) :: L) w' := by
  have h1 := rmarked_any W w hv
  rw [hm] at h1
  obtain ⟨rr0, rr1, rr2, rr3, rr4, rr5, rr6, rr7, rr8, rr9, rr10, rr11, rr12⟩ := rl_at hpo.out (hE.rule 0 rfl)
  have HV := Lib.hid hv
  clear hm hv
  go_enter Tryz.func156, Tryz.ntmps156
  go_wp2_with fail
  refine h1.mono ?_
  rintro o w1 ⟨rfl, hb⟩
  replace hE := hE.over hb
  clear hb rr0 rr1 rr2 rr3 rr4 rr5 rr6 rr7 rr8 rr9 rr10 rr11 rr12
  obtain ⟨rr0, rr1, rr2, rr3, rr4, rr5, rr6, rr7, rr8, rr9, rr10, rr11, rr12⟩ := rl_at hpo.out (hE.rule 0 rfl)
  go_wp2_with fail
  refine (come_ro hpo W HV.out hE).mono ?_
  rintro o w2 ⟨rfl, hE2⟩
  go_wp2_with fail
  go_ret
  exact ⟨rfl, hE2⟩
set_option maxHeartbeats 1600000 in
theorem holds4_ro (hv : InU X) (hE : Env w0 (boxI b (wr PP TT (rlC lv key vs x y z 4 W X K V C fd)) :: L) w) :
    Calls Tryz.prog 156 #[.pointer (some ⟨b, k0, none⟩)] w fun o w' => o = .returned (.int .i64 0) ∧ Env w0 (boxI b (wr PP TT (rlC lv key vs x y z (if markB X then 5 else 6) W X K V C fd)) :: L) w' := by
  obtain ⟨mk, hmk⟩ : ∃ mk, markB X = mk := ⟨_, rfl⟩
  have h1 := fun (u : World) => rmarked_any X u hv
  simp only [hmk] at h1
  rw [hmk]
  have H1 := Lib.hid h1
  obtain ⟨rr0, rr1, rr2, rr3, rr4, rr5, rr6, rr7, rr8, rr9, rr10, rr11, rr12⟩ := rl_at hpo.out (hE.rule 0 rfl)
  have f6 := hE.thawW hpo.out 0 rfl 6 (by simp [rlC])
  have hP := hE.putW hpo.out 0 rfl (j := 6) (by simp [rlC]) (.int .i64 6)
  replace hP : Env w0 (boxI b (wr PP TT (rlC lv key vs x y z 6 W X K V C fd)) :: L) _ := hP
  clear hmk hv h1
  go_enter Tryz.func156, Tryz.ntmps156
  go_wp2_with fail
  refine (H1.out _).mono ?_
  rintro o w1 ⟨rfl, hb⟩
  replace hP := hP.over hb
  clear hb rr0 rr1 rr2 rr3 rr4 rr5 rr6 rr7 rr8 rr9 rr10 rr11 rr12 f6
  cases mk
  · go_wp2_with fail
    go_ret
    exact ⟨rfl, hP⟩
  · obtain ⟨rr0, rr1, rr2, rr3, rr4, rr5, rr6, rr7, rr8, rr9, rr10, rr11, rr12⟩ := rl_at hpo.out (hP.rule 0 rfl)
    have f6 := hP.thawW hpo.out 0 rfl 6 (by simp [rlC])
    have hQ := hP.putW hpo.out 0 rfl (j := 6) (by simp [rlC]) (.int .i64 5)
    go_wp2_with fail
    go_ret
    exact ⟨rfl, hQ⟩
set_option maxHeartbeats 1600000 in
theorem holds7a_ro (hk : K < key) (hlv : 0 ≤ lv ∧ lv ≤ 1000000) (hv : InU X) (hE : Env w0 (boxI b (wr PP TT (rlC lv key vs x y z 7 W X K V C fd)) :: L) w) :
    Calls Tryz.prog 156 #[.pointer (some ⟨b, k0, none⟩)] w fun o w' => o = .returned (.int .i64 (cS X)) ∧ Env w0 (boxI b (wr PP TT (rlC lv key vs 5 C (7 + lv) 3 X 0 K V (slotI X) fd)) :: L) w' := by
  have hkb : decide (K < key) = true := by simpa using hk
  obtain ⟨rr0, rr1, rr2, rr3, rr4, rr5, rr6, rr7, rr8, rr9, rr10, rr11, rr12⟩ := rl_at hpo.out (hE.rule 0 rfl)
  have HV := Lib.hid hv
  clear hv hk
  go_enter Tryz.func156, Tryz.ntmps156
  go_wp2_with fail
  clear rr0 rr1 rr2 rr3 rr4 rr5 rr6 rr7 rr8 rr9 rr10 rr11 rr12
  refine wp_text (S := (Env w0 (boxI b (wr PP TT (rlC lv key vs x y z 7 W X K V C fd)) :: L))) (by kernel_rfl) (by kernel_rfl) hE.drew (fun hT => ?_)
  have hT9 := Lib.hid hT
  clear hT
  repeat (first
    | (refine text_value (v := ?_) hT9.out (by rfl) ?_ ?_; rotate_left; (focus (intro w5 hS; obtain ⟨rr0, rr1, rr2, rr3, rr4, rr5, rr6, rr7, rr8, rr9, rr10, rr11, rr12⟩ := rl_at hpo.out (hS.rule 0 rfl); go_simp <;> with_reducible rfl)); (try simp only [Act.put, List.setIfInBounds_toArray, List.set_cons_zero, List.set_cons_succ]))
    | (refine text_off hT9.out (by rfl) ?_; (try simp only [Act.put, List.setIfInBounds_toArray, List.set_cons_zero, List.set_cons_succ]))
    | (refine text_call (v := ?_) (f := ?_) (args := ?_) hT9.out (by rfl) ?_ ?_ ?_; rotate_left 3; (focus (intro w5 hS; obtain ⟨rr0, rr1, rr2, rr3, rr4, rr5, rr6, rr7, rr8, rr9, rr10, rr11, rr12⟩ := rl_at hpo.out (hS.rule 0 rfl); go_simp; constructor <;> with_reducible rfl)); (focus (intro w5 hS; (first | fail))); (try simp only [Act.put, List.setIfInBounds_toArray, List.set_cons_zero, List.set_cons_succ])))
  refine InText.nil fun w5 hS5 => ?_
  clear hT9
  clear hE
  go_wp2_with fail
  refine (next_ro hpo hlv (hS5.get 0 rfl)).mono ?_
  rintro o w6 ⟨rfl, hb⟩
  have hE := hS5.over hb
  clear hS5 hb
  obtain ⟨rr0, rr1, rr2, rr3, rr4, rr5, rr6, rr7, rr8, rr9, rr10, rr11, rr12⟩ := rl_at hpo.out (hE.rule 0 rfl)
  have g0 := hE.thawW0 hpo.out 0 rfl (by simp [rlC])
  have g1 := hE.thawW hpo.out 0 rfl 1 (by simp [rlC])
  have g2 := hE.thawW hpo.out 0 rfl 2 (by simp [rlC])
  have hP := ((hE.putW0 hpo.out 0 rfl (by simp [rlC]) (.int .i64 5)).putW hpo.out 0 rfl (j := 1) (by simp [rlC]) (.int .i64 C)).putW hpo.out 0 rfl (j := 2) (by simp [rlC]) (.int .i64 (7 + lv))
  replace hP : Env w0 (boxI b (wr PP TT (rlC lv key vs 5 C (7 + lv) 7 W X K V C fd)) :: L) _ := hP
  obtain ⟨rs0, rs1, rs2, rs3, rs4, rs5, rs6, rs7, rs8, rs9, rs10, rs11, rs12⟩ := rl_at hpo.out (hP.rule 0 rfl)
  go_wp2_with fail
  refine (come_ro hpo X HV.out hP).mono ?_
  rintro o w2 ⟨rfl, hE2⟩
  go_wp2_with fail
  go_ret
  exact ⟨rfl, hE2⟩

set_option maxHeartbeats 1600000 in
theorem holds7b_ro (hk : K = key) (hE : Env w0 (boxI b (wr PP TT (rlC lv key false x y z 7 W X K V C fd)) :: L) w) :
    Calls Tryz.prog 156 #[.pointer (some ⟨b, k0, none⟩)] w fun o w' => o = .returned (.int .i64 1) ∧ Env w0 (boxI b (wr PP TT (rlC lv key false x y z 7 W X K V C true)) :: L) w' := by
  have hkb : decide (K < key) = false := by simp; omega
  have hkq : (K == key) = true := by simpa using hk
  clear hk
  obtain ⟨rr0, rr1, rr2, rr3, rr4, rr5, rr6, rr7, rr8, rr9, rr10, rr11, rr12⟩ := rl_at hpo.out (hE.rule 0 rfl)
  go_enter Tryz.func156, Tryz.ntmps156
  go_wp2_with fail
  clear rr0 rr1 rr2 rr3 rr4 rr5 rr6 rr7 rr8 rr9 rr10 rr11 rr12
  refine wp_text (S := (Env w0 (boxI b (wr PP TT (rlC lv key false x y z 7 W X K V C fd)) :: L))) (by kernel_rfl) (by kernel_rfl) hE.drew (fun hT => ?_)
  have hT9 := Lib.hid hT
  clear hT
  repeat (first
    | (refine text_value (v := ?_) hT9.out (by rfl) ?_ ?_; rotate_left; (focus (intro w5 hS; obtain ⟨rr0, rr1, rr2, rr3, rr4, rr5, rr6, rr7, rr8, rr9, rr10, rr11, rr12⟩ := rl_at hpo.out (hS.rule 0 rfl); go_simp <;> with_reducible rfl)); (try simp only [Act.put, List.setIfInBounds_toArray, List.set_cons_zero, List.set_cons_succ]))
    | (refine text_off hT9.out (by rfl) ?_; (try simp only [Act.put, List.setIfInBounds_toArray, List.set_cons_zero, List.set_cons_succ]))
    | (refine text_call (v := ?_) (f := ?_) (args := ?_) hT9.out (by rfl) ?_ ?_ ?_; rotate_left 3; (focus (intro w5 hS; obtain ⟨rr0, rr1, rr2, rr3, rr4, rr5, rr6, rr7, rr8, rr9, rr10, rr11, rr12⟩ := rl_at hpo.out (hS.rule 0 rfl); go_simp; constructor <;> with_reducible rfl)); (focus (intro w5 hS; (first | fail))); (try simp only [Act.put, List.setIfInBounds_toArray, List.set_cons_zero, List.set_cons_succ])))
  refine InText.nil fun w5 hS5 => ?_
  clear hT9
  clear hE
  go_wp2_with fail
  have hE := hS5
  clear hS5
  refine wp_text (S := (Env w0 (boxI b (wr PP TT (rlC lv key false x y z 7 W X K V C fd)) :: L))) (by kernel_rfl) (by kernel_rfl) hE.drew (fun hT => ?_)
  have hT9 := Lib.hid hT
  clear hT
  repeat (first
    | (refine text_value (v := ?_) hT9.out (by rfl) ?_ ?_; rotate_left; (focus (intro w5 hS; obtain ⟨rr0, rr1, rr2, rr3, rr4, rr5, rr6, rr7, rr8, rr9, rr10, rr11, rr12⟩ := rl_at hpo.out (hS.rule 0 rfl); go_simp <;> with_reducible rfl)); (try simp only [Act.put, List.setIfInBounds_toArray, List.set_cons_zero, List.set_cons_succ]))
    | (refine text_off hT9.out (by rfl) ?_; (try simp only [Act.put, List.setIfInBounds_toArray, List.set_cons_zero, List.set_cons_succ]))
    | (refine text_call (v := ?_) (f := ?_) (args := ?_) hT9.out (by rfl) ?_ ?_ ?_; rotate_left 3; (focus (intro w5 hS; obtain ⟨rr0, rr1, rr2, rr3, rr4, rr5, rr6, rr7, rr8, rr9, rr10, rr11, rr12⟩ := rl_at hpo.out (hS.rule 0 rfl); go_simp; constructor <;> with_reducible rfl)); (focus (intro w5 hS; (first | fail))); (try simp only [Act.put, List.setIfInBounds_toArray, List.set_cons_zero, List.set_cons_succ])))
  refine InText.nil fun w5 hS5 => ?_
  clear hT9
  clear hE
  obtain ⟨rr0, rr1, rr2, rr3, rr4, rr5, rr6, rr7, rr8, rr9, rr10, rr11, rr12⟩ := rl_at hpo.out (hS5.rule 0 rfl)
  have f12 := hS5.thawW hpo.out 0 rfl 12 (by simp [rlC])
  have hP := hS5.putW hpo.out 0 rfl (j := 12) (by simp [rlC]) (.bool true)
  replace hP : Env w0 (boxI b (wr PP TT (rlC lv key false x y z 7 W X K V C true)) :: L) _ := hP
  go_wp2_with fail
  go_ret
  exact ⟨rfl, hP⟩

set_option maxHeartbeats 1600000 in
theorem holds7c_ro (hk : K = key) (hE : Env w0 (boxI b (wr PP TT (rlC lv key true x y z 7 W X K V C fd)) :: L) w) :
    Calls Tryz.prog 156 #[.pointer (some ⟨b, k0, none⟩)] w fun o w' => o = .returned (.int .i64 0) ∧ Env w0 (boxI b (wr PP TT (rlC lv key true x y z 8 W X K V C true)) :: L) w' := by
  have hkb : decide (K < key) = false := by simp; omega
  have hkq : (K == key) = true := by simpa using hk
  clear hk
  obtain ⟨rr0, rr1, rr2, rr3, rr4, rr5, rr6, rr7, rr8, rr9, rr10, rr11, rr12⟩ := rl_at hpo.out (hE.rule 0 rfl)
  go_enter Tryz.func156, Tryz.ntmps156
  go_wp2_with fail
  clear rr0 rr1 rr2 rr3 rr4 rr5 rr6 rr7 rr8 rr9 rr10 rr11 rr12
  refine wp_text (S := (Env w0 (boxI b (wr PP TT (rlC lv key true x y z 7 W X K V C fd)) :: L))) (by kernel_rfl) (by kernel_rfl) hE.drew (fun hT => ?_)
  have hT9 := Lib.hid hT
  clear hT
  repeat (first
    | (refine text_value (v := ?_) hT9.out (by rfl) ?_ ?_; rotate_left; (focus (intro w5 hS; obtain ⟨rr0, rr1, rr2, rr3, rr4, rr5, rr6, rr7, rr8, rr9, rr10, rr11, rr12⟩ := rl_at hpo.out (hS.rule 0 rfl); go_simp <;> with_reducible rfl)); (try simp only [Act.put, List.setIfInBounds_toArray, List.set_cons_zero, List.set_cons_succ]))
    | (refine text_off hT9.out (by rfl) ?_; (try simp only [Act.put, List.setIfInBounds_toArray, List.set_cons_zero, List.set_cons_succ]))
    | (refine text_call (v := ?_) (f := ?_) (args := ?_) hT9.out (by rfl) ?_ ?_ ?_; rotate_left 3; (focus (intro w5 hS; obtain ⟨rr0, rr1, rr2, rr3, rr4, rr5, rr6, rr7, rr8, rr9, rr10, rr11, rr12⟩ := rl_at hpo.out (hS.rule 0 rfl); go_simp; constructor <;> with_reducible rfl)); (focus (intro w5 hS; (first | fail))); (try simp only [Act.put, List.setIfInBounds_toArray, List.set_cons_zero, List.set_cons_succ])))
  refine InText.nil fun w5 hS5 => ?_
  clear hT9
  clear hE
  go_wp2_with fail
  have hE := hS5
  clear hS5
  refine wp_text (S := (Env w0 (boxI b (wr PP TT (rlC lv key true x y z 7 W X K V C fd)) :: L))) (by kernel_rfl) (by kernel_rfl) hE.drew (fun hT => ?_)
  have hT9 := Lib.hid hT
  clear hT
  repeat (first
    | (refine text_value (v := ?_) hT9.out (by rfl) ?_ ?_; rotate_left; (focus (intro w5 hS; obtain ⟨rr0, rr1, rr2, rr3, rr4, rr5, rr6, rr7, rr8, rr9, rr10, rr11, rr12⟩ := rl_at hpo.out (hS.rule 0 rfl); go_simp <;> with_reducible rfl)); (try simp only [Act.put, List.setIfInBounds_toArray, List.set_cons_zero, List.set_cons_succ]))
    | (refine text_off hT9.out (by rfl) ?_; (try simp only [Act.put, List.setIfInBounds_toArray, List.set_cons_zero, List.set_cons_succ]))
    | (refine text_call (v := ?_) (f := ?_) (args := ?_) hT9.out (by rfl) ?_ ?_ ?_; rotate_left 3; (focus (intro w5 hS; obtain ⟨rr0, rr1, rr2, rr3, rr4, rr5, rr6, rr7, rr8, rr9, rr10, rr11, rr12⟩ := rl_at hpo.out (hS.rule 0 rfl); go_simp; constructor <;> with_reducible rfl)); (focus (intro w5 hS; (first | fail))); (try simp only [Act.put, List.setIfInBounds_toArray, List.set_cons_zero, List.set_cons_succ])))
  refine InText.nil fun w5 hS5 => ?_
  clear hT9
  clear hE
  obtain ⟨rr0, rr1, rr2, rr3, rr4, rr5, rr6, rr7, rr8, rr9, rr10, rr11, rr12⟩ := rl_at hpo.out (hS5.rule 0 rfl)
  have f12 := hS5.thawW hpo.out 0 rfl 12 (by simp [rlC])
  have hP := hS5.putW hpo.out 0 rfl (j := 12) (by simp [rlC]) (.bool true)
  replace hP : Env w0 (boxI b (wr PP TT (rlC lv key true x y z 7 W X K V C true)) :: L) _ := hP
  have f6 := hS5.thawW hpo.out 0 rfl 6 (by simp [rlC])
  have hQ := hP.putW hpo.out 0 rfl (j := 6) (by simp [rlC]) (.int .i64 8)
  go_wp2_with fail
  go_ret
  exact ⟨rfl, hQ⟩

set_option maxHeartbeats 1600000 in
theorem holds7d_ro (hk : key < K) (hE : Env w0 (boxI b (wr PP TT (rlC lv key vs x y z 7 W X K V C fd)) :: L) w) :
    Calls Tryz.prog 156 #[.pointer (some ⟨b, k0, none⟩)] w fun o w' => o = .returned (.int .i64 1) ∧ Env w0 (boxI b (wr PP TT (rlC lv key vs x y z 7 W X K V C fd)) :: L) w' := by
  have hkb : decide (K < key) = false := by simp; omega
  have hkq : (K == key) = false := by simp; omega
  clear hk
  obtain ⟨rr0, rr1, rr2, rr3, rr4, rr5, rr6, rr7, rr8, rr9, rr10, rr11, rr12⟩ := rl_at hpo.out (hE.rule 0 rfl)
  go_enter Tryz.func156, Tryz.ntmps156
  go_wp2_with fail
  clear rr0 rr1 rr2 rr3 rr4 rr5 rr6 rr7 rr8 rr9 rr10 rr11 rr12
  refine wp_text (S := (Env w0 (boxI b (wr PP TT (rlC lv key vs x y z 7 W X K V C fd)) :: L))) (by kernel_rfl) (by kernel_rfl) hE.drew (fun hT => ?_)
  have hT9 := Lib.hid hT
  clear hT
  repeat (first
    | (refine text_value (v := ?_) hT9.out (by rfl) ?_ ?_; rotate_left; (focus (intro w5 hS; obtain ⟨rr0, rr1, rr2, rr3, rr4, rr5, rr6, rr7, rr8, rr9, rr10, rr11, rr12⟩ := rl_at hpo.out (hS.rule 0 rfl); go_simp <;> with_reducible rfl)); (try simp only [Act.put, List.setIfInBounds_toArray, List.set_cons_zero, List.set_cons_succ]))
    | (refine text_off hT9.out (by rfl) ?_; (try simp only [Act.put, List.setIfInBounds_toArray, List.set_cons_zero, List.set_cons_succ]))
    | (refine text_call (v := ?_) (f := ?_) (args := ?_) hT9.out (by rfl) ?_ ?_ ?_; rotate_left 3; (focus (intro w5 hS; obtain ⟨rr0, rr1, rr2, rr3, rr4, rr5, rr6, rr7, rr8, rr9, rr10, rr11, rr12⟩ := rl_at hpo.out (hS.rule 0 rfl); go_simp; constructor <;> with_reducible rfl)); (focus (intro w5 hS; (first | fail))); (try simp only [Act.put, List.setIfInBounds_toArray, List.set_cons_zero, List.set_cons_succ])))
  refine InText.nil fun w5 hS5 => ?_
  clear hT9
  clear hE
  go_wp2_with fail
  have hE := hS5
  clear hS5
  refine wp_text (S := (Env w0 (boxI b (wr PP TT (rlC lv key vs x y z 7 W X K V C fd)) :: L))) (by kernel_rfl) (by kernel_rfl) hE.drew (fun hT => ?_)
  have hT9 := Lib.hid hT
  clear hT
  repeat (first
    | (refine text_value (v := ?_) hT9.out (by rfl) ?_ ?_; rotate_left; (focus (intro w5 hS; obtain ⟨rr0, rr1, rr2, rr3, rr4, rr5, rr6, rr7, rr8, rr9, rr10, rr11, rr12⟩ := rl_at hpo.out (hS.rule 0 rfl); go_simp <;> with_reducible rfl)); (try simp only [Act.put, List.setIfInBounds_toArray, List.set_cons_zero, List.set_cons_succ]))
    | (refine text_off hT9.out (by rfl) ?_; (try simp only [Act.put, List.setIfInBounds_toArray, List.set_cons_zero, List.set_cons_succ]))
    | (refine text_call (v := ?_) (f := ?_) (args := ?_) hT9.out (by rfl) ?_ ?_ ?_; rotate_left 3; (focus (intro w5 hS; obtain ⟨rr0, rr1, rr2, rr3, rr4, rr5, rr6, rr7, rr8, rr9, rr10, rr11, rr12⟩ := rl_at hpo.out (hS.rule 0 rfl); go_simp; constructor <;> with_reducible rfl)); (focus (intro w5 hS; (first | fail))); (try simp only [Act.put, List.setIfInBounds_toArray, List.set_cons_zero, List.set_cons_succ])))
  refine InText.nil fun w5 hS5 => ?_
  clear hT9
  clear hE
  go_wp2_with fail
  go_ret
  exact ⟨rfl, hS5⟩

set_option maxHeartbeats 1600000 in
theorem holds9_ro (hE : Env w0 (boxI b (wr PP TT (rlC lv key vs x y z 9 W X K V C fd)) :: L) w) :
    Calls Tryz.prog 156 #[.pointer (some ⟨b, k0, none⟩)] w fun o w' => o = .returned (.int .i64 1) ∧ Env w0 (boxI b (wr PP TT (rlC lv key vs x y z 9 W X K V C fd)) :: L) w' := by
  obtain ⟨rr0, rr1, rr2, rr3, rr4, rr5, rr6, rr7, rr8, rr9, rr10, rr11, rr12⟩ := rl_at hpo.out (hE.rule 0 rfl)
  go_enter Tryz.func156, Tryz.ntmps156
  go_wp2_with fail
  clear rr0 rr1 rr2 rr3 rr4 rr5 rr6 rr7 rr8 rr9 rr10 rr11 rr12
  refine wp_text (S := (Env w0 (boxI b (wr PP TT (rlC lv key vs x y z 9 W X K V C fd)) :: L))) (by kernel_rfl) (by kernel_rfl) hE.drew (fun hT => ?_)
  have hT9 := Lib.hid hT
  clear hT
  repeat (first
    | (refine text_value (v := ?_) hT9.out (by rfl) ?_ ?_; rotate_left; (focus (intro w5 hS; obtain ⟨rr0, rr1, rr2, rr3, rr4, rr5, rr6, rr7, rr8, rr9, rr10, rr11, rr12⟩ := rl_at hpo.out (hS.rule 0 rfl); go_simp <;> with_reducible rfl)); (try simp only [Act.put, List.setIfInBounds_toArray, List.set_cons_zero, List.set_cons_succ]))
    | (refine text_off hT9.out (by rfl) ?_; (try simp only [Act.put, List.setIfInBounds_toArray, List.set_cons_zero, List.set_cons_succ]))
    | (refine text_call (v := ?_) (f := ?_) (args := ?_) hT9.out (by rfl) ?_ ?_ ?_; rotate_left 3; (focus (intro w5 hS; obtain ⟨rr0, rr1, rr2, rr3, rr4, rr5, rr6, rr7, rr8, rr9, rr10, rr11, rr12⟩ := rl_at hpo.out (hS.rule 0 rfl); go_simp; constructor <;> with_reducible rfl)); (focus (intro w5 hS; (first | fail))); (try simp only [Act.put, List.setIfInBounds_toArray, List.set_cons_zero, List.set_cons_succ])))
  refine InText.nil fun w5 hS5 => ?_
  clear hT9
  clear hE
  go_wp2_with fail
  have hE := hS5
  clear hS5
  refine wp_text (S := (Env w0 (boxI b (wr PP TT (rlC lv key vs x y z 9 W X K V C fd)) :: L))) (by kernel_rfl) (by kernel_rfl) hE.drew (fun hT => ?_)
  have hT9 := Lib.hid hT
  clear hT
  repeat (first
    | (refine text_value (v := ?_) hT9.out (by rfl) ?_ ?_; rotate_left; (focus (intro w5 hS; obtain ⟨rr0, rr1, rr2, rr3, rr4, rr5, rr6, rr7, rr8, rr9, rr10, rr11, rr12⟩ := rl_at hpo.out (hS.rule 0 rfl); go_simp <;> with_reducible rfl)); (try simp only [Act.put, List.setIfInBounds_toArray, List.set_cons_zero, List.set_cons_succ]))
    | (refine text_off hT9.out (by rfl) ?_; (try simp only [Act.put, List.setIfInBounds_toArray, List.set_cons_zero, List.set_cons_succ]))
    | (refine text_call (v := ?_) (f := ?_) (args := ?_) hT9.out (by rfl) ?_ ?_ ?_; rotate_left 3; (focus (intro w5 hS; obtain ⟨rr0, rr1, rr2, rr3, rr4, rr5, rr6, rr7, rr8, rr9, rr10, rr11, rr12⟩ := rl_at hpo.out (hS.rule 0 rfl); go_simp; constructor <;> with_reducible rfl)); (focus (intro w5 hS; (first | fail))); (try simp only [Act.put, List.setIfInBounds_toArray, List.set_cons_zero, List.set_cons_succ])))
  refine InText.nil fun w5 hS5 => ?_
  clear hT9
  clear hE
  go_wp2_with fail
  go_ret
  exact ⟨rfl, hS5⟩

end
end Go.Proofs.YtnnjanaclgjneaaGreatDoor
