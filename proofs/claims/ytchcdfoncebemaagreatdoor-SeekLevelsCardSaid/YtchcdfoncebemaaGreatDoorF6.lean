/- What is proved on the way to the statement, part 6 of 9: contracts of the functions, among other things in memory. -/
import Derived.Test.YtchcdfoncebemaaGreatDoorF5
import Derived.Shelf.SlSortCmp.Insertion
import Derived.Sort.Statements

/- The reference's thread: contracts. -/
namespace Go.Proofs.YtchcdfoncebemaaGreatDoor
open Go.RowKit Go.Maps
set_option maxRecDepth 100000

theorem ok_wrap {x e : Int} (hx : InU x) (h0 : 0 ≤ e) (h1 : e ≤ 9223372036854775807) : (x == IntKind.u64.wrap e) = okB x e := by
  unfold InU at hx
  have hw : IntKind.u64.wrap e = e := by rw [IntKind.wrap_u64]; omega
  rw [hw]
  unfold okB epB epI
  by_cases h : x ≤ 9223372036854775807
  · simp [h]
  · simp [h]; omega
section
variable {w0 w : World} {L : List Item} {u m n c : Nat} {F : Nat → Prop} {ml : List OneR} {A : Option Addr} {k s b h l e N hs r : Int}
set_option maxHeartbeats 1600000 in
theorem rvalid_w (x : Int) (hmx : getL ml (1, 0, 0) = x) (hx : InU x) (h0 : 0 ≤ e) (h1 : e ≤ 9223372036854775807) (hml : ml.length ≤ 1000000) (i j : Nat) (hE : Env w0 L w) (hi : L[i]? = some (boxI u (urv k s b h l e A n c N hs r))) (hj : L[j]? = some (refI m F ml)) :
    Calls Tryz.prog 65 #[.pointer (some ⟨u, 0, none⟩), .pointer (some ⟨m, 0, none⟩)] w fun o w' => o = .returned (.bool (okB x e)) ∧ Env w0 (L.set i (boxI u (urv k s b h l e A n c N hs (if okB x e then r else wrap64 (r + 1))))) w' := by
  have hok := ok_wrap hx h0 h1
  have hsame : ∀ w', Env w0 L w' → Env w0 (L.set i (boxI u (urv k s b h l e A n c N hs r))) w' := fun w' h => by
    rw [set_same hi]; exact h
  have HS := Lib.hid hsame
  clear hsame hx
  generalize hR : (if okB x e then r else wrap64 (r + 1)) = R
  generalize okB x e = B at *
  have HR := Lib.hid hR
  have HCB : Hid (∀ v, Env w0 L v → ∀ z, v.cell? ⟨u, z, none⟩ = (urv k s b h l e A n c N hs r)[z]?) := Lib.hid fun v hv => hv.rule i hi
  unfold urv at HCB
  have HGC : Hid (∀ v, Env w0 L v → Calls Tryz.prog 50 #[.pointer (some ⟨m, 0, none⟩), .agg #[.int .i64 1, .int .i64 0, .int .i64 0]] v fun o w' => o = .returned (.int .u64 x) ∧ Below v.heap.size v w') := Lib.hid fun v hv => by
    have := refGet_any 1 0 0 hml (hv.ref j hj)
    rw [hmx] at this
    exact this
  have HOK := Lib.hid hok
  clear hR hok hmx
  go_enter Tryz.func65, Tryz.ntmps65
  go_wp2_with fail
  have hok := HOK.out
  refine wp_text (S := (Env w0 L)) (by kernel_rfl) (by kernel_rfl) hE.drew (fun hT => ?_)
  have hT9 := Lib.hid hT
  clear hT
  repeat (first
    | (refine text_value (v := ?_) hT9.out (by rfl) ?_ ?_; rotate_left; (focus (intro w5 hS; have r1 := HCB.out _ hS; go_simp <;> with_reducible rfl)); (try simp only [Act.put, List.setIfInBounds_toArray, List.set_cons_zero, List.set_cons_succ]))
    | (refine text_off hT9.out (by rfl) ?_; (try simp only [Act.put, List.setIfInBounds_toArray, List.set_cons_zero, List.set_cons_succ]))
    | (refine text_call (v := ?_) (f := ?_) (args := ?_) hT9.out (by rfl) ?_ ?_ ?_; rotate_left 3; (focus (intro w5 hS; have r1 := HCB.out _ hS; go_simp; constructor <;> with_reducible rfl)); (focus (intro w5 hS; (first | (with_reducible refine (epoch13_any _).mono ?_; rintro o w6 ⟨rfl, hb5⟩; constructor; with_reducible rfl; exact hS.over hb5) | (with_reducible refine (HGC.out _ hS).mono ?_; rintro o w6 ⟨rfl, hb5⟩; constructor; with_reducible rfl; exact hS.over hb5)))); (try simp only [Act.put, List.setIfInBounds_toArray, List.set_cons_zero, List.set_cons_succ])))
  refine InText.nil fun w5 hS5 => ?_
  clear hT9
  clear hE
  have HE := Lib.hid hS5
  clear hS5
  cases B
  · have HR2 := HR.out
    simp only [Bool.false_eq_true, if_false] at HR2
    subst HR2
    have hE := HE.out
    have r1 := HCB.out _ hE
    have ff := hE.thaw i hi
    have f9 := ff 9 (by simp [urv])
    clear ff HOK HR
    go_wp2_with fail
    go_ret
    exact ⟨rfl, hE.put i hi (j := 9) (by simp [urv]) (.int .i64 (wrap64 (r + 1)))⟩
  · have HR2 := HR.out
    simp only [if_true] at HR2
    subst HR2
    clear HOK
    go_wp2_with fail
    go_ret
    exact ⟨rfl, HS.out _ HE.out⟩
end
end Go.Proofs.YtchcdfoncebemaaGreatDoor

/- The reference's Cell, Slot. -/
namespace Go.Proofs.YtchcdfoncebemaaGreatDoor
open Go.RowKit Go.Maps
set_option maxRecDepth 100000

set_option maxHeartbeats 400000 in
theorem cell13_any (y z : Int) (w : World) : Calls Tryz.prog 47 #[.int .i64 y, .int .i64 z] w fun e w' => e = .returned (.agg #[.int .i64 5, .int .i64 y, .int .i64 z]) ∧ Below w.heap.size w w' := by
  go_enter Tryz.func47, Tryz.ntmps47
  go_wp2
  exact bodyPost_ret (v := .agg #[.int .i64 5, .int .i64 y, .int .i64 z]) (by simp [results, Tryz.results47, go_sem]) rfl ⟨rfl, (Below.refl _ _).alloc (Nat.le_refl _) _⟩
end Go.Proofs.YtchcdfoncebemaaGreatDoor

/- The reference's Cell, Slot. -/
namespace Go.Proofs.YtchcdfoncebemaaGreatDoor
open Go.RowKit Go.Maps
set_option maxRecDepth 100000

theorem rslot_of (v : World) (m : Bool) (s b : Int) : (Instr.field 131 (.agg #[.bool m, .int .i64 s, .int .i64 b]) 1).run Tryz.prog v = .ok (.int .i64 s) v := by kernel_rfl
theorem slot13_any (x : Int) (hx : InU x) (w : World) : Calls Tryz.prog 62 #[.int .u64 x] w fun e w' => e = .returned (.int .i64 (slotI x)) ∧ Below w.heap.size w w' := by
  have h := rslot_of
  have hr := refOf_any x w hx.1 hx.2
  obtain ⟨s, hs⟩ : ∃ s, slotI x = s := ⟨_, rfl⟩
  rw [hs] at hr ⊢
  have HR := Lib.hid hr
  clear hx hr hs
  go_enter Tryz.func62, Tryz.ntmps62
  go_wp2_with fail
  refine HR.out.mono ?_
  rintro e w1 ⟨rfl, hb⟩
  go_wp2_with fail
  go_ret
  exact ⟨rfl, hb⟩
end Go.Proofs.YtchcdfoncebemaaGreatDoor

/- The reference's words in a row: Swap, Less. -/

namespace Go.Proofs.YtchcdfoncebemaaGreatDoor
open Go.RowKit Go.Maps
set_option maxRecDepth 100000

def swL (l : List OneR) (x : Plc) (o v : Int) : List OneR := if getL l x = o then setL l x v else l
set_option maxHeartbeats 1600000 in
theorem refSwap_any {u : Nat} {F : Nat → Prop} {l : List OneR} {w : World} (a b d o v : Int) (hl : l.length ≤ 1000000) (hU : IsU w u F l) :
    Calls Tryz.prog 63 #[.pointer (some ⟨u, 0, none⟩), .agg #[.int .i64 a, .int .i64 b, .int .i64 d], .int .u64 o, .int .u64 v] w fun e w' => e = .returned (.bool (decide (getL l (a, b, d) = o))) ∧ ∃ F', IsU w' u F' (swL l (a, b, d) o v) ∧ Step F F' w w' := by
  have hE := (Fr.start w).push w.heap.size rfl [.int .i64 a, .int .i64 b, .int .i64 d] 58
  have r := hE.rule 0 rfl
  have HU := Lib.hid hU
  go_enter Tryz.func63, Tryz.ntmps63
  go_wp2_with fail
  refine (refGet_any a b d hl (HU.out.over hE.below)).mono ?_
  rintro e w1 ⟨rfl, hb⟩
  replace hE := hE.over hb
  have hb0 := hE.below
  clear hb r
  by_cases hg : getL l (a, b, d) = o
  · have r := hE.rule 0 rfl
    have hg' : decide (getL l (a, b, d) = o) = true := by simp [hg]
    go_wp2_with fail
    refine (refSet_any a b d v hl (HU.out.over hb0)).mono ?_
    rintro e w2 ⟨rfl, F', hU2, hs⟩
    go_wp2
    go_ret
    exact ⟨by rw [hg']; rfl, F', by rw [swL, if_pos hg]; exact hU2, (Step.of_below F hb0).trans hs⟩
  · have r := hE.rule 0 rfl
    have hg' : decide (getL l (a, b, d) = o) = false := by simp [hg]
    go_wp2_with fail
    go_ret
    exact ⟨by rw [hg']; rfl, F, by rw [swL, if_neg hg]; exact HU.out.over hb0, Step.of_below F hb0⟩

end Go.Proofs.YtchcdfoncebemaaGreatDoor

/- The order of places; the library's sort at it. -/
namespace Go.Proofs.YtchcdfoncebemaaGreatDoor
open Go.RowKit Go.Maps Go.Shelf Go.Sort
set_option maxRecDepth 100000

/-- How two places stand. -/
def orI (a b c : Int) : Int := if a ≠ 0 then a else if b ≠ 0 then b else c
def cmpP (x y : Plc) : Int := orI (Lib.compareInt x.1 y.1) (Lib.compareInt x.2.1 y.2.1) (Lib.compareInt x.2.2 y.2.2)
theorem cmp_neg (a b : Int) : Lib.compareInt a b < 0 ↔ a < b := by unfold Lib.compareInt; split <;> (try split) <;> omega
theorem cmp_zero (a b : Int) : Lib.compareInt a b = 0 ↔ a = b := by unfold Lib.compareInt; split <;> (try split) <;> omega
theorem ltP (x y : Plc) : ltOf cmpP x y = true ↔ x.1 < y.1 ∨ (x.1 = y.1 ∧ (x.2.1 < y.2.1 ∨ (x.2.1 = y.2.1 ∧ x.2.2 < y.2.2))) := by
  have h1 := cmp_neg x.1 y.1
  have h2 := cmp_neg x.2.1 y.2.1
  have h3 := cmp_neg x.2.2 y.2.2
  have z1 := cmp_zero x.1 y.1
  have z2 := cmp_zero x.2.1 y.2.1
  have e : ltOf cmpP x y = true ↔ cmpP x y < 0 := by simp [ltOf]
  rw [e]
  unfold cmpP orI
  split
  · rename_i h; rw [h1]; rw [ne_eq, z1] at h; omega
  · rename_i h
    have h := z1.1 (by simpa using h)
    split
    · rename_i k; rw [h2]; rw [ne_eq, z2] at k; omega
    · rename_i k
      have k := z2.1 (by simpa using k)
      rw [h3]; omega
theorem ltP_false (x y : Plc) : ltOf cmpP x y = false ↔ ¬ (x.1 < y.1 ∨ (x.1 = y.1 ∧ (x.2.1 < y.2.1 ∨ (x.2.1 = y.2.1 ∧ x.2.2 < y.2.2)))) := by rw [← ltP, Bool.not_eq_true]
theorem swoP : SWO (ltOf cmpP) where
  irrefl x := by rw [ltP_false]; omega
  trans x y z h1 h2 := by rw [ltP] at *; omega
  ntrans x y z h1 h2 := by rw [ltP_false] at *; omega
theorem totP (x y : Plc) (h1 : ltOf cmpP x y = false) (h2 : ltOf cmpP y x = false) : x = y := by
  rw [ltP_false] at *
  obtain ⟨a, b, c⟩ := x
  obtain ⟨a', b', c'⟩ := y
  simp only [Prod.mk.injEq]
  simp only at h1 h2
  omega

/-- A place's cells. -/
def encP (x : Plc) : List Value := [.int .i64 x.1, .int .i64 x.2.1, .int .i64 x.2.2]
end Go.Proofs.YtchcdfoncebemaaGreatDoor

/- The keys of a map of words, collected: each once, in whatever order; then sorted: Places. -/
namespace Go.Proofs.YtchcdfoncebemaaGreatDoor
open Go.RowKit Go.Maps Go.Shelf Go.Sort
set_option maxRecDepth 100000

attribute [local go_sem] Oper.semAt_some

def flatP (l : List Plc) : List Value := l.flatMap encP
theorem flatP_snoc (l : List Plc) (x : Plc) : flatP (l ++ [x]) = flatP l ++ encP x := by simp [flatP]
theorem flatP_length (l : List Plc) : (flatP l).length = l.length * 3 := by
  induction l with
  | nil => rfl
  | cons x l ih => simp [flatP, encP] at *; omega
theorem infoPlace : (Tryz.prog.info? 58).map (fun i => (i.zero, i.size, i.bytes)) = some (some (.agg #[.int .i64 0, .int .i64 0, .int .i64 0]), 3, 24) := by kernel_rfl
end Go.Proofs.YtchcdfoncebemaaGreatDoor

/- Places: those whose words aren't 0, in their order. -/
namespace Go.Proofs.YtchcdfoncebemaaGreatDoor
open Go.RowKit Go.Maps Go.Shelf Go.Sort
set_option maxRecDepth 100000

/-! ### rows of places -/
def z3 : Plc := (0, 0, 0)
/-- v is a slice of just those places. -/
def RowP (w : World) (v : Value) (l : List Plc) : Prop :=
  (l = [] ∧ v = .slice none 0 0) ∨ ∃ g cap, v = .slice (some ⟨g, 0, none⟩) l.length cap ∧ g < w.heap.size ∧ ∀ j, j < l.length →
    w.cell? ⟨g, j * 3, none⟩ = some (.int .i64 (l.getD j z3).1) ∧ w.cell? ⟨g, j * 3 + 1, none⟩ = some (.int .i64 (l.getD j z3).2.1) ∧ w.cell? ⟨g, j * 3 + 2, none⟩ = some (.int .i64 (l.getD j z3).2.2)
theorem RowP.over {w w' : World} {v : Value} {l : List Plc} {T : Nat → Prop} (h : RowP w v l) (ht : Turn T w w') (hT : ∀ g len cap, v = .slice (some ⟨g, 0, none⟩) len cap → ¬ T g) : RowP w' v l := by
  rcases h with h | ⟨g, cap, hv, hg, hc⟩
  · exact .inl h
  · have hb := ht.block g hg (hT g _ cap hv)
    exact .inr ⟨g, cap, hv, Nat.lt_of_lt_of_le hg ht.size, fun j hj => by
      obtain ⟨h1, h2, h3⟩ := hc j hj
      refine ⟨?_, ?_, ?_⟩
      · rw [World.cell?_of_block (w := w) hb]; exact h1
      · rw [World.cell?_of_block (w := w) hb]; exact h2
      · rw [World.cell?_of_block (w := w) hb]; exact h3⟩

theorem flatP_get (l : List Plc) : ∀ (j c : Nat), j < l.length → c < 3 → (flatP l)[j * 3 + c]? = (encP (l.getD j z3))[c]? := by
  induction l with
  | nil => intro j c h; simp at h
  | cons x l ih =>
    intro j c hj hc
    have e : flatP (x :: l) = encP x ++ flatP l := by simp [flatP]
    cases j with
    | zero => rw [e, List.getElem?_append_left (by simp [encP]; omega)]; simp
    | succ j =>
      rw [e, List.getElem?_append_right (by simp [encP]; omega)]
      have := ih j c (by simpa using hj) hc
      have e2 : (j + 1) * 3 + c - (encP x).length = j * 3 + c := by simp [encP]; omega
      rw [e2, this]
      simp

def Rising (l : List Plc) : Prop := l.Pairwise fun x y => ltOf cmpP x y = true
theorem rising_eq : ∀ {l m : List Plc}, Rising l → Rising m → (∀ x, x ∈ l ↔ x ∈ m) → l = m
  | [], [], _, _, _ => rfl
  | [], y :: m, _, _, h => by have := (h y).2 (by simp); simp at this
  | x :: l, [], _, _, h => by have := (h x).1 (by simp); simp at this
  | x :: l, y :: m, h1, h2, h => by
    obtain ⟨a1, a2⟩ := List.pairwise_cons.1 h1
    obtain ⟨b1, b2⟩ := List.pairwise_cons.1 h2
    have no : ∀ a b : Plc, ltOf cmpP a b = true → ltOf cmpP b a = true → False := fun a b p q => by
      have := swoP.trans _ _ _ p q
      rw [swoP.irrefl] at this
      cases this
    have hxy : x = y := by
      rcases List.mem_cons.1 ((h x).1 (by simp)) with e | hx
      · exact e
      · rcases List.mem_cons.1 ((h y).2 (by simp)) with e | hy
        · exact e.symm
        · exact (no x y (a1 y hy) (b1 x hx)).elim
    subst hxy
    rw [rising_eq a2 b2 fun z => ⟨fun hz => by
      rcases List.mem_cons.1 ((h z).1 (by simp [hz])) with e | h'
      · subst e; exact (no _ _ (a1 _ hz) (a1 _ hz)).elim
      · exact h', fun hz => by
      rcases List.mem_cons.1 ((h z).2 (by simp [hz])) with e | h'
      · subst e; exact (no _ _ (b1 _ hz) (b1 _ hz)).elim
      · exact h'⟩]
/-- l are the places whose words aren't 0, rising. -/
def PlacesOf (f : Plc → Int) (l : List Plc) : Prop := Rising l ∧ ∀ x, x ∈ l ↔ f x ≠ 0
theorem PlacesOf.eq {f : Plc → Int} {l m : List Plc} (h : PlacesOf f l) (k : PlacesOf f m) : l = m := rising_eq h.1 k.1 fun x => (h.2 x).trans (k.2 x).symm
/-- The one place whose word isn't 0. -/
theorem places_one {x : Plc} {v : Int} (hv : v ≠ 0) {l : List Plc} (h : PlacesOf (upd (fun _ => 0) x v) l) : l.length = 1 := by
  have h1 : PlacesOf (upd (fun _ => 0) x v) [x] := ⟨List.pairwise_singleton _ _, fun y => by unfold upd; split <;> simp_all⟩
  rw [h.eq h1]; rfl

theorem RowP.len {w : World} {v : Value} {l : List Plc} (h : RowP w v l) : ∃ a cap, v = .slice a l.length cap := by
  rcases h with ⟨rfl, rfl⟩ | ⟨g, cap, rfl, _⟩
  · exact ⟨_, _, rfl⟩
  · exact ⟨_, _, rfl⟩
theorem RowP.below {w w' : World} {v : Value} {l : List Plc} (h : RowP w v l) (hb : Below w.heap.size w w') : RowP w' v l := h.over (Turn.of_below hb : Turn (fun _ => False) w w') fun _ _ _ _ e => e
end Go.Proofs.YtchcdfoncebemaaGreatDoor

/- The reference's words in a row: Swap, Less. -/
namespace Go.Proofs.YtchcdfoncebemaaGreatDoor
open Go.RowKit Go.Maps Go.Sort
set_option maxRecDepth 100000

set_option maxHeartbeats 1600000 in
theorem less_any (x y z a b d : Int) (w : World) :
    Calls Tryz.prog 74 #[.agg #[.int .i64 x, .int .i64 y, .int .i64 z], .agg #[.int .i64 a, .int .i64 b, .int .i64 d]] w fun e w' => e = .returned (.bool (ltOf cmpP (x, y, z) (a, b, d))) ∧ Below w.heap.size w w' := by
  have hE := ((Fr.start w).push w.heap.size rfl [.int .i64 x, .int .i64 y, .int .i64 z] 58).push (w.heap.size + 1) (by simp) [.int .i64 a, .int .i64 b, .int .i64 d] 58
  have r := hE.rule 0 rfl
  have r1 := hE.rule 1 rfl
  have hL : ltOf cmpP (x, y, z) (a, b, d) = if x ≠ a then decide (x < a) else if y ≠ b then decide (y < b) else decide (z < d) := by
    have h := ltP (x, y, z) (a, b, d)
    rw [Bool.eq_iff_iff, h]
    split
    · simp; omega
    · split
      · simp; omega
      · simp; omega
  rw [hL]
  go_enter Tryz.func74, Tryz.ntmps74
  by_cases h1 : x = a
  · subst h1
    by_cases h2 : y = b
    · subst h2
      go_wp2_with fail
      go_ret
      exact ⟨by simp, hE.below⟩
    · go_wp2_with fail
      go_ret
      exact ⟨by simp [h2], hE.below⟩
  · go_wp2_with fail
    go_ret
    exact ⟨by simp [h1], hE.below⟩



end Go.Proofs.YtchcdfoncebemaaGreatDoor

/- The reference's words among other things; counts as cells. -/
namespace Go.Proofs.YtchcdfoncebemaaGreatDoor
open Go.RowKit Go.Maps
set_option maxRecDepth 100000

/-- Counts in five cells. -/
def bv (t : Cnt) : List Value := [.int .i64 t.l, .int .i64 t.s, .int .i64 t.w, .int .i64 t.f, .int .i64 t.a]
theorem swf_getL (l : List OneR) (x : Plc) (o v : Int) : swf (getL l) x o v = getL (swL l x o v) := by
  unfold swf swL
  split
  · rw [getL_set]
  · rfl
theorem LOk.sw {l : List OneR} {N : Nat} (h : LOk l N) (x : Plc) (o v : Int) : LOk (swL l x o v) (N + 1) := by
  unfold swL; split
  · exact h.set x v
  · exact h.more
end Go.Proofs.YtchcdfoncebemaaGreatDoor

/- The reference's lanes: their small functions. -/
namespace Go.Proofs.YtchcdfoncebemaaGreatDoor
open Go.RowKit Go.Maps
set_option maxRecDepth 100000

/-- A reference's lane's cells. -/
def rlC (lv key : Int) (vs : Bool) (x y z pc W X K V C : Int) (fd : Bool) : List Value := [.int .i64 x, .int .i64 y, .int .i64 z, .int .i64 lv, .int .u64 key, .bool vs, .int .i64 pc, .int .u64 W, .int .u64 X, .int .u64 K, .int .u64 V, .int .i64 C, .bool fd]
/-- A reference's thread's cells: those of the statements' structure. -/
def ruC (e ro : Int) : List Value := urv 2 1000 3 1 1073741824 e none 0 0 0 0 ro

section
variable {w : World} {b : Nat} {lv key : Int} {vs fd : Bool} {x y z pc W X K V C : Int}

set_option maxHeartbeats 1600000 in
theorem next_r (hlv : 0 ≤ lv ∧ lv ≤ 1000000) (hb : Blk 0 w b (rlC lv key vs x y z pc W X K V C fd)) : Calls Tryz.prog 61 #[.pointer (some ⟨b, 0, none⟩)] w fun e w' => e = .returned (.agg #[.int .i64 5, .int .i64 C, .int .i64 (7 + lv)]) ∧ Below w.heap.size w w' := by
  have hal := hb.1
  have hX := hb.more (.cells [.int .i64 0, .int .i64 0, .int .i64 0].toArray 58)
  have hZ := Blk.new 0 w [.int .i64 0, .int .i64 0, .int .i64 0] 58
  have hE := (Below.refl w.heap.size w).alloc (Nat.le_refl _) (.cells [.int .i64 0, .int .i64 0, .int .i64 0].toArray 58)
  have hw7 : wrap64 (7 + lv) = 7 + lv := w64 _ (by omega)
  have hw8 : IntKind.i64.wrap (7 + lv) = 7 + lv := by rw [wrap_i]; exact hw7
  have HW := Lib.hid hw7
  clear hb hlv hw7
  go_enter Tryz.func61, Tryz.ntmps61
  go_wp2_with fail
  refine Ord.wp_chain [10] (fun w' => Below w.heap.size w w' ∧ Blk 0 w' b (rlC lv key vs x y z pc W X K V C fd)) (fun j w' => Blk 0 w' w.heap.size (if j = 0 then [.int .i64 0, .int .i64 0, .int .i64 0] else [.int .i64 5, .int .i64 C, .int .i64 (7 + lv)])) (by kernel_rfl) (by kernel_rfl) (by kernel_rfl) ⟨hE.drew, hX.drew⟩ hZ.drew (fun hT => ?_)
  have hT9 := Lib.hid hT
  clear hT
  repeat (first
    | (refine Ord.ch_value (v := ?_) hT9.out (by decide) (by rfl) ?_ ?_; rotate_left; (focus (intro w5 hS; have r := Blk.rule hS.2; unfold rlC at r; go_simp <;> with_reducible rfl)); (try simp only [Act.put, List.setIfInBounds_toArray, List.set_cons_zero, List.set_cons_succ]))
    | (refine Ord.ch_off hT9.out (by decide) (by rfl) ?_; (try simp only [Act.put, List.setIfInBounds_toArray, List.set_cons_zero, List.set_cons_succ]))
    | (refine Ord.ch_call (v := ?_) (f := ?_) (args := ?_) hT9.out (by decide) (by rfl) ?_ ?_ ?_; rotate_left 3; (focus (intro w5 hS; have r := Blk.rule hS.2; unfold rlC at r; go_simp; constructor <;> with_reducible rfl)); (focus (intro w5 hS; (first | (with_reducible refine (cell13_any _ _ _).mono ?_; rintro o w6 ⟨rfl, hb6⟩; constructor; with_reducible rfl; exact ⟨⟨hS.1.trans (hb6.mono hS.1.size), hS.2.under hb6⟩, fun _ h => h.under hb6⟩)))); (try simp only [Act.put, List.setIfInBounds_toArray, List.set_cons_zero, List.set_cons_succ])))
  refine Ord.ch_turn (v := undef) 0 hT9.out rfl (by decide) (Or.inl rfl) (by rfl) ?_ ?_
  · rintro w5 hS hA2
    simp only [if_true] at hA2
    have r := hA2.rule
    have f0 := hA2.thaw 0 (by simp)
    have f1 := hA2.thaw 1 (by simp)
    have f2 := hA2.thaw 2 (by simp)
    have hz := hS.1.size
    go_simp
    refine ⟨rfl, ⟨?_, ?_⟩, ?_⟩
    · exact below_set (below_set (below_set hS.1 hz (by omega) _) (by simp; omega) (by omega) _) (by simp; omega) (by omega) _
    · exact ((hS.2.off (by omega) _).off (by omega) _).off (by omega) _
    · exact ((hA2.set (i := 0) (by simp) _).set (i := 1) (by simp) _).set (i := 2) (by simp) _
  (try simp only [Act.put, List.setIfInBounds_toArray, List.set_cons_zero, List.set_cons_succ])
  repeat (first
    | (refine Ord.ch_value (v := ?_) hT9.out (by decide) (by rfl) ?_ ?_; rotate_left; (focus (intro w5 hS; skip; go_simp <;> with_reducible rfl)); (try simp only [Act.put, List.setIfInBounds_toArray, List.set_cons_zero, List.set_cons_succ]))
    | (refine Ord.ch_off hT9.out (by decide) (by rfl) ?_; (try simp only [Act.put, List.setIfInBounds_toArray, List.set_cons_zero, List.set_cons_succ])))
  refine Ord.InText.nil fun w5 hS => ?_
  clear hT9
  obtain ⟨hC9, hA9⟩ := Ord.chain_end hS
  clear hS
  have q := hA9.rule
  simp only [show ¬ [10].length = 0 by decide, if_false] at q
  go_wp2
  exact bodyPost_ret (v := .agg #[.int .i64 5, .int .i64 C, .int .i64 (7 + lv)]) (by simp [results, Tryz.results61, go_sem, q]) rfl ⟨rfl, hC9.1⟩
end

section
variable {w0 w : World} {L : List Item} {b : Nat} {lv key : Int} {vs fd : Bool} {x y z pc W X K V C : Int}
set_option maxHeartbeats 1600000 in
theorem come_r (v : Int) (hv : InU v) (hE : Env w0 (boxI b (rlC lv key vs x y z pc W X K V C fd) :: L) w) :
    Calls Tryz.prog 64 #[.pointer (some ⟨b, 0, none⟩), .int .u64 v] w fun o w' => o = .returned (.int .i64 (cS v)) ∧ Env w0 (boxI b (rlC lv key vs x y z 3 v 0 K V (slotI v) fd) :: L) w' := by
  have hs13 := fun (u : World) => slot13_any v hv u
  obtain ⟨s, hs⟩ : ∃ s, slotI v = s := ⟨_, rfl⟩
  have hcs : cS v = if s = 0 then 1 else 0 := by unfold cS; rw [hs]
  rw [hcs, hs]
  simp only [hs] at hs13
  have HS := Lib.hid hs13
  clear hs hcs hs13 hv
  have r := hE.rule 0 rfl
  unfold rlC at r
  have f7 := hE.thaw 0 rfl 7 (by simp [rlC])
  have f8 := hE.thaw 0 rfl 8 (by simp [rlC])
  have hP := (hE.put 0 rfl (j := 7) (by simp [rlC]) (.int .u64 v)).put 0 rfl (j := 8) (by simp [rlC]) (.int .u64 0)
  replace hP : Env w0 (boxI b (rlC lv key vs x y z pc v 0 K V C fd) :: L) _ := hP
  go_enter Tryz.func64, Tryz.ntmps64
  go_wp2_with fail
  refine (HS.out _).mono ?_
  rintro o w1 ⟨rfl, hb⟩
  have hE1 := hP.over hb
  clear hb r f7 f8 hP hE
  have r := hE1.rule 0 rfl
  unfold rlC at r
  have f11 := hE1.thaw 0 rfl 11 (by simp [rlC])
  have f6 := hE1.thaw 0 rfl 6 (by simp [rlC])
  have hP := (hE1.put 0 rfl (j := 11) (by simp [rlC]) (.int .i64 s)).put 0 rfl (j := 6) (by simp [rlC]) (.int .i64 3)
  replace hP : Env w0 (boxI b (rlC lv key vs x y z 3 v 0 K V s fd) :: L) _ := hP
  by_cases h0 : s = 0
  · subst h0
    go_wp2_with fail
    go_ret
    exact ⟨rfl, hP⟩
  · have hsb : (s == 0) = false := by simpa using h0
    have H0 := Lib.hid h0
    clear h0
    go_wp2_with fail
    go_ret
    exact ⟨rfl, hP⟩
set_option maxHeartbeats 1600000 in
theorem holds2a_r (hm : markB W = true) (hv : InU W) (hE : Env w0 (boxI b (rlC lv key vs x y z 2 W X K V C fd) :: L) w) :
    Calls Tryz.prog 66 #[.pointer (some ⟨b, 0, none⟩)] w fun o w' => o = .returned (.int .i64 2) ∧ Env w0 (boxI b (rlC lv key vs x y z 2 W X K V C fd) :: L) w' := by
  have h1 := rmarked_any W w hv
  rw [hm] at h1
  have r := hE.rule 0 rfl
  unfold rlC at r
  clear hm hv
  go_enter Tryz.func66, Tryz.ntmps66
  go_wp2_with fail
  refine h1.mono ?_
  rintro o w1 ⟨rfl, hb⟩
  go_wp2_with fail
  go_ret
  exact ⟨rfl, hE.over hb⟩
set_option maxHeartbeats 1600000 in
theorem holds2b_r (hm : markB W = false) (hv : InU W) (hE : Env w0 (boxI b (rlC lv key vs x y z 2 W X K V C fd) :: L) w) :
    Calls Tryz.prog 66 #[.pointer (some ⟨b, 0, none⟩)] w fun o w' => o = .returned (.int .i64 (cS W)) ∧ Env w0 (boxI b (rlC lv key vs x y z 3 W 0 K V (slotI W) fd) :: L) w' := by
  have h1 := rmarked_any W w hv
  rw [hm] at h1
  have r := hE.rule 0 rfl
  unfold rlC at r
  have HV := Lib.hid hv
  clear hm hv
  go_enter Tryz.func66, Tryz.ntmps66
  go_wp2_with fail
  refine h1.mono ?_
  rintro o w1 ⟨rfl, hb⟩
  replace hE := hE.over hb
  clear hb r
  have r := hE.rule 0 rfl
  unfold rlC at r
  go_wp2_with fail
  refine (come_r W HV.out hE).mono ?_
  rintro o w2 ⟨rfl, hE2⟩
  go_wp2_with fail
  go_ret
  exact ⟨rfl, hE2⟩
set_option maxHeartbeats 1600000 in
theorem holds4_r (hv : InU X) (hE : Env w0 (boxI b (rlC lv key vs x y z 4 W X K V C fd) :: L) w) :
    Calls Tryz.prog 66 #[.pointer (some ⟨b, 0, none⟩)] w fun o w' => o = .returned (.int .i64 0) ∧ Env w0 (boxI b (rlC lv key vs x y z (if markB X then 5 else 6) W X K V C fd) :: L) w' := by
  obtain ⟨mk, hmk⟩ : ∃ mk, markB X = mk := ⟨_, rfl⟩
  have h1 := fun (u : World) => rmarked_any X u hv
  simp only [hmk] at h1
  rw [hmk]
  have H1 := Lib.hid h1
  have r := hE.rule 0 rfl
  unfold rlC at r
  have f6 := hE.thaw 0 rfl 6 (by simp [rlC])
  have hP := hE.put 0 rfl (j := 6) (by simp [rlC]) (.int .i64 6)
  replace hP : Env w0 (boxI b (rlC lv key vs x y z 6 W X K V C fd) :: L) _ := hP
  clear hmk hv h1
  go_enter Tryz.func66, Tryz.ntmps66
  go_wp2_with fail
  refine (H1.out _).mono ?_
  rintro o w1 ⟨rfl, hb⟩
  replace hP := hP.over hb
  clear hb r f6
  cases mk
  · go_wp2_with fail
    go_ret
    exact ⟨rfl, hP⟩
  · have r := hP.rule 0 rfl
    unfold rlC at r
    have f6 := hP.thaw 0 rfl 6 (by simp [rlC])
    have hQ := hP.put 0 rfl (j := 6) (by simp [rlC]) (.int .i64 5)
    go_wp2_with fail
    go_ret
    exact ⟨rfl, hQ⟩
set_option maxHeartbeats 1600000 in
theorem holds7a_r (hk : K < key) (hlv : 0 ≤ lv ∧ lv ≤ 1000000) (hv : InU X) (hE : Env w0 (boxI b (rlC lv key vs x y z 7 W X K V C fd) :: L) w) :
    Calls Tryz.prog 66 #[.pointer (some ⟨b, 0, none⟩)] w fun o w' => o = .returned (.int .i64 (cS X)) ∧ Env w0 (boxI b (rlC lv key vs 5 C (7 + lv) 3 X 0 K V (slotI X) fd) :: L) w' := by
  have hkb : decide (K < key) = true := by simpa using hk
  have r := hE.rule 0 rfl
  unfold rlC at r
  have HV := Lib.hid hv
  clear hv hk
  go_enter Tryz.func66, Tryz.ntmps66
  go_wp2_with fail
  clear r
  refine wp_text (S := (Env w0 (boxI b (rlC lv key vs x y z 7 W X K V C fd) :: L))) (by kernel_rfl) (by kernel_rfl) hE.drew (fun hT => ?_)
  have hT9 := Lib.hid hT
  clear hT
  repeat (first
    | (refine text_value (v := ?_) hT9.out (by rfl) ?_ ?_; rotate_left; (focus (intro w5 hS; have r := hS.rule 0 rfl; unfold rlC at r; go_simp <;> with_reducible rfl)); (try simp only [Act.put, List.setIfInBounds_toArray, List.set_cons_zero, List.set_cons_succ]))
    | (refine text_off hT9.out (by rfl) ?_; (try simp only [Act.put, List.setIfInBounds_toArray, List.set_cons_zero, List.set_cons_succ]))
    | (refine text_call (v := ?_) (f := ?_) (args := ?_) hT9.out (by rfl) ?_ ?_ ?_; rotate_left 3; (focus (intro w5 hS; have r := hS.rule 0 rfl; unfold rlC at r; go_simp; constructor <;> with_reducible rfl)); (focus (intro w5 hS; (first | fail))); (try simp only [Act.put, List.setIfInBounds_toArray, List.set_cons_zero, List.set_cons_succ])))
  refine InText.nil fun w5 hS5 => ?_
  clear hT9
  clear hE
  go_wp2_with fail
  refine (next_r hlv (hS5.get 0 rfl)).mono ?_
  rintro o w6 ⟨rfl, hb⟩
  have hE := hS5.over hb
  clear hS5 hb
  have r := hE.rule 0 rfl
  unfold rlC at r
  have g0 := hE.thaw 0 rfl 0 (by simp [rlC])
  have g1 := hE.thaw 0 rfl 1 (by simp [rlC])
  have g2 := hE.thaw 0 rfl 2 (by simp [rlC])
  have hP := ((hE.put 0 rfl (j := 0) (by simp [rlC]) (.int .i64 5)).put 0 rfl (j := 1) (by simp [rlC]) (.int .i64 C)).put 0 rfl (j := 2) (by simp [rlC]) (.int .i64 (7 + lv))
  replace hP : Env w0 (boxI b (rlC lv key vs 5 C (7 + lv) 7 W X K V C fd) :: L) _ := hP
  have r9 := hP.rule 0 rfl
  unfold rlC at r9
  go_wp2_with fail
  refine (come_r X HV.out hP).mono ?_
  rintro o w2 ⟨rfl, hE2⟩
  go_wp2_with fail
  go_ret
  exact ⟨rfl, hE2⟩

set_option maxHeartbeats 1600000 in
theorem holds7b_r (hk : K = key) (hE : Env w0 (boxI b (rlC lv key false x y z 7 W X K V C fd) :: L) w) :
    Calls Tryz.prog 66 #[.pointer (some ⟨b, 0, none⟩)] w fun o w' => o = .returned (.int .i64 1) ∧ Env w0 (boxI b (rlC lv key false x y z 7 W X K V C true) :: L) w' := by
  have hkb : decide (K < key) = false := by simp; omega
  have hkq : (K == key) = true := by simpa using hk
  clear hk
  have r := hE.rule 0 rfl
  unfold rlC at r
  go_enter Tryz.func66, Tryz.ntmps66
  go_wp2_with fail
  clear r
  refine wp_text (S := (Env w0 (boxI b (rlC lv key false x y z 7 W X K V C fd) :: L))) (by kernel_rfl) (by kernel_rfl) hE.drew (fun hT => ?_)
  have hT9 := Lib.hid hT
  clear hT
  repeat (first
    | (refine text_value (v := ?_) hT9.out (by rfl) ?_ ?_; rotate_left; (focus (intro w5 hS; have r := hS.rule 0 rfl; unfold rlC at r; go_simp <;> with_reducible rfl)); (try simp only [Act.put, List.setIfInBounds_toArray, List.set_cons_zero, List.set_cons_succ]))
    | (refine text_off hT9.out (by rfl) ?_; (try simp only [Act.put, List.setIfInBounds_toArray, List.set_cons_zero, List.set_cons_succ]))
    | (refine text_call (v := ?_) (f := ?_) (args := ?_) hT9.out (by rfl) ?_ ?_ ?_; rotate_left 3; (focus (intro w5 hS; have r := hS.rule 0 rfl; unfold rlC at r; go_simp; constructor <;> with_reducible rfl)); (focus (intro w5 hS; (first | fail))); (try simp only [Act.put, List.setIfInBounds_toArray, List.set_cons_zero, List.set_cons_succ])))
  refine InText.nil fun w5 hS5 => ?_
  clear hT9
  clear hE
  go_wp2_with fail
  have hE := hS5
  clear hS5
  refine wp_text (S := (Env w0 (boxI b (rlC lv key false x y z 7 W X K V C fd) :: L))) (by kernel_rfl) (by kernel_rfl) hE.drew (fun hT => ?_)
  have hT9 := Lib.hid hT
  clear hT
  repeat (first
    | (refine text_value (v := ?_) hT9.out (by rfl) ?_ ?_; rotate_left; (focus (intro w5 hS; have r := hS.rule 0 rfl; unfold rlC at r; go_simp <;> with_reducible rfl)); (try simp only [Act.put, List.setIfInBounds_toArray, List.set_cons_zero, List.set_cons_succ]))
    | (refine text_off hT9.out (by rfl) ?_; (try simp only [Act.put, List.setIfInBounds_toArray, List.set_cons_zero, List.set_cons_succ]))
    | (refine text_call (v := ?_) (f := ?_) (args := ?_) hT9.out (by rfl) ?_ ?_ ?_; rotate_left 3; (focus (intro w5 hS; have r := hS.rule 0 rfl; unfold rlC at r; go_simp; constructor <;> with_reducible rfl)); (focus (intro w5 hS; (first | fail))); (try simp only [Act.put, List.setIfInBounds_toArray, List.set_cons_zero, List.set_cons_succ])))
  refine InText.nil fun w5 hS5 => ?_
  clear hT9
  clear hE
  have r := hS5.rule 0 rfl
  unfold rlC at r
  have f12 := hS5.thaw 0 rfl 12 (by simp [rlC])
  have hP := hS5.put 0 rfl (j := 12) (by simp [rlC]) (.bool true)
  replace hP : Env w0 (boxI b (rlC lv key false x y z 7 W X K V C true) :: L) _ := hP
  go_wp2_with fail
  go_ret
  exact ⟨rfl, hP⟩

set_option maxHeartbeats 1600000 in
theorem holds7c_r (hk : K = key) (hE : Env w0 (boxI b (rlC lv key true x y z 7 W X K V C fd) :: L) w) :
    Calls Tryz.prog 66 #[.pointer (some ⟨b, 0, none⟩)] w fun o w' => o = .returned (.int .i64 0) ∧ Env w0 (boxI b (rlC lv key true x y z 8 W X K V C true) :: L) w' := by
  have hkb : decide (K < key) = false := by simp; omega
  have hkq : (K == key) = true := by simpa using hk
  clear hk
  have r := hE.rule 0 rfl
  unfold rlC at r
  go_enter Tryz.func66, Tryz.ntmps66
  go_wp2_with fail
  clear r
  refine wp_text (S := (Env w0 (boxI b (rlC lv key true x y z 7 W X K V C fd) :: L))) (by kernel_rfl) (by kernel_rfl) hE.drew (fun hT => ?_)
  have hT9 := Lib.hid hT
  clear hT
  repeat (first
    | (refine text_value (v := ?_) hT9.out (by rfl) ?_ ?_; rotate_left; (focus (intro w5 hS; have r := hS.rule 0 rfl; unfold rlC at r; go_simp <;> with_reducible rfl)); (try simp only [Act.put, List.setIfInBounds_toArray, List.set_cons_zero, List.set_cons_succ]))
    | (refine text_off hT9.out (by rfl) ?_; (try simp only [Act.put, List.setIfInBounds_toArray, List.set_cons_zero, List.set_cons_succ]))
    | (refine text_call (v := ?_) (f := ?_) (args := ?_) hT9.out (by rfl) ?_ ?_ ?_; rotate_left 3; (focus (intro w5 hS; have r := hS.rule 0 rfl; unfold rlC at r; go_simp; constructor <;> with_reducible rfl)); (focus (intro w5 hS; (first | fail))); (try simp only [Act.put, List.setIfInBounds_toArray, List.set_cons_zero, List.set_cons_succ])))
  refine InText.nil fun w5 hS5 => ?_
  clear hT9
  clear hE
  go_wp2_with fail
  have hE := hS5
  clear hS5
  refine wp_text (S := (Env w0 (boxI b (rlC lv key true x y z 7 W X K V C fd) :: L))) (by kernel_rfl) (by kernel_rfl) hE.drew (fun hT => ?_)
  have hT9 := Lib.hid hT
  clear hT
  repeat (first
    | (refine text_value (v := ?_) hT9.out (by rfl) ?_ ?_; rotate_left; (focus (intro w5 hS; have r := hS.rule 0 rfl; unfold rlC at r; go_simp <;> with_reducible rfl)); (try simp only [Act.put, List.setIfInBounds_toArray, List.set_cons_zero, List.set_cons_succ]))
    | (refine text_off hT9.out (by rfl) ?_; (try simp only [Act.put, List.setIfInBounds_toArray, List.set_cons_zero, List.set_cons_succ]))
    | (refine text_call (v := ?_) (f := ?_) (args := ?_) hT9.out (by rfl) ?_ ?_ ?_; rotate_left 3; (focus (intro w5 hS; have r := hS.rule 0 rfl; unfold rlC at r; go_simp; constructor <;> with_reducible rfl)); (focus (intro w5 hS; (first | fail))); (try simp only [Act.put, List.setIfInBounds_toArray, List.set_cons_zero, List.set_cons_succ])))
  refine InText.nil fun w5 hS5 => ?_
  clear hT9
  clear hE
  have r := hS5.rule 0 rfl
  unfold rlC at r
  have f12 := hS5.thaw 0 rfl 12 (by simp [rlC])
  have hP := hS5.put 0 rfl (j := 12) (by simp [rlC]) (.bool true)
  replace hP : Env w0 (boxI b (rlC lv key true x y z 7 W X K V C true) :: L) _ := hP
  have f6 := hS5.thaw 0 rfl 6 (by simp [rlC])
  have hQ := hP.put 0 rfl (j := 6) (by simp [rlC]) (.int .i64 8)
  go_wp2_with fail
  go_ret
  exact ⟨rfl, hQ⟩

set_option maxHeartbeats 1600000 in
theorem holds7d_r (hk : key < K) (hE : Env w0 (boxI b (rlC lv key vs x y z 7 W X K V C fd) :: L) w) :
    Calls Tryz.prog 66 #[.pointer (some ⟨b, 0, none⟩)] w fun o w' => o = .returned (.int .i64 1) ∧ Env w0 (boxI b (rlC lv key vs x y z 7 W X K V C fd) :: L) w' := by
  have hkb : decide (K < key) = false := by simp; omega
  have hkq : (K == key) = false := by simp; omega
  clear hk
  have r := hE.rule 0 rfl
  unfold rlC at r
  go_enter Tryz.func66, Tryz.ntmps66
  go_wp2_with fail
  clear r
  refine wp_text (S := (Env w0 (boxI b (rlC lv key vs x y z 7 W X K V C fd) :: L))) (by kernel_rfl) (by kernel_rfl) hE.drew (fun hT => ?_)
  have hT9 := Lib.hid hT
  clear hT
  repeat (first
    | (refine text_value (v := ?_) hT9.out (by rfl) ?_ ?_; rotate_left; (focus (intro w5 hS; have r := hS.rule 0 rfl; unfold rlC at r; go_simp <;> with_reducible rfl)); (try simp only [Act.put, List.setIfInBounds_toArray, List.set_cons_zero, List.set_cons_succ]))
    | (refine text_off hT9.out (by rfl) ?_; (try simp only [Act.put, List.setIfInBounds_toArray, List.set_cons_zero, List.set_cons_succ]))
    | (refine text_call (v := ?_) (f := ?_) (args := ?_) hT9.out (by rfl) ?_ ?_ ?_; rotate_left 3; (focus (intro w5 hS; have r := hS.rule 0 rfl; unfold rlC at r; go_simp; constructor <;> with_reducible rfl)); (focus (intro w5 hS; (first | fail))); (try simp only [Act.put, List.setIfInBounds_toArray, List.set_cons_zero, List.set_cons_succ])))
  refine InText.nil fun w5 hS5 => ?_
  clear hT9
  clear hE
  go_wp2_with fail
  have hE := hS5
  clear hS5
  refine wp_text (S := (Env w0 (boxI b (rlC lv key vs x y z 7 W X K V C fd) :: L))) (by kernel_rfl) (by kernel_rfl) hE.drew (fun hT => ?_)
  have hT9 := Lib.hid hT
  clear hT
  repeat (first
    | (refine text_value (v := ?_) hT9.out (by rfl) ?_ ?_; rotate_left; (focus (intro w5 hS; have r := hS.rule 0 rfl; unfold rlC at r; go_simp <;> with_reducible rfl)); (try simp only [Act.put, List.setIfInBounds_toArray, List.set_cons_zero, List.set_cons_succ]))
    | (refine text_off hT9.out (by rfl) ?_; (try simp only [Act.put, List.setIfInBounds_toArray, List.set_cons_zero, List.set_cons_succ]))
    | (refine text_call (v := ?_) (f := ?_) (args := ?_) hT9.out (by rfl) ?_ ?_ ?_; rotate_left 3; (focus (intro w5 hS; have r := hS.rule 0 rfl; unfold rlC at r; go_simp; constructor <;> with_reducible rfl)); (focus (intro w5 hS; (first | fail))); (try simp only [Act.put, List.setIfInBounds_toArray, List.set_cons_zero, List.set_cons_succ])))
  refine InText.nil fun w5 hS5 => ?_
  clear hT9
  clear hE
  go_wp2_with fail
  go_ret
  exact ⟨rfl, hS5⟩

set_option maxHeartbeats 1600000 in
theorem holds9_r (hE : Env w0 (boxI b (rlC lv key vs x y z 9 W X K V C fd) :: L) w) :
    Calls Tryz.prog 66 #[.pointer (some ⟨b, 0, none⟩)] w fun o w' => o = .returned (.int .i64 1) ∧ Env w0 (boxI b (rlC lv key vs x y z 9 W X K V C fd) :: L) w' := by
  have r := hE.rule 0 rfl
  unfold rlC at r
  go_enter Tryz.func66, Tryz.ntmps66
  go_wp2_with fail
  clear r
  refine wp_text (S := (Env w0 (boxI b (rlC lv key vs x y z 9 W X K V C fd) :: L))) (by kernel_rfl) (by kernel_rfl) hE.drew (fun hT => ?_)
  have hT9 := Lib.hid hT
  clear hT
  repeat (first
    | (refine text_value (v := ?_) hT9.out (by rfl) ?_ ?_; rotate_left; (focus (intro w5 hS; have r := hS.rule 0 rfl; unfold rlC at r; go_simp <;> with_reducible rfl)); (try simp only [Act.put, List.setIfInBounds_toArray, List.set_cons_zero, List.set_cons_succ]))
    | (refine text_off hT9.out (by rfl) ?_; (try simp only [Act.put, List.setIfInBounds_toArray, List.set_cons_zero, List.set_cons_succ]))
    | (refine text_call (v := ?_) (f := ?_) (args := ?_) hT9.out (by rfl) ?_ ?_ ?_; rotate_left 3; (focus (intro w5 hS; have r := hS.rule 0 rfl; unfold rlC at r; go_simp; constructor <;> with_reducible rfl)); (focus (intro w5 hS; (first | fail))); (try simp only [Act.put, List.setIfInBounds_toArray, List.set_cons_zero, List.set_cons_succ])))
  refine InText.nil fun w5 hS5 => ?_
  clear hT9
  clear hE
  go_wp2_with fail
  have hE := hS5
  clear hS5
  refine wp_text (S := (Env w0 (boxI b (rlC lv key vs x y z 9 W X K V C fd) :: L))) (by kernel_rfl) (by kernel_rfl) hE.drew (fun hT => ?_)
  have hT9 := Lib.hid hT
  clear hT
  repeat (first
    | (refine text_value (v := ?_) hT9.out (by rfl) ?_ ?_; rotate_left; (focus (intro w5 hS; have r := hS.rule 0 rfl; unfold rlC at r; go_simp <;> with_reducible rfl)); (try simp only [Act.put, List.setIfInBounds_toArray, List.set_cons_zero, List.set_cons_succ]))
    | (refine text_off hT9.out (by rfl) ?_; (try simp only [Act.put, List.setIfInBounds_toArray, List.set_cons_zero, List.set_cons_succ]))
    | (refine text_call (v := ?_) (f := ?_) (args := ?_) hT9.out (by rfl) ?_ ?_ ?_; rotate_left 3; (focus (intro w5 hS; have r := hS.rule 0 rfl; unfold rlC at r; go_simp; constructor <;> with_reducible rfl)); (focus (intro w5 hS; (first | fail))); (try simp only [Act.put, List.setIfInBounds_toArray, List.set_cons_zero, List.set_cons_succ])))
  refine InText.nil fun w5 hS5 => ?_
  clear hT9
  clear hE
  go_wp2_with fail
  go_ret
  exact ⟨rfl, hS5⟩

end
end Go.Proofs.YtchcdfoncebemaaGreatDoor

/- Lanes: Step over the model. -/
namespace Go.Proofs.YtchcdfoncebemaaGreatDoor
open Go.RowKit Go.Maps
set_option maxRecDepth 100000

/-- Nothing, as a thing. -/
def noI : Item where
  F := fun _ => False
  says := fun _ => True
  loc := fun _ _ _ _ _ => trivial
section
variable {w0 w : World} {L : List Item} {x : Item}
theorem Env.none1 (h : Env w0 L w) : Env w0 (noI :: L) w := h.add noI (Below.refl _ _) trivial fun k hk => absurd hk (by simp [noI])
theorem Env.none2 (h : Env w0 (x :: L) w) : Env w0 (x :: noI :: noI :: L) w := h.none1.none1.perm (List.perm_middle (l₁ := [noI, noI]))
end

section
variable {w0 w : World} {R : List Item} {a : Nat} {S : ST} {lv key : Int} {vs : Bool} {L : Lm}

set_option maxHeartbeats 1600000 in
theorem lane_0 (hpc : L.pc = 0) (hL : LmOk L) (hlv : 0 ≤ lv ∧ lv ≤ 1000000) (hwf : Wf L.p) (hg : Glo w0) (hm : S.m < maxLen) (h : LaneR w0 R a lv key vs S 0 L w) :
    Calls Tryz.prog 32 #[.pointer (some ⟨a, 0, none⟩), .iface 33 (.pointer (some ⟨S.p, 0, none⟩))] w fun o w' => o = .returned (.int .i64 (laneM lv key vs S.ce L S.f).1) ∧ ∃ G', LaneR w0 R a lv key vs (laneS lv key vs S L G') (laneM lv key vs S.ce L S.f).1 (laneM lv key vs S.ce L S.f).2.1 w' := by
  obtain ⟨nx, wd, B1, B2, hn, hE⟩ := h
  obtain ⟨⟨hnx, -⟩, -, -⟩ := hn rfl
  have hnx := hnx (by rw [hpc]; rfl)
  rw [hpc] at hnx
  have hV : L.V = 0 := hL.v (by omega)
  have hM : laneM lv key vs S.ce L S.f = (0, { L with W := S.f L.p, pc := 2 }, S.f) := by simp [laneM, hpc]
  have hS : ∀ G, laneS lv key vs S L G = { S with G := G, qc := { S.qc with l := wrap64 (S.qc.l + 1) } } := fun G => by simp [laneS, laneQ, rollM, hM, hpc, isVal]
  rw [hM]
  have hn4 : w.cell? ⟨a, 4, none⟩ = some (mvL (fnL 0) a) := by rw [hE.rule 0 rfl 4, ← hnx]; rfl
  refine stepMv_l (fnL 0) (enters_fnL 0) _ _ hn4 ?_
  refine (loadInto_l (S.f L.p) rfl hwf (hE.sub (.cons_cons _ (.cons _ (.cons _ (List.Sublist.refl _)))))).mono ?_
  rintro o w1 ⟨rfl, b1, b2, hE1⟩
  refine ⟨0, rfl, rfl, S.G, ?_⟩
  rw [hS]
  exact ⟨cvL b1 b2, wd, _, _, fun _ => ⟨⟨fun h => absurd h (by simp [isVal]), fun _ => ⟨b1, b2, rfl, rfl, rfl⟩⟩, fun h => absurd h (by simp), fun h => absurd h (by simp)⟩, hE1⟩

set_option maxHeartbeats 1600000 in
theorem lane_3 (hpc : L.pc = 3) (hL : LmOk L) (hlv : 0 ≤ lv ∧ lv ≤ 1000000) (hwf : Wf L.p) (hg : Glo w0) (hm : S.m < maxLen) (h : LaneR w0 R a lv key vs S 0 L w) :
    Calls Tryz.prog 32 #[.pointer (some ⟨a, 0, none⟩), .iface 33 (.pointer (some ⟨S.p, 0, none⟩))] w fun o w' => o = .returned (.int .i64 (laneM lv key vs S.ce L S.f).1) ∧ ∃ G', LaneR w0 R a lv key vs (laneS lv key vs S L G') (laneM lv key vs S.ce L S.f).1 (laneM lv key vs S.ce L S.f).2.1 w' := by
  obtain ⟨nx, wd, B1, B2, hn, hE⟩ := h
  obtain ⟨⟨hnx, -⟩, -, -⟩ := hn rfl
  have hnx := hnx (by rw [hpc]; rfl)
  rw [hpc] at hnx
  have hV : L.V = 0 := hL.v (by omega)
  have hM : laneM lv key vs S.ce L S.f = (0, { L with X := S.f (5, L.C, 7 + lv), pc := 4 }, S.f) := by simp [laneM, hpc]
  have hS : ∀ G, laneS lv key vs S L G = { S with G := G, qc := { S.qc with l := wrap64 (S.qc.l + 1) } } := fun G => by simp [laneS, laneQ, rollM, hM, hpc, isVal]
  rw [hM]
  have hn4 : w.cell? ⟨a, 4, none⟩ = some (mvL (fnL 3) a) := by rw [hE.rule 0 rfl 4, ← hnx]; rfl
  refine stepMv_l (fnL 3) (enters_fnL 3) _ _ hn4 ?_
  refine (loadOut_l hlv (S.f (5, L.C, 7 + lv)) rfl (wf_part hL.C (by omega)) (hE.sub (.cons_cons _ (.cons _ (.cons _ (List.Sublist.refl _)))))).mono ?_
  rintro o w1 ⟨rfl, b1, b2, hE1⟩
  refine ⟨0, rfl, rfl, S.G, ?_⟩
  rw [hS]
  exact ⟨cvL b1 b2, wd, _, _, fun _ => ⟨⟨fun h => absurd h (by simp [isVal]), fun _ => ⟨b1, b2, rfl, rfl, rfl⟩⟩, fun h => absurd h (by simp), fun h => absurd h (by simp)⟩, hE1⟩

set_option maxHeartbeats 1600000 in
theorem lane_6 (hpc : L.pc = 6) (hL : LmOk L) (hlv : 0 ≤ lv ∧ lv ≤ 1000000) (hwf : Wf L.p) (hg : Glo w0) (hm : S.m < maxLen) (h : LaneR w0 R a lv key vs S 0 L w) :
    Calls Tryz.prog 32 #[.pointer (some ⟨a, 0, none⟩), .iface 33 (.pointer (some ⟨S.p, 0, none⟩))] w fun o w' => o = .returned (.int .i64 (laneM lv key vs S.ce L S.f).1) ∧ ∃ G', LaneR w0 R a lv key vs (laneS lv key vs S L G') (laneM lv key vs S.ce L S.f).1 (laneM lv key vs S.ce L S.f).2.1 w' := by
  obtain ⟨nx, wd, B1, B2, hn, hE⟩ := h
  obtain ⟨⟨hnx, -⟩, -, -⟩ := hn rfl
  have hnx := hnx (by rw [hpc]; rfl)
  rw [hpc] at hnx
  have hV : L.V = 0 := hL.v (by omega)
  have hM : laneM lv key vs S.ce L S.f = (0, { L with K := S.f (5, L.C, 3), pc := 7 }, S.f) := by simp [laneM, hpc]
  have hS : ∀ G, laneS lv key vs S L G = { S with G := G, qc := { S.qc with l := wrap64 (S.qc.l + 1) } } := fun G => by simp [laneS, laneQ, rollM, hM, hpc, isVal]
  rw [hM]
  have hn4 : w.cell? ⟨a, 4, none⟩ = some (mvL (fnL 6) a) := by rw [hE.rule 0 rfl 4, ← hnx]; rfl
  refine stepMv_l (fnL 6) (enters_fnL 6) _ _ hn4 ?_
  refine (loadKey_l (S.f (5, L.C, 3)) rfl (wf_part hL.C (by omega)) (hE.sub (.cons_cons _ (.cons _ (.cons _ (List.Sublist.refl _)))))).mono ?_
  rintro o w1 ⟨rfl, b1, b2, hE1⟩
  refine ⟨0, rfl, rfl, S.G, ?_⟩
  rw [hS]
  exact ⟨cvL b1 b2, S.f (5, L.C, 3), _, _, fun _ => ⟨⟨fun h => absurd h (by simp [isVal]), fun _ => ⟨b1, b2, rfl, rfl, rfl⟩⟩, fun _ => rfl, fun h => absurd h (by simp)⟩, hE1⟩

set_option maxHeartbeats 1600000 in
theorem lane_8 (hpc : L.pc = 8) (hL : LmOk L) (hlv : 0 ≤ lv ∧ lv ≤ 1000000) (hwf : Wf L.p) (hg : Glo w0) (hm : S.m < maxLen) (h : LaneR w0 R a lv key vs S 0 L w) :
    Calls Tryz.prog 32 #[.pointer (some ⟨a, 0, none⟩), .iface 33 (.pointer (some ⟨S.p, 0, none⟩))] w fun o w' => o = .returned (.int .i64 (laneM lv key vs S.ce L S.f).1) ∧ ∃ G', LaneR w0 R a lv key vs (laneS lv key vs S L G') (laneM lv key vs S.ce L S.f).1 (laneM lv key vs S.ce L S.f).2.1 w' := by
  obtain ⟨nx, wd, B1, B2, hn, hE⟩ := h
  obtain ⟨⟨hnx, -⟩, -, -⟩ := hn rfl
  have hnx := hnx (by rw [hpc]; rfl)
  rw [hpc] at hnx
  have hV : L.V = 0 := hL.v (by omega)
  have hM : laneM lv key vs S.ce L S.f = (0, { L with V := S.f (5, L.C, 4), pc := 9 }, S.f) := by simp [laneM, hpc]
  have hS : ∀ G, laneS lv key vs S L G = { S with G := G, qc := { S.qc with l := wrap64 (S.qc.l + 1) } } := fun G => by simp [laneS, laneQ, rollM, hM, hpc, isVal]
  rw [hM]
  have hn4 : w.cell? ⟨a, 4, none⟩ = some (mvL (fnL 8) a) := by rw [hE.rule 0 rfl 4, ← hnx]; rfl
  refine stepMv_l (fnL 8) (enters_fnL 8) _ _ hn4 ?_
  refine (loadVal_l (S.f (5, L.C, 4)) rfl (wf_part hL.C (by omega)) (hE.sub (.cons_cons _ (.cons _ (.cons _ (List.Sublist.refl _)))))).mono ?_
  rintro o w1 ⟨rfl, b1, b2, hE1⟩
  refine ⟨0, rfl, rfl, S.G, ?_⟩
  rw [hS]
  exact ⟨cvL b1 b2, S.f (5, L.C, 4), _, _, fun _ => ⟨⟨fun h => absurd h (by simp [isVal]), fun _ => ⟨b1, b2, rfl, rfl, rfl⟩⟩, fun h => absurd h (by simp), fun _ => rfl⟩, hE1⟩

set_option maxHeartbeats 1600000 in
theorem lane_5 (hpc : L.pc = 5) (hL : LmOk L) (hlv : 0 ≤ lv ∧ lv ≤ 1000000) (hwf : Wf L.p) (hg : Glo w0) (hm : S.m < maxLen) (h : LaneR w0 R a lv key vs S 0 L w) :
    Calls Tryz.prog 32 #[.pointer (some ⟨a, 0, none⟩), .iface 33 (.pointer (some ⟨S.p, 0, none⟩))] w fun o w' => o = .returned (.int .i64 (laneM lv key vs S.ce L S.f).1) ∧ ∃ G', LaneR w0 R a lv key vs (laneS lv key vs S L G') (laneM lv key vs S.ce L S.f).1 (laneM lv key vs S.ce L S.f).2.1 w' := by
  obtain ⟨nx, wd, B1, B2, hn, hE⟩ := h
  obtain ⟨⟨hnx, -⟩, -, -⟩ := hn rfl
  have hnx := hnx (by rw [hpc]; rfl)
  rw [hpc] at hnx
  have hV : L.V = 0 := hL.v (by omega)
  have hfd : L.fd = false := hL.fd (by omega)
  have hn4 : w.cell? ⟨a, 4, none⟩ = some (mvL (fnL 5) a) := by rw [hE.rule 0 rfl 4, ← hnx]; rfl
  have hE0 : Env w0 (boxI a (laneC S.c lv key vs nx 0 L.p.1 L.p.2.1 L.p.2.2 L.W L.C L.X wd false 0) :: LT S R) w := (hE.sub (.cons_cons _ (.cons _ (.cons _ (List.Sublist.refl _)))))
  by_cases heq : S.f L.p = L.W
  · have hM : laneM lv key vs S.ce L S.f = (cS (wordI false (slotI L.X) S.ce), { L with W := wordI false (slotI L.X) S.ce, X := 0, C := slotI (wordI false (slotI L.X) S.ce), pc := 3 }, swf S.f L.p L.W (wordI false (slotI L.X) S.ce)) := by simp [laneM, hpc, heq, comeM_cS]
    have hS : ∀ G, laneS lv key vs S L G = { S with G := G, f := swf S.f L.p L.W (wordI false (slotI L.X) S.ce), qc := swq S.qc true, m := S.m + 1 } := fun G => by simp [laneS, laneQ, rollM, hM, hpc, isVal, heq]
    rw [hM]
    refine stepMv_l (fnL 5) (enters_fnL 5) _ _ hn4 ?_
    refine (cutYes_l heq hwf hL.X hg hm hE0).mono ?_
    rintro o w1 ⟨rfl, nx, G', hnx, hE1⟩
    refine ⟨_, rfl, rfl, G', ?_⟩
    rw [hS]
    exact LaneR.came rfl hfd hV hnx hE1.none2
  · have hM : laneM lv key vs S.ce L S.f = (2, L, swf S.f L.p L.W (wordI false (slotI L.X) S.ce)) := by simp [laneM, hpc, heq]
    have hS : ∀ G, laneS lv key vs S L G = { S with G := G, f := swf S.f L.p L.W (wordI false (slotI L.X) S.ce), qc := swq S.qc false, m := S.m + 1 } := fun G => by simp [laneS, laneQ, rollM, hM, hpc, isVal, heq]
    rw [hM]
    refine stepMv_l (fnL 5) (enters_fnL 5) _ _ hn4 ?_
    refine (cutNo_l heq hwf hL.X hg hm hE0).mono ?_
    rintro o w1 ⟨rfl, nx, G', hE1⟩
    refine ⟨_, rfl, rfl, G', ?_⟩
    rw [hS]
    exact ⟨nx, wd, noI, noI, fun h => absurd h (by simp), hE1.none2⟩

set_option maxHeartbeats 1600000 in
theorem lane_2 (hpc : L.pc = 2) (hL : LmOk L) (hlv : 0 ≤ lv ∧ lv ≤ 1000000) (hwf : Wf L.p) (hg : Glo w0) (hm : S.m < maxLen) (h : LaneR w0 R a lv key vs S 0 L w) :
    Calls Tryz.prog 32 #[.pointer (some ⟨a, 0, none⟩), .iface 33 (.pointer (some ⟨S.p, 0, none⟩))] w fun o w' => o = .returned (.int .i64 (laneM lv key vs S.ce L S.f).1) ∧ ∃ G', LaneR w0 R a lv key vs (laneS lv key vs S L G') (laneM lv key vs S.ce L S.f).1 (laneM lv key vs S.ce L S.f).2.1 w' := by
  obtain ⟨nx, wd, B1, B2, hn, hE⟩ := h
  obtain ⟨⟨-, hnx⟩, hw7, hw9⟩ := hn rfl
  obtain ⟨b1, b2, rfl, rfl, rfl⟩ := hnx (by rw [hpc]; rfl)
  rw [hpc] at hE hw7 hw9
  have hn4 : w.cell? ⟨a, 4, none⟩ = some (cvL b1 b2) := by rw [hE.rule 0 rfl 4]; rfl
  have hE0 : Env w0 (boxI a (laneC S.c lv key vs (cvL b1 b2) 0 L.p.1 L.p.2.1 L.p.2.2 L.W L.C L.X wd false 0) :: boxI b1 [.pointer (some ⟨a, 0, none⟩)] :: boxI b2 [mvL (bhL 2) a] :: LT S R) w := hE
  by_cases hok : okB (S.f (1, 0, 0)) S.ce = true
  · have hS : ∀ G, laneS lv key vs S L G = { S with G := G, qc := { S.qc with l := wrap64 (S.qc.l + 1) } } := fun G => by simp [laneS, laneQ, rollM, laneM, hpc, isVal, hok]
    refine stepCv_l b1 b2 _ _ hn4 ?_
    have hgo : ∀ (s : Int) (L' : Lm), laneM lv key vs S.ce L S.f = (s, L', S.f) → (∀ v, Env w0 (boxI a (laneC S.c lv key vs (cvL b1 b2) 0 L.p.1 L.p.2.1 L.p.2.2 L.W L.C L.X wd false 0) :: boxI b1 [.pointer (some ⟨a, 0, none⟩)] :: boxI b2 [mvL (bhL 2) a] :: LT { S with qc := { S.qc with l := wrap64 (S.qc.l + 1) } } R) v → Calls Tryz.prog (bhL 2) #[.pointer (some ⟨a, 0, none⟩)] v fun o w' => o = .returned (.int .i64 s) ∧ LaneR w0 R a lv key vs { S with qc := { S.qc with l := wrap64 (S.qc.l + 1) } } s L' w') →
        Calls Tryz.prog 102 #[.iface 33 (.pointer (some ⟨S.p, 0, none⟩)), .pointer (some ⟨b1, 0, none⟩), .pointer (some ⟨b2, 0, none⟩)] w fun e w' => ∃ s, e = .returned (.int .i64 s) ∧ ((.returned (.int .i64 s) : Ending) = .returned (.int .i64 (laneM lv key vs S.ce L S.f).1) ∧ ∃ G', LaneR w0 R a lv key vs (laneS lv key vs S L G') (laneM lv key vs S.ce L S.f).1 (laneM lv key vs S.ce L S.f).2.1 w') := fun s L' hM hc => by
      refine (val1Yes_l (bhL 2) (enters_bhL 2) hok hE0 s _ hc).mono ?_
      rintro o w1 ⟨rfl, hR⟩
      refine ⟨s, rfl, ?_, S.G, ?_⟩
      · rw [hM]
      · rw [hM, hS]
        exact hR
    clear hE hn
    have hV : L.V = 0 := hL.v (by omega)
    have hfd : L.fd = false := hL.fd (by omega)
    by_cases hmk : markB L.W = true
    · refine hgo 2 L (by simp [laneM, holdsM, hpc, hok, hmk]) fun v hv => ?_
      refine (intoMark_l hmk hL.W hg hv).mono ?_
      rintro o w1 ⟨rfl, nx, hE1⟩
      exact ⟨rfl, nx, wd, _, _, fun h => absurd h (by simp), hE1⟩
    · have hmk : markB L.W = false := by simpa using hmk
      refine hgo (cS L.W) { L with W := L.W, X := 0, C := slotI L.W, pc := 3 } (by simp [laneM, holdsM, hpc, hok, hmk, comeM_cS]) fun v hv => ?_
      refine (intoCome_l hmk hL.W hg hv).mono ?_
      rintro o w1 ⟨rfl, nx, hnx, hE1⟩
      exact ⟨rfl, LaneR.came rfl hfd hV hnx hE1⟩
  · have hok : okB (S.f (1, 0, 0)) S.ce = false := by simpa using hok
    have hM : laneM lv key vs S.ce L S.f = (2, L, S.f) := by simp [laneM, hpc, hok]
    have hS : ∀ G, laneS lv key vs S L G = { S with G := G, qc := { S.qc with l := wrap64 (S.qc.l + 1) }, cr := wrap64 (S.cr + 1) } := fun G => by simp [laneS, laneQ, rollM, hM, hpc, isVal, hok]
    rw [hM]
    refine stepCv_l b1 b2 _ _ hn4 ?_
    refine (val1No_l _ hok hE0).mono ?_
    rintro o w1 ⟨rfl, nx, hE1⟩
    refine ⟨2, rfl, rfl, S.G, ?_⟩
    rw [hS]
    exact ⟨nx, wd, _, _, fun h => absurd h (by simp), hE1⟩

set_option maxHeartbeats 1600000 in
theorem lane_4 (hpc : L.pc = 4) (hL : LmOk L) (hlv : 0 ≤ lv ∧ lv ≤ 1000000) (hwf : Wf L.p) (hg : Glo w0) (hm : S.m < maxLen) (h : LaneR w0 R a lv key vs S 0 L w) :
    Calls Tryz.prog 32 #[.pointer (some ⟨a, 0, none⟩), .iface 33 (.pointer (some ⟨S.p, 0, none⟩))] w fun o w' => o = .returned (.int .i64 (laneM lv key vs S.ce L S.f).1) ∧ ∃ G', LaneR w0 R a lv key vs (laneS lv key vs S L G') (laneM lv key vs S.ce L S.f).1 (laneM lv key vs S.ce L S.f).2.1 w' := by
  obtain ⟨nx, wd, B1, B2, hn, hE⟩ := h
  obtain ⟨⟨-, hnx⟩, hw7, hw9⟩ := hn rfl
  obtain ⟨b1, b2, rfl, rfl, rfl⟩ := hnx (by rw [hpc]; rfl)
  rw [hpc] at hE hw7 hw9
  have hn4 : w.cell? ⟨a, 4, none⟩ = some (cvL b1 b2) := by rw [hE.rule 0 rfl 4]; rfl
  have hE0 : Env w0 (boxI a (laneC S.c lv key vs (cvL b1 b2) 0 L.p.1 L.p.2.1 L.p.2.2 L.W L.C L.X wd false 0) :: boxI b1 [.pointer (some ⟨a, 0, none⟩)] :: boxI b2 [mvL (bhL 4) a] :: LT S R) w := hE
  by_cases hok : okB (S.f (1, 0, 0)) S.ce = true
  · have hS : ∀ G, laneS lv key vs S L G = { S with G := G, qc := { S.qc with l := wrap64 (S.qc.l + 1) } } := fun G => by simp [laneS, laneQ, rollM, laneM, hpc, isVal, hok]
    refine stepCv_l b1 b2 _ _ hn4 ?_
    have hgo : ∀ (s : Int) (L' : Lm), laneM lv key vs S.ce L S.f = (s, L', S.f) → (∀ v, Env w0 (boxI a (laneC S.c lv key vs (cvL b1 b2) 0 L.p.1 L.p.2.1 L.p.2.2 L.W L.C L.X wd false 0) :: boxI b1 [.pointer (some ⟨a, 0, none⟩)] :: boxI b2 [mvL (bhL 4) a] :: LT { S with qc := { S.qc with l := wrap64 (S.qc.l + 1) } } R) v → Calls Tryz.prog (bhL 4) #[.pointer (some ⟨a, 0, none⟩)] v fun o w' => o = .returned (.int .i64 s) ∧ LaneR w0 R a lv key vs { S with qc := { S.qc with l := wrap64 (S.qc.l + 1) } } s L' w') →
        Calls Tryz.prog 102 #[.iface 33 (.pointer (some ⟨S.p, 0, none⟩)), .pointer (some ⟨b1, 0, none⟩), .pointer (some ⟨b2, 0, none⟩)] w fun e w' => ∃ s, e = .returned (.int .i64 s) ∧ ((.returned (.int .i64 s) : Ending) = .returned (.int .i64 (laneM lv key vs S.ce L S.f).1) ∧ ∃ G', LaneR w0 R a lv key vs (laneS lv key vs S L G') (laneM lv key vs S.ce L S.f).1 (laneM lv key vs S.ce L S.f).2.1 w') := fun s L' hM hc => by
      refine (val1Yes_l (bhL 4) (enters_bhL 4) hok hE0 s _ hc).mono ?_
      rintro o w1 ⟨rfl, hR⟩
      refine ⟨s, rfl, ?_, S.G, ?_⟩
      · rw [hM]
      · rw [hM, hS]
        exact hR
    clear hE hn
    refine hgo 0 { L with pc := if markB L.X then 5 else 6 } (by simp [laneM, holdsM, hpc, hok]) fun v hv => ?_
    refine (out_l hL.X hg hv).mono ?_
    rintro o w1 ⟨rfl, hE1⟩
    cases hmk : markB L.X
    · rw [hmk] at hE1
      exact ⟨rfl, _, wd, _, _, fun _ => ⟨⟨fun _ => rfl, fun h => absurd h (by simp [isVal])⟩, fun h => absurd h (by simp), fun h => absurd h (by simp)⟩, hE1⟩
    · rw [hmk] at hE1
      exact ⟨rfl, _, wd, _, _, fun _ => ⟨⟨fun _ => rfl, fun h => absurd h (by simp [isVal])⟩, fun h => absurd h (by simp), fun h => absurd h (by simp)⟩, hE1⟩
  · have hok : okB (S.f (1, 0, 0)) S.ce = false := by simpa using hok
    have hM : laneM lv key vs S.ce L S.f = (2, L, S.f) := by simp [laneM, hpc, hok]
    have hS : ∀ G, laneS lv key vs S L G = { S with G := G, qc := { S.qc with l := wrap64 (S.qc.l + 1) }, cr := wrap64 (S.cr + 1) } := fun G => by simp [laneS, laneQ, rollM, hM, hpc, isVal, hok]
    rw [hM]
    refine stepCv_l b1 b2 _ _ hn4 ?_
    refine (val1No_l _ hok hE0).mono ?_
    rintro o w1 ⟨rfl, nx, hE1⟩
    refine ⟨2, rfl, rfl, S.G, ?_⟩
    rw [hS]
    exact ⟨nx, wd, _, _, fun h => absurd h (by simp), hE1⟩

set_option maxHeartbeats 1600000 in
theorem lane_7 (hpc : L.pc = 7) (hL : LmOk L) (hlv : 0 ≤ lv ∧ lv ≤ 1000000) (hwf : Wf L.p) (hg : Glo w0) (hm : S.m < maxLen) (h : LaneR w0 R a lv key vs S 0 L w) :
    Calls Tryz.prog 32 #[.pointer (some ⟨a, 0, none⟩), .iface 33 (.pointer (some ⟨S.p, 0, none⟩))] w fun o w' => o = .returned (.int .i64 (laneM lv key vs S.ce L S.f).1) ∧ ∃ G', LaneR w0 R a lv key vs (laneS lv key vs S L G') (laneM lv key vs S.ce L S.f).1 (laneM lv key vs S.ce L S.f).2.1 w' := by
  obtain ⟨nx, wd, B1, B2, hn, hE⟩ := h
  obtain ⟨⟨-, hnx⟩, hw7, hw9⟩ := hn rfl
  obtain ⟨b1, b2, rfl, rfl, rfl⟩ := hnx (by rw [hpc]; rfl)
  rw [hpc] at hE hw7 hw9
  have hn4 : w.cell? ⟨a, 4, none⟩ = some (cvL b1 b2) := by rw [hE.rule 0 rfl 4]; rfl
  have hE0 : Env w0 (boxI a (laneC S.c lv key vs (cvL b1 b2) 0 L.p.1 L.p.2.1 L.p.2.2 L.W L.C L.X wd false 0) :: boxI b1 [.pointer (some ⟨a, 0, none⟩)] :: boxI b2 [mvL (bhL 7) a] :: LT S R) w := hE
  by_cases hok : okB (S.f (1, 0, 0)) S.ce = true
  · have hS : ∀ G, laneS lv key vs S L G = { S with G := G, qc := { S.qc with l := wrap64 (S.qc.l + 1) } } := fun G => by simp [laneS, laneQ, rollM, laneM, hpc, isVal, hok]
    refine stepCv_l b1 b2 _ _ hn4 ?_
    have hgo : ∀ (s : Int) (L' : Lm), laneM lv key vs S.ce L S.f = (s, L', S.f) → (∀ v, Env w0 (boxI a (laneC S.c lv key vs (cvL b1 b2) 0 L.p.1 L.p.2.1 L.p.2.2 L.W L.C L.X wd false 0) :: boxI b1 [.pointer (some ⟨a, 0, none⟩)] :: boxI b2 [mvL (bhL 7) a] :: LT { S with qc := { S.qc with l := wrap64 (S.qc.l + 1) } } R) v → Calls Tryz.prog (bhL 7) #[.pointer (some ⟨a, 0, none⟩)] v fun o w' => o = .returned (.int .i64 s) ∧ LaneR w0 R a lv key vs { S with qc := { S.qc with l := wrap64 (S.qc.l + 1) } } s L' w') →
        Calls Tryz.prog 102 #[.iface 33 (.pointer (some ⟨S.p, 0, none⟩)), .pointer (some ⟨b1, 0, none⟩), .pointer (some ⟨b2, 0, none⟩)] w fun e w' => ∃ s, e = .returned (.int .i64 s) ∧ ((.returned (.int .i64 s) : Ending) = .returned (.int .i64 (laneM lv key vs S.ce L S.f).1) ∧ ∃ G', LaneR w0 R a lv key vs (laneS lv key vs S L G') (laneM lv key vs S.ce L S.f).1 (laneM lv key vs S.ce L S.f).2.1 w') := fun s L' hM hc => by
      refine (val1Yes_l (bhL 7) (enters_bhL 7) hok hE0 s _ hc).mono ?_
      rintro o w1 ⟨rfl, hR⟩
      refine ⟨s, rfl, ?_, S.G, ?_⟩
      · rw [hM]
      · rw [hM, hS]
        exact hR
    clear hE hn
    have hV : L.V = 0 := hL.v (by omega)
    have hfd : L.fd = false := hL.fd (by omega)
    have hwd : wd = L.K := hw7 rfl
    subst hwd
    by_cases hlt : L.K < key
    · refine hgo (cS L.X) { L with p := (5, L.C, 7 + lv), W := L.X, X := 0, C := slotI L.X, pc := 3 } (by simp [laneM, holdsM, hpc, hok, hlt, comeM_cS]) fun v hv => ?_
      refine (keyLess_l hlt hlv hL.X hg hv).mono ?_
      rintro o w1 ⟨rfl, nx, hnx, hE1⟩
      exact ⟨rfl, LaneR.came (L := { L with p := (5, L.C, 7 + lv) }) rfl hfd hV hnx hE1⟩
    · by_cases heq : L.K = key
      · cases vs
        · refine hgo 1 { L with fd := true } (by simp [laneM, holdsM, hpc, hok, heq]) fun v hv => ?_
          refine (keyFound_l heq hv).mono ?_
          rintro o w1 ⟨rfl, nx, hE1⟩
          have h2 : pvS 1 { L with fd := true } = 0 := hV
          refine ⟨rfl, nx, L.K, boxI b1 [.pointer (some ⟨a, 0, none⟩)], boxI b2 [mvL (bhL 7) a], fun h => absurd h (by simp), ?_⟩
          rw [h2]
          exact hE1
        · refine hgo 0 { L with fd := true, pc := 8 } (by simp [laneM, holdsM, hpc, hok, heq]) fun v hv => ?_
          refine (keyVal_l heq hv).mono ?_
          rintro o w1 ⟨rfl, hE1⟩
          exact ⟨rfl, _, L.K, _, _, fun _ => ⟨⟨fun _ => rfl, fun h => absurd h (by simp [isVal])⟩, fun h => absurd h (by simp), fun h => absurd h (by simp)⟩, hE1⟩
      · refine hgo 1 L (by simp [laneM, holdsM, hpc, hok, hlt, heq]) fun v hv => ?_
        refine (keyMore_l (by omega) hv).mono ?_
        rintro o w1 ⟨rfl, nx, hE1⟩
        have h1 : pfS 1 L = false := hfd
        have h2 : pvS 1 L = 0 := hV
        refine ⟨rfl, nx, L.K, boxI b1 [.pointer (some ⟨a, 0, none⟩)], boxI b2 [mvL (bhL 7) a], fun h => absurd h (by simp), ?_⟩
        rw [h1, h2]
        exact hE1
  · have hok : okB (S.f (1, 0, 0)) S.ce = false := by simpa using hok
    have hM : laneM lv key vs S.ce L S.f = (2, L, S.f) := by simp [laneM, hpc, hok]
    have hS : ∀ G, laneS lv key vs S L G = { S with G := G, qc := { S.qc with l := wrap64 (S.qc.l + 1) }, cr := wrap64 (S.cr + 1) } := fun G => by simp [laneS, laneQ, rollM, hM, hpc, isVal, hok]
    rw [hM]
    refine stepCv_l b1 b2 _ _ hn4 ?_
    refine (val1No_l _ hok hE0).mono ?_
    rintro o w1 ⟨rfl, nx, hE1⟩
    refine ⟨2, rfl, rfl, S.G, ?_⟩
    rw [hS]
    exact ⟨nx, wd, _, _, fun h => absurd h (by simp), hE1⟩

set_option maxHeartbeats 1600000 in
theorem lane_9 (hpc : L.pc = 9) (hL : LmOk L) (hlv : 0 ≤ lv ∧ lv ≤ 1000000) (hwf : Wf L.p) (hg : Glo w0) (hm : S.m < maxLen) (h : LaneR w0 R a lv key vs S 0 L w) :
    Calls Tryz.prog 32 #[.pointer (some ⟨a, 0, none⟩), .iface 33 (.pointer (some ⟨S.p, 0, none⟩))] w fun o w' => o = .returned (.int .i64 (laneM lv key vs S.ce L S.f).1) ∧ ∃ G', LaneR w0 R a lv key vs (laneS lv key vs S L G') (laneM lv key vs S.ce L S.f).1 (laneM lv key vs S.ce L S.f).2.1 w' := by
  obtain ⟨nx, wd, B1, B2, hn, hE⟩ := h
  obtain ⟨⟨-, hnx⟩, hw7, hw9⟩ := hn rfl
  obtain ⟨b1, b2, rfl, rfl, rfl⟩ := hnx (by rw [hpc]; rfl)
  rw [hpc] at hE hw7 hw9
  have hn4 : w.cell? ⟨a, 4, none⟩ = some (cvL b1 b2) := by rw [hE.rule 0 rfl 4]; rfl
  have hE0 : Env w0 (boxI a (laneC S.c lv key vs (cvL b1 b2) 0 L.p.1 L.p.2.1 L.p.2.2 L.W L.C L.X wd false 0) :: boxI b1 [.pointer (some ⟨a, 0, none⟩)] :: boxI b2 [mvL (bhL 9) a] :: LT S R) w := hE
  by_cases hok : okB (S.f (1, 0, 0)) S.ce = true
  · have hS : ∀ G, laneS lv key vs S L G = { S with G := G, qc := { S.qc with l := wrap64 (S.qc.l + 1) } } := fun G => by simp [laneS, laneQ, rollM, laneM, hpc, isVal, hok]
    refine stepCv_l b1 b2 _ _ hn4 ?_
    have hgo : ∀ (s : Int) (L' : Lm), laneM lv key vs S.ce L S.f = (s, L', S.f) → (∀ v, Env w0 (boxI a (laneC S.c lv key vs (cvL b1 b2) 0 L.p.1 L.p.2.1 L.p.2.2 L.W L.C L.X wd false 0) :: boxI b1 [.pointer (some ⟨a, 0, none⟩)] :: boxI b2 [mvL (bhL 9) a] :: LT { S with qc := { S.qc with l := wrap64 (S.qc.l + 1) } } R) v → Calls Tryz.prog (bhL 9) #[.pointer (some ⟨a, 0, none⟩)] v fun o w' => o = .returned (.int .i64 s) ∧ LaneR w0 R a lv key vs { S with qc := { S.qc with l := wrap64 (S.qc.l + 1) } } s L' w') →
        Calls Tryz.prog 102 #[.iface 33 (.pointer (some ⟨S.p, 0, none⟩)), .pointer (some ⟨b1, 0, none⟩), .pointer (some ⟨b2, 0, none⟩)] w fun e w' => ∃ s, e = .returned (.int .i64 s) ∧ ((.returned (.int .i64 s) : Ending) = .returned (.int .i64 (laneM lv key vs S.ce L S.f).1) ∧ ∃ G', LaneR w0 R a lv key vs (laneS lv key vs S L G') (laneM lv key vs S.ce L S.f).1 (laneM lv key vs S.ce L S.f).2.1 w') := fun s L' hM hc => by
      refine (val1Yes_l (bhL 9) (enters_bhL 9) hok hE0 s _ hc).mono ?_
      rintro o w1 ⟨rfl, hR⟩
      refine ⟨s, rfl, ?_, S.G, ?_⟩
      · rw [hM]
      · rw [hM, hS]
        exact hR
    clear hE hn
    have hft : L.fd = true := hL.ft (by omega)
    have hwd : wd = L.V := hw9 rfl
    subst hwd
    refine hgo 1 L (by simp [laneM, holdsM, hpc, hok]) fun v hv => ?_
    refine (val_l hv).mono ?_
    rintro o w1 ⟨rfl, nx, hE1⟩
    have h1 : pfS 1 L = true := hft
    refine ⟨rfl, nx, L.V, boxI b1 [.pointer (some ⟨a, 0, none⟩)], boxI b2 [mvL (bhL 9) a], fun h => absurd h (by simp), ?_⟩
    rw [h1]
    exact hE1
  · have hok : okB (S.f (1, 0, 0)) S.ce = false := by simpa using hok
    have hM : laneM lv key vs S.ce L S.f = (2, L, S.f) := by simp [laneM, hpc, hok]
    have hS : ∀ G, laneS lv key vs S L G = { S with G := G, qc := { S.qc with l := wrap64 (S.qc.l + 1) }, cr := wrap64 (S.cr + 1) } := fun G => by simp [laneS, laneQ, rollM, hM, hpc, isVal, hok]
    rw [hM]
    refine stepCv_l b1 b2 _ _ hn4 ?_
    refine (val1No_l _ hok hE0).mono ?_
    rintro o w1 ⟨rfl, nx, hE1⟩
    refine ⟨2, rfl, rfl, S.G, ?_⟩
    rw [hS]
    exact ⟨nx, wd, _, _, fun h => absurd h (by simp), hE1⟩

theorem lane_l (hL : LmOk L) (hlv : 0 ≤ lv ∧ lv ≤ 1000000) (hwf : Wf L.p) (hg : Glo w0) (hm : S.m < maxLen) (h : LaneR w0 R a lv key vs S 0 L w) :
    Calls Tryz.prog 32 #[.pointer (some ⟨a, 0, none⟩), .iface 33 (.pointer (some ⟨S.p, 0, none⟩))] w fun o w' => o = .returned (.int .i64 (laneM lv key vs S.ce L S.f).1) ∧ ∃ G', LaneR w0 R a lv key vs (laneS lv key vs S L G') (laneM lv key vs S.ce L S.f).1 (laneM lv key vs S.ce L S.f).2.1 w' := by
  rcases hL.pc with h0 | h0 | h0 | h0 | h0 | h0 | h0 | h0 | h0
  · exact lane_0 h0 hL hlv hwf hg hm h
  · exact lane_2 h0 hL hlv hwf hg hm h
  · exact lane_3 h0 hL hlv hwf hg hm h
  · exact lane_4 h0 hL hlv hwf hg hm h
  · exact lane_5 h0 hL hlv hwf hg hm h
  · exact lane_6 h0 hL hlv hwf hg hm h
  · exact lane_7 h0 hL hlv hwf hg hm h
  · exact lane_8 h0 hL hlv hwf hg hm h
  · exact lane_9 h0 hL hlv hwf hg hm h
end
end Go.Proofs.YtchcdfoncebemaaGreatDoor

/- Drawn regions with a chain whose values hang on the world (Ord3): calls beside the chain that leave all as it is. -/
namespace Go.Proofs.YtchcdfoncebemaaGreatDoor.Ord3
open Go Go.Proofs.YtchcdfoncebemaaGreatDoor.Ord
set_option maxRecDepth 100000
variable {P : Program} {md : Region.Mode} {ops : Array Oper} {Q : Exit → Act → World → Prop} {vs : List (Value → Prop)} {ps : List Nat} {C : World → Prop} {A : List Value → World → Prop}
theorem in_call {k : Nat} {o : Oper} {rest : List Oper} {a : Act} {v : Value} {f : FuncId} {args : Array Value} {κs : List Value} (hf : textFits md ops = true) (hk : k ∉ ps) (hvs : vs[k]? = some fun u => u = v) (hw : Region.wanted o (yielded ops a.tmps) = true)
    (hr : ∀ w, C w → (execOp a.eval o).run P w = .ok (.enter f args) w) (hc : ∀ w, C w → Calls P f args w fun e w' => e = .returned v ∧ C w' ∧ ∀ us, A us w → A us w')
    (h : In P md ops Q vs ps C A (k + 1) rest κs (a.put o.dst v)) : In P md ops Q vs ps C A k (o :: rest) κs a := fun κ hκ =>
  InText.cons hf v ⟨_, hvs, rfl⟩ (Or.inl ⟨hw, fun l ρ w hr' _ _ hS => by
    rw [hr w hS.2.2.1]
    refine (hc w hS.2.2.1).mono fun e w' he => ?_
    exact ⟨_, he.1, ⟨_, hvs, rfl⟩, chain_set hk hr' hS he.2.1 he.2.2⟩⟩)
    fun u ⟨p, hp, hu⟩ => by
      rw [hvs] at hp
      cases hp
      rw [hu]
      exact h _ (by rw [map_up (fun e => hk (List.mem_of_mem_take e))]; exact hκ)
theorem Stage.three {A1 A2 A3 : List Value → World → Prop} {κs : List Value} {w w' : World} (h : Stage (fun κs => [A1 κs, A2 κs, A3 κs]) κs w) (h1 : A1 κs w → A1 κs w') (h2 : A2 κs w → A2 κs w') (h3 : A3 κs w → A3 κs w') : Stage (fun κs => [A1 κs, A2 κs, A3 κs]) κs w' := by
  obtain ⟨T, hT, hw⟩ := h
  refine ⟨T, hT, ?_⟩
  have hm := List.mem_of_getElem? hT
  simp only [List.mem_cons, List.not_mem_nil, or_false] at hm
  rcases hm with rfl | rfl | rfl
  · exact h1 hw
  · exact h2 hw
  · exact h3 hw
end Go.Proofs.YtchcdfoncebemaaGreatDoor.Ord3

/- Lanes and searches: New, NewSearch, what they tell; the checkpoint; Step of a search over the model. -/
namespace Go.Proofs.YtchcdfoncebemaaGreatDoor
open Go.RowKit Go.Maps
set_option maxRecDepth 100000

/-- A search's cells. -/
def srC (c : Nat) (k key : Int) (vs : Bool) (lp : Value) : List Value := [.pointer (some ⟨c, 0, none⟩), .int .i64 k, .int .u64 key, .bool vs, lp]

section
variable {w0 w : World} {L : List Item}
set_option maxHeartbeats 1600000 in
theorem new_l (c : Nat) (x y z lv key : Int) (vs : Bool) (hE : Env w0 L w) :
    Calls Tryz.prog 30 #[.pointer (some ⟨c, 0, none⟩), .agg #[.int .i64 x, .int .i64 y, .int .i64 z, .int .i64 0], .int .i64 lv, .int .u64 key, .bool vs] w fun o w' => ∃ a, o = .returned (.pointer (some ⟨a, 0, none⟩)) ∧ Env w0 (boxI a (laneC c lv key vs (mvL 59 a) 0 x y z 0 0 0 0 false 0) :: L) w' := by
  have hmf := makeF
  have hE1 := hE.box w.heap.size rfl [.int .i64 x, .int .i64 y, .int .i64 z, .int .i64 0] 72
  have r0 := hE1.rule 0 rfl
  have hE2 := hE1.box (w.heap.size + 1) (by simp) (laneC c lv key vs (mvL 59 (w.heap.size + 1)) 0 x y z 0 0 0 0 false 0) 118
  clear hE
  go_enter Tryz.func30, Tryz.ntmps30
  go_wp2_with fail
  go_ret
  exact ⟨_, rfl, hE2.sub (.cons_cons _ (.cons _ (List.Sublist.refl _)))⟩
theorem newNil_l (x y z d lv key : Int) (vs : Bool) (w : World) :
    Calls Tryz.prog 30 #[.pointer none, .agg #[.int .i64 x, .int .i64 y, .int .i64 z, .int .i64 d], .int .i64 lv, .int .u64 key, .bool vs] w fun o w' => o = .returned (.pointer none) ∧ Below w.heap.size w w' := by
  go_enter Tryz.func30, Tryz.ntmps30
  go_wp2
  go_ret
  exact ⟨rfl, (Below.refl _ _).alloc (Nat.le_refl _) _⟩
set_option maxHeartbeats 1600000 in
theorem newSearch_l (c : Nat) (k key : Int) (vs : Bool) (hE : Env w0 L w) :
    Calls Tryz.prog 13 #[.pointer (some ⟨c, 0, none⟩), .int .i64 k, .int .u64 key, .bool vs] w fun o w' => ∃ a, o = .returned (.pointer (some ⟨a, 0, none⟩)) ∧ Env w0 (boxI a (srC c k key vs (.pointer none)) :: L) w' := by
  have hE2 := hE.box w.heap.size rfl (srC c k key vs (.pointer none)) 111
  clear hE
  go_enter Tryz.func13, Tryz.ntmps13
  go_wp2_with fail
  go_ret
  exact ⟨_, rfl, hE2⟩
theorem newSearchNil_l (k key : Int) (vs : Bool) (w : World) :
    Calls Tryz.prog 13 #[.pointer none, .int .i64 k, .int .u64 key, .bool vs] w fun o w' => o = .returned (.pointer none) ∧ w' = w := by
  go_enter Tryz.func13, Tryz.ntmps13
  go_wp2
  go_ret
  exact ⟨rfl, rfl⟩
end

section
variable {w : World} {a c : Nat} {lv key : Int} {vs : Bool} {nx : Value} {st x y z W C X wd : Int} {pf : Bool} {pv : Int}
theorem found_g (hb : Blk 0 w a (laneC c lv key vs nx st x y z W C X wd pf pv)) : Calls Tryz.prog 21 #[.pointer (some ⟨a, 0, none⟩)] w fun o w' => o = .returned (.bool pf) ∧ w' = w := by
  have r1 := hb.rule
  unfold laneC at r1
  go_enter Tryz.func21, Tryz.ntmps21
  go_wp2
  go_ret
  exact ⟨rfl, rfl⟩
theorem val_g (hb : Blk 0 w a (laneC c lv key vs nx st x y z W C X wd pf pv)) : Calls Tryz.prog 26 #[.pointer (some ⟨a, 0, none⟩)] w fun o w' => o = .returned (.int .u64 pv) ∧ w' = w := by
  have r1 := hb.rule
  unfold laneC at r1
  go_enter Tryz.func26, Tryz.ntmps26
  go_wp2
  go_ret
  exact ⟨rfl, rfl⟩
set_option maxHeartbeats 800000 in
theorem who_g (hb : Blk 0 w a (laneC c lv key vs nx st x y z W C X wd pf pv)) : Calls Tryz.prog 22 #[.pointer (some ⟨a, 0, none⟩)] w fun o w' => o = .returned (.agg #[.int .i64 C, .int .i64 0]) ∧ Below w.heap.size w w' := by
  have r1 := cell_more hb.1 hb.rule
  unfold laneC at r1
  go_enter Tryz.func22, Tryz.ntmps22
  go_wp2
  exact bodyPost_ret (v := .agg #[.int .i64 C, .int .i64 0]) (by simp [results, Tryz.results22, go_sem]) rfl ⟨rfl, (Below.refl _ _).alloc (Nat.le_refl _) _⟩
set_option maxHeartbeats 800000 in
theorem at_g (hb : Blk 0 w a (laneC c lv key vs nx st x y z W C X wd pf pv)) : Calls Tryz.prog 23 #[.pointer (some ⟨a, 0, none⟩)] w fun o w' => o = .returned (.agg #[.int .i64 x, .int .i64 y, .int .i64 z, .int .i64 0]) ∧ Below w.heap.size w w' := by
  have r1 := cell_more hb.1 hb.rule
  unfold laneC at r1
  go_enter Tryz.func23, Tryz.ntmps23
  go_wp2
  exact bodyPost_ret (v := .agg #[.int .i64 x, .int .i64 y, .int .i64 z, .int .i64 0]) (by simp [results, Tryz.results23, go_sem]) rfl ⟨rfl, (Below.refl _ _).alloc (Nat.le_refl _) _⟩
set_option maxHeartbeats 800000 in
theorem into_g (hb : Blk 0 w a (laneC c lv key vs nx st x y z W C X wd pf pv)) : Calls Tryz.prog 24 #[.pointer (some ⟨a, 0, none⟩)] w fun o w' => o = .returned (.agg #[.int .u64 W, .int .i64 0, .bool false]) ∧ Below w.heap.size w w' := by
  have r1 := cell_more hb.1 hb.rule
  unfold laneC at r1
  go_enter Tryz.func24, Tryz.ntmps24
  go_wp2
  exact bodyPost_ret (v := .agg #[.int .u64 W, .int .i64 0, .bool false]) (by simp [results, Tryz.results24, go_sem]) rfl ⟨rfl, (Below.refl _ _).alloc (Nat.le_refl _) _⟩
set_option maxHeartbeats 800000 in
theorem out_g (hb : Blk 0 w a (laneC c lv key vs nx st x y z W C X wd pf pv)) : Calls Tryz.prog 25 #[.pointer (some ⟨a, 0, none⟩)] w fun o w' => o = .returned (.agg #[.int .u64 X, .int .i64 0, .bool false]) ∧ Below w.heap.size w w' := by
  have r1 := cell_more hb.1 hb.rule
  unfold laneC at r1
  go_enter Tryz.func25, Tryz.ntmps25
  go_wp2
  exact bodyPost_ret (v := .agg #[.int .u64 X, .int .i64 0, .bool false]) (by simp [results, Tryz.results25, go_sem]) rfl ⟨rfl, (Below.refl _ _).alloc (Nat.le_refl _) _⟩
theorem lane_g {k : Int} {lp : Option Addr} (hb : Blk 0 w a (srC c k key vs (.pointer lp))) : Calls Tryz.prog 14 #[.pointer (some ⟨a, 0, none⟩)] w fun o w' => o = .returned (.pointer lp) ∧ w' = w := by
  have r1 := hb.rule
  unfold srC at r1
  go_enter Tryz.func14, Tryz.ntmps14
  go_wp2
  go_ret
  exact ⟨rfl, rfl⟩
end

section
variable {w0 w : World} {R : List Item} {sb : Nat} {S : ST} {k key : Int} {vs : Bool} {lp : Value}
set_option maxHeartbeats 3200000 in
theorem check_s (hE : Env w0 (boxI sb (srC S.c k key vs lp) :: LT S R) w) :
    Calls Tryz.prog 55 #[.pointer (some ⟨sb, 0, none⟩), .iface 33 (.pointer (some ⟨S.p, 0, none⟩))] w fun o w' => o = .returned (.int .i64 0) ∧ ∃ a, Env w0 (boxI a (laneC S.c 0 key vs (mvL 59 a) 0 4 0 k 0 0 0 0 false 0) :: boxI sb (srC S.c k key vs (.pointer (some ⟨a, 0, none⟩))) :: LT { S with ce := epI (S.f (1, 0, 0)), qc := { S.qc with l := wrap64 (S.qc.l + 1) } } R) w' := by
  have hc := check_w _ (rfl : S.f (1, 0, 0) = S.f (1, 0, 0)) 1 3 4 (by decide) (by decide) hE rfl rfl rfl
  simp only [List.set_cons_succ, List.set_cons_zero] at hc
  have HC := Lib.hid hc
  clear hc
  have r := hE.rule 0 rfl
  unfold srC at r
  go_enter Tryz.func55, Tryz.ntmps55
  go_wp2_with fail
  refine HC.out.mono ?_
  rintro o w1 ⟨rfl, hE1⟩
  replace hE1 : Env w0 (boxI sb (srC S.c k key vs lp) :: LT { S with ce := epI (S.f (1, 0, 0)), qc := { S.qc with l := wrap64 (S.qc.l + 1) } } R) w1 := hE1
  clear HC hE r
  generalize hS1 : ({ S with ce := epI (S.f (1, 0, 0)), qc := { S.qc with l := wrap64 (S.qc.l + 1) } } : ST) = S1 at *
  have HS1 := Lib.hid hS1
  clear hS1
  go_wp2_with fail
  refine Ord3.wp_chain [?_, ?_, ?_, ?_, ?_, ?_, ?_, ?_, ?_, ?_, ?_, ?_, ?_, ?_, ?_, ?_, ?_, ?_, ?_, ?_, ?_, ?_, ?_] [19, 22] (fun w' => ∃ l9, Blk 0 w' sb (srC S.c k key vs l9)) (Ord3.Stage fun κs => [Env w0 (boxI sb (srC S.c k key vs lp) :: LT S1 R), fun w' => ∃ a, κs.getD 0 undef = .pointer (some ⟨a, 0, none⟩) ∧ Env w0 (boxI a (laneC S.c 0 key vs (mvL 59 a) 0 4 0 k 0 0 0 0 false 0) :: boxI sb (srC S.c k key vs lp) :: LT S1 R) w', fun w' => ∃ a, Env w0 (boxI a (laneC S.c 0 key vs (mvL 59 a) 0 4 0 k 0 0 0 0 false 0) :: boxI sb (srC S.c k key vs (.pointer (some ⟨a, 0, none⟩))) :: LT S1 R) w']) (by kernel_rfl) (by kernel_rfl) (by kernel_rfl) ⟨lp, hE1.drew.get 0 rfl⟩ ⟨_, rfl, hE1.drew⟩ (fun hT => ?_)
  rotate_left 23
  have hT9 := Lib.hid hT
  clear hT
  repeat (first
    | (focus (refine Ord3.in_value (v := ?_) hT9.out (by decide) ?_ (by rfl) ?_ ?_; rotate_left 2; (focus (intro w5 hS; obtain ⟨l9, hS9⟩ := hS; have r1 := Blk.rule hS9; unfold srC at r1; go_simp <;> with_reducible rfl)); rotate_right; (focus rfl); (try simp only [Act.put, List.setIfInBounds_toArray, List.set_cons_zero, List.set_cons_succ])))
    | (focus (refine Ord3.in_off hT9.out (by decide) ?_ (by rfl) ?_; (focus rfl); (try simp only [Act.put, List.setIfInBounds_toArray, List.set_cons_zero, List.set_cons_succ])))
    | (focus (refine Ord3.in_call (v := ?_) (f := ?_) (args := ?_) hT9.out (by decide) ?_ (by rfl) ?_ ?_ ?_; rotate_left 4; (focus (intro w5 hS; obtain ⟨l9, hS9⟩ := hS; have r1 := Blk.rule hS9; unfold srC at r1; go_simp; constructor <;> with_reducible rfl)); (focus (intro w5 hS; (first | (with_reducible refine (root_any _ _).mono ?_; rintro o w6 ⟨rfl, hb6⟩; constructor; with_reducible rfl; exact ⟨hS.elim fun l9 h => ⟨l9, h.under hb6⟩, fun us h => Ord3.Stage.three h (fun h => h.over hb6) (fun h => h.elim fun a h => ⟨a, h.1, h.2.over hb6⟩) (fun h => h.elim fun a h => ⟨a, h.over hb6⟩)⟩)))); rotate_right; (focus rfl); (try simp only [Act.put, List.setIfInBounds_toArray, List.set_cons_zero, List.set_cons_succ]))))
  refine Ord3.in_turn (fun u => ∃ q, u = .pointer (some ⟨q, 0, none⟩)) _ ⟨0, rfl⟩ hT9.out rfl (by decide) (by rfl) ?_ (Or.inl rfl) (by rfl) ?_ ?_
  · rfl
  · rintro w7 hC7 ⟨P7, hP7, hA7⟩
    cases hP7
    go_simp
    simp only [Ord3.Lands]
    refine (new_l S.c 4 0 k 0 key vs hA7).mono ?_
    rintro o w8 ⟨a8, rfl, hE8⟩
    exact ⟨_, rfl, ⟨a8, rfl⟩, ⟨lp, hE8.get 1 rfl⟩, _, rfl, a8, rfl, hE8⟩
  rintro _ ⟨a9, rfl⟩
  (try simp only [Act.put, List.setIfInBounds_toArray, List.set_cons_zero, List.set_cons_succ])
  repeat (first
    | (focus (refine Ord3.in_value (v := ?_) hT9.out (by decide) ?_ (by rfl) ?_ ?_; rotate_left 2; (focus (intro w5 hS; obtain ⟨l9, hS9⟩ := hS; have r1 := Blk.rule hS9; unfold srC at r1; go_simp <;> with_reducible rfl)); rotate_right; (focus rfl); (try simp only [Act.put, List.setIfInBounds_toArray, List.set_cons_zero, List.set_cons_succ])))
    | (focus (refine Ord3.in_off hT9.out (by decide) ?_ (by rfl) ?_; (focus rfl); (try simp only [Act.put, List.setIfInBounds_toArray, List.set_cons_zero, List.set_cons_succ]))))
  refine Ord3.in_turn (fun u => u = undef) _ rfl hT9.out rfl (by decide) (by rfl) ?_ (Or.inr ⟨_, 19, [], rfl, by kernel_rfl, by kernel_rfl, rfl⟩) (by rfl) ?_ ?_
  · rfl
  · rintro w7 hC7 ⟨P7, hP7, hA7⟩
    cases hP7
    obtain ⟨a8, he, hA7⟩ := hA7
    cases he
    have r := hA7.rule 1 rfl
    unfold srC at r
    have g := hA7.thaw 1 rfl 4 (by simp [srC])
    go_simp
    simp only [Ord3.Lands]
    have h9 := hA7.put 1 rfl (j := 4) (by simp [srC]) (.pointer (some ⟨a9, 0, none⟩))
    exact ⟨trivial, ⟨_, h9.get 1 rfl⟩, _, rfl, a9, h9⟩
  rintro _ rfl
  (try simp only [Act.put, List.setIfInBounds_toArray, List.set_cons_zero, List.set_cons_succ])
  refine Ord3.in_nil rfl ?_
  rintro w9 hC9 ⟨P9, hP9, hA9⟩
  cases hP9
  obtain ⟨a8, hA9⟩ := hA9
  clear hT9 hC9 hE1
  go_wp2_with fail
  go_ret
  have h1 := HS1.out
  subst h1
  exact ⟨rfl, a8, hA9⟩
end
end Go.Proofs.YtchcdfoncebemaaGreatDoor

/- Searches: Step over the model; what a lane keeps. -/
namespace Go.Proofs.YtchcdfoncebemaaGreatDoor
open Go.RowKit Go.Maps
set_option maxRecDepth 100000

def St3 {α : Type} (q : Int × α) : Prop := q.1 = 0 ∨ q.1 = 1 ∨ q.1 = 2
theorem come_state (L : Lm) (v : Int) : St3 (comeM L v) := by
  unfold comeM
  by_cases h : slotI v = 0
  · simp [h, St3]
  · simp [h, St3]
theorem holds_state (lv key : Int) (vs : Bool) (L : Lm) : St3 (holdsM lv key vs L) := by
  unfold holdsM
  repeat' split
  all_goals first | exact come_state _ _ | simp [St3]
theorem lane_state (lv key : Int) (vs : Bool) (e : Int) (L : Lm) (f : Plc → Int) : (laneM lv key vs e L f).1 = 0 ∨ (laneM lv key vs e L f).1 = 1 ∨ (laneM lv key vs e L f).1 = 2 := by
  show St3 (laneM lv key vs e L f)
  unfold laneM
  repeat' split
  all_goals first | exact come_state L (wordI false (slotI L.X) e) | exact holds_state lv key vs L | simp [St3]
theorem cS_zero {v : Int} (h : cS v = 0) : slotI v ≠ 0 := fun h0 => by rw [cS, if_pos h0] at h; exact absurd h (by decide)
theorem LmOk.come {L : Lm} (hL : LmOk L) (h7 : L.pc ≤ 7) (v : Int) (hv : InU v) : LmOk { L with W := v, X := 0, C := slotI v, pc := 3 } :=
  ⟨by simp, fun _ => hL.v (by omega), fun _ => hL.fd h7, fun h => absurd h (by simp), fun _ => rfl, fun h => absurd h (by simp), hv, by simp [InU], slotI_in v⟩
/-- What a lane keeps, as long as it goes on. -/
theorem lane_ok {lv key : Int} {vs : Bool} {e : Int} {L : Lm} {f : Plc → Int} (hL : LmOk L) (hW : ∀ x, InU (f x)) (hp : Wf L.p) (hlv : 0 ≤ lv ∧ lv ≤ 1000000) (h0 : (laneM lv key vs e L f).1 = 0) : LmOk (laneM lv key vs e L f).2.1 ∧ Wf (laneM lv key vs e L f).2.1.p := by
  have hpc9 : L.pc ≤ 9 := by rcases hL.pc with h | h | h | h | h | h | h | h | h <;> omega
  rcases hL.pc with hpc | hpc | hpc | hpc | hpc | hpc | hpc | hpc | hpc
  · have hM : laneM lv key vs e L f = (0, { L with W := f L.p, pc := 2 }, f) := by simp [laneM, hpc]
    rw [hM]
    exact ⟨⟨by simp, fun _ => hL.v (by omega), fun _ => hL.fd (by omega), fun h => absurd h (by simp), fun _ => hL.x (by omega), fun _ => hL.c0 (by omega), hW _, hL.X, hL.C⟩, hp⟩
  · by_cases hok : okB (f (1, 0, 0)) e = true
    · by_cases hmk : markB L.W = true
      · have hM : laneM lv key vs e L f = (2, L, f) := by simp [laneM, holdsM, hpc, hok, hmk]
        rw [hM] at h0
        exact absurd h0 (by simp)
      · have hM : laneM lv key vs e L f = (cS L.W, { L with W := L.W, X := 0, C := slotI L.W, pc := 3 }, f) := by simp [laneM, holdsM, hpc, hok, hmk, comeM_cS]
        rw [hM]
        exact ⟨hL.come (by omega) _ hL.W, hp⟩
    · have hM : laneM lv key vs e L f = (2, L, f) := by simp [laneM, hpc, hok]
      rw [hM] at h0
      exact absurd h0 (by simp)
  · have hM : laneM lv key vs e L f = (0, { L with X := f (5, L.C, 7 + lv), pc := 4 }, f) := by simp [laneM, hpc]
    rw [hM]
    exact ⟨⟨by simp, fun _ => hL.v (by omega), fun _ => hL.fd (by omega), fun h => absurd h (by simp), fun h => absurd h (by simp), fun h => absurd h (by simp), hL.W, hW _, hL.C⟩, hp⟩
  · by_cases hok : okB (f (1, 0, 0)) e = true
    · have hM : laneM lv key vs e L f = (0, { L with pc := if markB L.X then 5 else 6 }, f) := by simp [laneM, holdsM, hpc, hok]
      rw [hM]
      cases markB L.X
      · exact ⟨⟨by simp, fun _ => hL.v (by omega), fun _ => hL.fd (by omega), fun h => absurd h (by simp), fun h => absurd h (by simp), fun h => absurd h (by simp), hL.W, hL.X, hL.C⟩, hp⟩
      · exact ⟨⟨by simp, fun _ => hL.v (by omega), fun _ => hL.fd (by omega), fun h => absurd h (by simp), fun h => absurd h (by simp), fun h => absurd h (by simp), hL.W, hL.X, hL.C⟩, hp⟩
    · have hM : laneM lv key vs e L f = (2, L, f) := by simp [laneM, hpc, hok]
      rw [hM] at h0
      exact absurd h0 (by simp)
  · by_cases heq : f L.p = L.W
    · have hM : laneM lv key vs e L f = (cS (wordI false (slotI L.X) e), { L with W := wordI false (slotI L.X) e, X := 0, C := slotI (wordI false (slotI L.X) e), pc := 3 }, swf f L.p L.W (wordI false (slotI L.X) e)) := by simp [laneM, hpc, heq, comeM_cS]
      rw [hM]
      exact ⟨hL.come (by omega) _ (wordI_in _ _ _), hp⟩
    · have hM : laneM lv key vs e L f = (2, L, swf f L.p L.W (wordI false (slotI L.X) e)) := by simp [laneM, hpc, heq]
      rw [hM] at h0
      exact absurd h0 (by simp)
  · have hM : laneM lv key vs e L f = (0, { L with K := f (5, L.C, 3), pc := 7 }, f) := by simp [laneM, hpc]
    rw [hM]
    exact ⟨⟨by simp, fun _ => hL.v (by omega), fun _ => hL.fd (by omega), fun h => absurd h (by simp), fun h => absurd h (by simp), fun h => absurd h (by simp), hL.W, hL.X, hL.C⟩, hp⟩
  · by_cases hok : okB (f (1, 0, 0)) e = true
    · by_cases hlt : L.K < key
      · have hM : laneM lv key vs e L f = (cS L.X, { L with p := (5, L.C, 7 + lv), W := L.X, X := 0, C := slotI L.X, pc := 3 }, f) := by simp [laneM, holdsM, hpc, hok, hlt, comeM_cS]
        rw [hM]
        have hLp : LmOk { L with p := (5, L.C, 7 + lv) } := ⟨hL.pc, hL.v, hL.fd, hL.ft, hL.x, hL.c0, hL.W, hL.X, hL.C⟩
        exact ⟨hLp.come (by show L.pc ≤ 7; omega) _ hL.X, wf_part hL.C (by omega)⟩
      · by_cases heq : L.K = key
        · cases vs
          · have hM : laneM lv key false e L f = (1, { L with fd := true }, f) := by simp [laneM, holdsM, hpc, hok, heq]
            rw [hM] at h0
            exact absurd h0 (by simp)
          · have hM : laneM lv key true e L f = (0, { L with fd := true, pc := 8 }, f) := by simp [laneM, holdsM, hpc, hok, heq]
            rw [hM]
            exact ⟨⟨by simp, fun _ => hL.v (by omega), fun h => absurd h (by simp), fun _ => rfl, fun h => absurd h (by simp), fun h => absurd h (by simp), hL.W, hL.X, hL.C⟩, hp⟩
        · have hM : laneM lv key vs e L f = (1, L, f) := by simp [laneM, holdsM, hpc, hok, hlt, heq]
          rw [hM] at h0
          exact absurd h0 (by simp)
    · have hM : laneM lv key vs e L f = (2, L, f) := by simp [laneM, hpc, hok]
      rw [hM] at h0
      exact absurd h0 (by simp)
  · have hM : laneM lv key vs e L f = (0, { L with V := f (5, L.C, 4), pc := 9 }, f) := by simp [laneM, hpc]
    rw [hM]
    exact ⟨⟨by simp, fun h => absurd h (by simp), fun h => absurd h (by simp), fun _ => hL.ft (by omega), fun h => absurd h (by simp), fun h => absurd h (by simp), hL.W, hL.X, hL.C⟩, hp⟩
  · by_cases hok : okB (f (1, 0, 0)) e = true
    · have hM : laneM lv key vs e L f = (1, L, f) := by simp [laneM, holdsM, hpc, hok]
      rw [hM] at h0
      exact absurd h0 (by simp)
    · have hM : laneM lv key vs e L f = (2, L, f) := by simp [laneM, hpc, hok]
      rw [hM] at h0
      exact absurd h0 (by simp)

/-- What a search keeps. -/
def SmOk (T : Sm) : Prop := T.on = true → LmOk T.L ∧ Wf T.L.p
theorem search_ok {k key : Int} {vs : Bool} {T : Sm} {f : Plc → Int} (hk : In64 k) (hT : SmOk T) (hW : ∀ x, InU (f x)) (h0 : (searchM k key vs T f).1 = 0) : SmOk (searchM k key vs T f).2.1 := by
  intro hon
  by_cases h : T.on = true
  · have hM : searchM k key vs T f = (if (laneM 0 key vs T.e T.L f).1 = 1 then 1 else 0, { on := decide ((laneM 0 key vs T.e T.L f).1 ≠ 2), L := (laneM 0 key vs T.e T.L f).2.1, e := T.e, r := rollM T.e T.L f T.r }, (laneM 0 key vs T.e T.L f).2.2) := by unfold searchM; rw [if_pos h]
    rw [hM] at h0 hon ⊢
    obtain ⟨h1, h2⟩ := hT h
    have h3 : (laneM 0 key vs T.e T.L f).1 = 0 := by
      rcases lane_state 0 key vs T.e T.L f with h4 | h4 | h4
      · exact h4
      · rw [h4] at h0; exact absurd h0 (by simp)
      · rw [h4] at hon; exact absurd hon (by simp)
    exact lane_ok h1 hW h2 (by omega) h3
  · have hM : searchM k key vs T f = (0, { on := true, L := L0 (4, 0, k), e := epI (f (1, 0, 0)), r := T.r }, f) := by unfold searchM; rw [if_neg h]
    rw [hM]
    refine ⟨LmOk.start _, ?_⟩
    show Wf (4, 0, k)
    unfold In64 at hk
    unfold Wf In64
    simp
    exact hk

/-- How a search stands, and all that it needs. -/
def SrchR (w0 : World) (R : List Item) (sb : Nat) (k key : Int) (vs : Bool) (S : ST) (s : Int) (T : Sm) (w : World) : Prop :=
  S.ce = T.e ∧ S.cr = T.r ∧ ((T.on = false ∧ s = 0 ∧ (Env w0 (boxI sb (srC S.c k key vs (.pointer none)) :: LT S R) w ∨ ∃ a L, LaneR w0 (boxI sb (srC S.c k key vs (.pointer (some ⟨a, 0, none⟩))) :: R) a 0 key vs S 2 L w)) ∨ (T.on = true ∧ ∃ a, LaneR w0 (boxI sb (srC S.c k key vs (.pointer (some ⟨a, 0, none⟩))) :: R) a 0 key vs S s T.L w))
/-- All of a thread and its world behind a search's step. -/
def searchS (key : Int) (vs : Bool) (S : ST) (T : Sm) (G : Nat → Prop) : ST := if T.on then laneS 0 key vs S T.L G else { S with ce := epI (S.f (1, 0, 0)), qc := { S.qc with l := wrap64 (S.qc.l + 1) } }

section
variable {w0 w : World} {R : List Item} {sb : Nat} {S : ST} {k key : Int} {vs : Bool} {T : Sm} {lp : Value}
/-- A search's box from behind a thread's things to the front. -/
theorem Env.sfront {x : Item} (h : Env w0 (LT S (x :: R)) w) : Env w0 (x :: LT S R) w := h.perm (List.perm_middle (l₁ := [_, _, _, _]))
theorem check_r (hoff : T.on = false) (he : S.ce = T.e) (hr : S.cr = T.r) (hE : Env w0 (boxI sb (srC S.c k key vs lp) :: LT S R) w) :
    Calls Tryz.prog 55 #[.pointer (some ⟨sb, 0, none⟩), .iface 33 (.pointer (some ⟨S.p, 0, none⟩))] w fun o w' => o = .returned (.int .i64 (searchM k key vs T S.f).1) ∧ ∃ G', SrchR w0 R sb k key vs (searchS key vs S T G') (searchM k key vs T S.f).1 (searchM k key vs T S.f).2.1 w' := by
  have hM : searchM k key vs T S.f = (0, { on := true, L := L0 (4, 0, k), e := epI (S.f (1, 0, 0)), r := T.r }, S.f) := by unfold searchM; rw [hoff]; rfl
  have hS : ∀ G, searchS key vs S T G = { S with ce := epI (S.f (1, 0, 0)), qc := { S.qc with l := wrap64 (S.qc.l + 1) } } := fun G => by unfold searchS; rw [hoff]; rfl
  refine (check_s hE).mono ?_
  rintro o w1 ⟨rfl, a, hE1⟩
  rw [hM]
  refine ⟨rfl, S.G, ?_⟩
  rw [hS]
  refine ⟨rfl, hr, .inr ⟨rfl, a, mvL (fnL 0) a, 0, noI, noI, fun _ => ⟨⟨fun _ => rfl, fun h => absurd h (by simp [L0, isVal])⟩, fun h => absurd h (by simp [L0]), fun h => absurd h (by simp [L0])⟩, ?_⟩⟩
  have hE2 := hE1.perm (L' := boxI a (laneC S.c 0 key vs (mvL (fnL 0) a) 0 4 0 k 0 0 0 0 false 0) :: LT { S with ce := epI (S.f (1, 0, 0)), qc := { S.qc with l := wrap64 (S.qc.l + 1) } } (boxI sb (srC S.c k key vs (.pointer (some ⟨a, 0, none⟩))) :: R)) (List.Perm.cons _ (List.perm_middle (l₁ := [_, _, _, _])).symm)
  exact hE2.none2
set_option maxHeartbeats 3200000 in
theorem search_l (hT : SmOk T) (hg : Glo w0) (hm : S.m < maxLen) (h : SrchR w0 R sb k key vs S 0 T w) :
    Calls Tryz.prog 17 #[.pointer (some ⟨sb, 0, none⟩), .iface 33 (.pointer (some ⟨S.p, 0, none⟩))] w fun o w' => o = .returned (.int .i64 (searchM k key vs T S.f).1) ∧ ∃ G', SrchR w0 R sb k key vs (searchS key vs S T G') (searchM k key vs T S.f).1 (searchM k key vs T S.f).2.1 w' := by
  obtain ⟨he, hr, ⟨hoff, -, hE | ⟨a, L, nx, wd, B1, B2, -, hE⟩⟩ | ⟨hon, a, hR⟩⟩ := h
  · have HC := Lib.hid (check_r hoff he hr hE)
    have r := hE.rule 0 rfl
    unfold srC at r
    clear hE
    go_enter Tryz.func17, Tryz.ntmps17
    go_wp2_with fail
    refine HC.out.mono ?_
    rintro o w1 ⟨rfl, hP⟩
    go_wp2_with fail
    go_ret
    exact ⟨rfl, hP⟩
  · have hE1 : Env w0 (boxI sb (srC S.c k key vs (.pointer (some ⟨a, 0, none⟩))) :: LT S R) w := (hE.sub (.cons _ (.cons _ (.cons _ (List.Sublist.refl _))))).sfront
    have HC := Lib.hid (check_r hoff he hr hE1)
    have r := hE1.rule 0 rfl
    unfold srC at r
    have ra := hE.rule 0 rfl
    unfold laneV laneC at ra
    clear hE hE1
    go_enter Tryz.func17, Tryz.ntmps17
    go_wp2_with fail
    refine HC.out.mono ?_
    rintro o w1 ⟨rfl, hP⟩
    go_wp2_with fail
    go_ret
    exact ⟨rfl, hP⟩
  · obtain ⟨hL, hp⟩ := hT hon
    have hst := lane_l hL (show (0 : Int) ≤ 0 ∧ (0 : Int) ≤ 1000000 by omega) hp hg hm hR
    have hM : searchM k key vs T S.f = (if (laneM 0 key vs T.e T.L S.f).1 = 1 then 1 else 0, { on := decide ((laneM 0 key vs T.e T.L S.f).1 ≠ 2), L := (laneM 0 key vs T.e T.L S.f).2.1, e := T.e, r := rollM T.e T.L S.f T.r }, (laneM 0 key vs T.e T.L S.f).2.2) := by unfold searchM; rw [if_pos hon]
    have hS : ∀ G, searchS key vs S T G = laneS 0 key vs S T.L G := fun G => by unfold searchS; rw [if_pos hon]
    have hsl := lane_state 0 key vs S.ce T.L S.f
    obtain ⟨nx, wd, B1, B2, -, hE⟩ := hR
    have r : ∀ i, w.cell? ⟨sb, i, none⟩ = _ := hE.rule 7 rfl
    unfold srC at r
    have ra := hE.rule 0 rfl
    unfold laneV laneC at ra
    clear hE
    rw [hM]
    simp only [hS]
    rw [← he, ← hr]
    clear he hr
    have hce : ∀ G, (laneS 0 key vs S T.L G).ce = S.ce ∧ (laneS 0 key vs S T.L G).cr = rollM S.ce T.L S.f S.cr ∧ (laneS 0 key vs S T.L G).c = S.c := fun G => ⟨rfl, rfl, rfl⟩
    generalize hq : laneM 0 key vs S.ce T.L S.f = q at *
    obtain ⟨q1, q2, q3⟩ := q
    have HST := Lib.hid hst
    have HSL := Lib.hid hsl
    have HCE := Lib.hid hce
    clear hst hsl hq hM hS hce
    go_enter Tryz.func17, Tryz.ntmps17
    go_wp2_with fail
    refine HST.out.mono ?_
    rintro o w1 ⟨rfl, G', hR'⟩
    have HR' := Lib.hid hR'
    clear hR' HST r ra
    rcases HSL.out with h1 | h1 | h1
    · have h1' : q1 = 0 := h1
      subst h1'
      go_wp2_with fail
      go_ret
      refine ⟨rfl, G', (HCE.out G').1, (HCE.out G').2.1, .inr ⟨rfl, a, ?_⟩⟩
      exact HR'.out
    · have h1' : q1 = 1 := h1
      subst h1'
      go_wp2_with fail
      go_ret
      refine ⟨rfl, G', (HCE.out G').1, (HCE.out G').2.1, .inr ⟨rfl, a, ?_⟩⟩
      exact HR'.out
    · have h1' : q1 = 2 := h1
      subst h1'
      go_wp2_with fail
      go_ret
      refine ⟨rfl, G', (HCE.out G').1, (HCE.out G').2.1, .inl ⟨rfl, rfl, .inr ⟨a, q2, ?_⟩⟩⟩
      exact HR'.out
end
end Go.Proofs.YtchcdfoncebemaaGreatDoor
