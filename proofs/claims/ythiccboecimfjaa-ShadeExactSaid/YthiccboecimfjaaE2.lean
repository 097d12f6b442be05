/- What is proved on the way to the statement, part 2 of 7: contracts of the functions, among other things in memory. -/
import Derived.Test.YthiccboecimfjaaE1
import Derived.Test.YthiccboecimfjaaChecked
import Derived.Deep.AppendLies
import Derived.Maps.AppendAt
import Derived.OneCell
import Derived.Laws.OwnMore
import Derived.Deep.Light
import Derived.Maps.GroupsBeside
import Derived.Shelf.SlMaps.Clone

/- The plain world: contracts of its accesses: each is the cells' own, among whatever other things there are. -/
namespace Go.Proofs.Ythiccboecimfjaa
open Go.RowKit Go.Maps
set_option maxRecDepth 100000

theorem wset {L : List Item} {i j : Nat} {a b : Item} (hij : j ≠ i) (h : L[i]? = some a) : (L.set j b)[i]? = some a := by rw [List.getElem?_set_ne hij, h]
theorem Env.put3 {w0 w : World} {L : List Item} (h : Env w0 L w) (i : Nat) {B : Nat} {a b c : Value} (hi : L[i]? = some (boxI B [a, b, c])) (u v t : Value) :
    Env w0 (L.set i (boxI B [u, v, t])) (((w.setCell ⟨B, 0, none⟩ u).setCell ⟨B, 1, none⟩ v).setCell ⟨B, 2, none⟩ t) := by
  have hl : i < L.length := (List.getElem?_eq_some_iff.1 hi).1
  have h1 := h.put i hi (j := 0) (by simp) u
  have h2 := h1.put i (by rw [List.getElem?_set_self hl]) (j := 1) (by simp) v
  have h3 := h2.put i (by rw [List.getElem?_set_self (by simpa using hl)]) (j := 2) (by simp) t
  simpa using h3
theorem Env.put5 {w0 w : World} {L : List Item} (h : Env w0 L w) (i : Nat) {B : Nat} {a b c d e : Value} (hi : L[i]? = some (boxI B [a, b, c, d, e])) (u v t x y : Value) :
    Env w0 (L.set i (boxI B [u, v, t, x, y])) (((((w.setCell ⟨B, 0, none⟩ u).setCell ⟨B, 1, none⟩ v).setCell ⟨B, 2, none⟩ t).setCell ⟨B, 3, none⟩ x).setCell ⟨B, 4, none⟩ y) := by
  have hl : i < L.length := (List.getElem?_eq_some_iff.1 hi).1
  have h1 := h.put i hi (j := 0) (by simp) u
  have h2 := h1.put i (by rw [List.getElem?_set_self hl]) (j := 1) (by simp) v
  have h3 := h2.put i (by rw [List.getElem?_set_self (by simpa using hl)]) (j := 2) (by simp) t
  have h4 := h3.put i (by rw [List.getElem?_set_self (by simpa using hl)]) (j := 3) (by simp) x
  have h5 := h4.put i (by rw [List.getElem?_set_self (by simpa using hl)]) (j := 4) (by simp) y
  simpa using h5
/-- A world at p: a pointer to its cells. -/
def wbox (p c : Nat) : Item := boxI p [.pointer (some ⟨c, 0, none⟩)]

theorem Env.wblk {w0 w : World} {L : List Item} {p c : Nat} (h : Env w0 L w) (i : Nat) (hi : L[i]? = some (wbox p c)) : Blk 0 w p [.pointer (some ⟨c, 0, none⟩)] := h.get i hi
theorem kept_any {w : World} {p c : Nat} (hb : Blk 0 w p [.pointer (some ⟨c, 0, none⟩)]) :
    Calls Try.prog 60 #[.pointer (some ⟨p, 0, none⟩)] w fun e w' => e = .returned (.pointer (some ⟨c, 0, none⟩)) ∧ w' = w := by
  have r := hb.rule
  go_enter Try.func60, Try.ntmps60
  go_wp2
  go_ret
  exact ⟨rfl, rfl⟩

section
variable {w0 w : World} {L : List Item} {p c n : Nat} {F : Nat → Prop} {f : Plc → Int} {q : Cnt}

set_option maxHeartbeats 1600000 in
theorem load_w (x y z d : Int) (hx : Wf (x, y, z)) (i j : Nat) (hij : j ≠ i) (hE : Env w0 L w) (hi : L[i]? = some (wbox p c)) (hj : L[j]? = some (cellI c F f q n)) :
    Calls Try.prog 43 #[.pointer (some ⟨p, 0, none⟩), .agg #[.int .i64 x, .int .i64 y, .int .i64 z, .int .i64 d]] w fun e w' => e = .returned (.agg #[.int .u64 (f (x, y, z)), .int .i64 0, .bool false]) ∧ Env w0 (L.set j (cellI c F f { q with l := wrap64 (q.l + 1) } n)) w' := by
  replace hE := (hE.box w.heap.size rfl [.int .i64 x, .int .i64 y, .int .i64 z, .int .i64 d] 46).box (w.heap.size + 1) (by simp) [.int .u64 0, .int .i64 0, .bool false] 42
  have hi' : (boxI (w.heap.size + 1) [.int .u64 0, .int .i64 0, .bool false] :: boxI w.heap.size [.int .i64 x, .int .i64 y, .int .i64 z, .int .i64 d] :: L)[i + 2]? = some (wbox p c) := hi
  have hj' : (boxI (w.heap.size + 1) [.int .u64 0, .int .i64 0, .bool false] :: boxI w.heap.size [.int .i64 x, .int .i64 y, .int .i64 z, .int .i64 d] :: L)[j + 2]? = some (cellI c F f q n) := hj
  have HX := Lib.hid hx
  clear hx
  go_enter Try.func43, Try.ntmps43
  go_wp2_with fail
  generalize w.heap.size + 1 = Y at *
  generalize w.heap.size = X at *
  refine Ord.wp_chain [4, 6] (fun w' => Blk 0 w' X [.int .i64 x, .int .i64 y, .int .i64 z, .int .i64 d] ∧ Blk 0 w' p [.pointer (some ⟨c, 0, none⟩)]) (Stage [Env w0 (boxI Y [.int .u64 0, .int .i64 0, .bool false] :: boxI X [.int .i64 x, .int .i64 y, .int .i64 z, .int .i64 d] :: L), Env w0 (boxI Y [.int .u64 0, .int .i64 0, .bool false] :: boxI X [.int .i64 x, .int .i64 y, .int .i64 z, .int .i64 d] :: L.set j (cellI c F f { q with l := wrap64 (q.l + 1) } n)), Env w0 (boxI Y [.int .u64 (f (x, y, z)), .int .i64 0, .bool false] :: boxI X [.int .i64 x, .int .i64 y, .int .i64 z, .int .i64 d] :: L.set j (cellI c F f { q with l := wrap64 (q.l + 1) } n))]) (by kernel_rfl) (by kernel_rfl) (by kernel_rfl) ⟨hE.drew.get 1 rfl, hE.drew.get (i + 2) hi'⟩ ⟨_, rfl, hE.drew⟩ (fun hT => ?_)
  have hT9 := Lib.hid hT
  clear hT
  repeat (first
    | (refine Ord.ch_value (v := ?_) hT9.out (by decide) (by rfl) ?_ ?_; rotate_left; (focus (intro w5 hS; have r := hS.1.rule; go_simp <;> with_reducible rfl)); (try simp only [Act.put, List.setIfInBounds_toArray, List.set_cons_zero, List.set_cons_succ]))
    | (refine Ord.ch_off hT9.out (by decide) (by rfl) ?_; (try simp only [Act.put, List.setIfInBounds_toArray, List.set_cons_zero, List.set_cons_succ]))
    | (refine Ord.ch_call (v := ?_) (f := ?_) (args := ?_) hT9.out (by decide) (by rfl) ?_ ?_ ?_; rotate_left 3; (focus (intro w5 hS; have r := hS.1.rule; go_simp; constructor <;> with_reducible rfl)); (focus (intro w5 hS; (first | (with_reducible refine (kept_any hS.2).mono ?_; rintro e w6 ⟨rfl, rfl⟩; constructor; with_reducible rfl; exact ⟨hS, fun _ h => h⟩)))); (try simp only [Act.put, List.setIfInBounds_toArray, List.set_cons_zero, List.set_cons_succ])))
  refine Ord.ch_turn (v := .int .u64 (f (x, y, z))) 0 hT9.out rfl (by decide) (Or.inl rfl) (by rfl) ?_ ?_
  · rintro w5 hC5 ⟨P5, hP5, hA5⟩
    cases hP5
    go_simp
    simp only [Ord.LandsIn]
    refine (load_any x y z HX.out (hA5.cell (j + 2) hj')).mono ?_
    rintro e w6 ⟨rfl, hC, hs⟩
    have hE6 := hA5.turn (j + 2) hj' hC hs
    exact ⟨rfl, ⟨hE6.get 1 rfl, hE6.get (i + 2) (wset (j := j + 2) (by omega) hi')⟩, _, rfl, hE6⟩
  (try simp only [Act.put, List.setIfInBounds_toArray, List.set_cons_zero, List.set_cons_succ])
  repeat (first
    | (refine Ord.ch_value (v := ?_) hT9.out (by decide) (by rfl) ?_ ?_; rotate_left; (focus (intro w5 hS; skip; go_simp <;> with_reducible rfl)); (try simp only [Act.put, List.setIfInBounds_toArray, List.set_cons_zero, List.set_cons_succ]))
    | (refine Ord.ch_off hT9.out (by decide) (by rfl) ?_; (try simp only [Act.put, List.setIfInBounds_toArray, List.set_cons_zero, List.set_cons_succ])))
  refine Ord.ch_turn (v := undef) 1 hT9.out rfl (by decide) (Or.inr ⟨_, rfl, by kernel_rfl⟩) (by rfl) ?_ ?_
  · rintro w5 hC5 ⟨P5, hP5, hA5⟩
    cases hP5
    have r := hA5.rule 0 rfl
    have f := hA5.thaw 0 rfl
    have f0 := f 0 (by simp)
    have f1 := f 1 (by simp)
    have f2 := f 2 (by simp)
    clear f
    go_simp
    have hE6 := hA5.put3 0 rfl (.int .u64 (f (x, y, z))) (.int .i64 0) (.bool false)
    exact ⟨rfl, ⟨hE6.get 1 rfl, hE6.get (i + 2) (wset (j := j + 2) (by omega) hi')⟩, _, rfl, hE6⟩
  (try simp only [Act.put, List.setIfInBounds_toArray, List.set_cons_zero, List.set_cons_succ])
  repeat (first
    | (refine Ord.ch_value (v := ?_) hT9.out (by decide) (by rfl) ?_ ?_; rotate_left; (focus (intro w5 hS; skip; go_simp <;> with_reducible rfl)); (try simp only [Act.put, List.setIfInBounds_toArray, List.set_cons_zero, List.set_cons_succ]))
    | (refine Ord.ch_off hT9.out (by decide) (by rfl) ?_; (try simp only [Act.put, List.setIfInBounds_toArray, List.set_cons_zero, List.set_cons_succ])))
  refine Ord.InText.nil fun w5 hS => ?_
  clear hT9
  obtain ⟨hC9, hA9⟩ := Ord.chain_end hS
  clear hS
  obtain ⟨P9, hP9, hA9⟩ := hA9
  cases hP9
  have q9 := hA9.rule 0 rfl
  go_wp2
  exact bodyPost_ret (v := .agg #[.int .u64 (f (x, y, z)), .int .i64 0, .bool false]) (by simp [results, Try.results43, go_sem, q9]) rfl ⟨rfl, hA9.sub (.cons _ (.cons _ (List.Sublist.refl _)))⟩
set_option maxHeartbeats 1600000 in
theorem store_w (x y z d v e : Int) (b : Bool) (hx : Wf (x, y, z)) (hv : InU v) (hn : n < maxLen) (i j : Nat) (hij : j ≠ i) (hE : Env w0 L w) (hi : L[i]? = some (wbox p c)) (hj : L[j]? = some (cellI c F f q n)) :
    Calls Try.prog 44 #[.pointer (some ⟨p, 0, none⟩), .agg #[.int .i64 x, .int .i64 y, .int .i64 z, .int .i64 d], .agg #[.int .u64 v, .int .i64 e, .bool b]] w fun e w' => e = .returned (.tuple #[]) ∧ ∃ F', Env w0 (L.set j (cellI c F' (upd f (x, y, z) v) { q with s := wrap64 (q.s + 1) } (n + 1))) w' := by
  replace hE := ((hE.box w.heap.size rfl [.int .i64 x, .int .i64 y, .int .i64 z, .int .i64 d] 46).box (w.heap.size + 1) (by simp) [.int .u64 v, .int .i64 e, .bool b] 42)
  have hi' : (boxI (w.heap.size + 1) [.int .u64 v, .int .i64 e, .bool b] :: boxI (w.heap.size) [.int .i64 x, .int .i64 y, .int .i64 z, .int .i64 d] :: L)[i + 2]? = some (wbox p c) := hi
  have hj' : (boxI (w.heap.size + 1) [.int .u64 v, .int .i64 e, .bool b] :: boxI (w.heap.size) [.int .i64 x, .int .i64 y, .int .i64 z, .int .i64 d] :: L)[j + 2]? = some (cellI c F f q n) := hj
  have HX := Lib.hid hx
  clear hx
  go_enter Try.func44, Try.ntmps44
  go_wp2_with fail
  generalize w.heap.size + 1 = Y at *
  generalize w.heap.size = X at *
  refine Ord.wp_chain [6] (fun w' => Blk 0 w' X [.int .i64 x, .int .i64 y, .int .i64 z, .int .i64 d] ∧ Blk 0 w' Y [.int .u64 v, .int .i64 e, .bool b] ∧ Blk 0 w' p [.pointer (some ⟨c, 0, none⟩)]) (Stage [Env w0 (boxI Y [.int .u64 v, .int .i64 e, .bool b] :: boxI X [.int .i64 x, .int .i64 y, .int .i64 z, .int .i64 d] :: L), fun w' => ∃ F', Env w0 (boxI Y [.int .u64 v, .int .i64 e, .bool b] :: boxI X [.int .i64 x, .int .i64 y, .int .i64 z, .int .i64 d] :: L.set j (cellI c F' (upd f (x, y, z) v) { q with s := wrap64 (q.s + 1) } (n + 1))) w']) (by kernel_rfl) (by kernel_rfl) (by kernel_rfl) ⟨hE.drew.get 1 rfl, hE.drew.get 0 rfl, hE.drew.get (i + 2) hi'⟩ ⟨_, rfl, hE.drew⟩ (fun hT => ?_)
  have hT9 := Lib.hid hT
  clear hT
  repeat (first
    | (refine Ord.ch_value (v := ?_) hT9.out (by decide) (by rfl) ?_ ?_; rotate_left; (focus (intro w5 hS; have r0 := hS.1.rule; have r1 := hS.2.1.rule; go_simp <;> with_reducible rfl)); (try simp only [Act.put, List.setIfInBounds_toArray, List.set_cons_zero, List.set_cons_succ]))
    | (refine Ord.ch_off hT9.out (by decide) (by rfl) ?_; (try simp only [Act.put, List.setIfInBounds_toArray, List.set_cons_zero, List.set_cons_succ]))
    | (refine Ord.ch_call (v := ?_) (f := ?_) (args := ?_) hT9.out (by decide) (by rfl) ?_ ?_ ?_; rotate_left 3; (focus (intro w5 hS; have r0 := hS.1.rule; have r1 := hS.2.1.rule; go_simp; constructor <;> with_reducible rfl)); (focus (intro w5 hS; (first | (with_reducible refine (kept_any hS.2.2).mono ?_; rintro e w6 ⟨rfl, rfl⟩; constructor; with_reducible rfl; exact ⟨hS, fun _ h => h⟩)))); (try simp only [Act.put, List.setIfInBounds_toArray, List.set_cons_zero, List.set_cons_succ])))
  refine Ord.ch_turn (v := .tuple #[]) 0 hT9.out rfl (by decide) (Or.inl rfl) (by rfl) ?_ ?_
  · rintro w5 hC5 ⟨P5, hP5, hA5⟩
    cases hP5
    go_simp
    simp only [Ord.LandsIn]
    refine (store_any x y z v HX.out hv hn (hA5.cell (j + 2) hj')).mono ?_
    rintro e w6 ⟨rfl, F6, hC, hs⟩
    have hE6 := hA5.turn (j + 2) hj' hC hs
    exact ⟨rfl, ⟨hE6.get 1 rfl, hE6.get 0 rfl, hE6.get (i + 2) (wset (j := j + 2) (by omega) hi')⟩, _, rfl, F6, hE6⟩
  (try simp only [Act.put, List.setIfInBounds_toArray, List.set_cons_zero, List.set_cons_succ])
  repeat (first
    | (refine Ord.ch_value (v := ?_) hT9.out (by decide) (by rfl) ?_ ?_; rotate_left; (focus (intro w5 hS; skip; go_simp <;> with_reducible rfl)); (try simp only [Act.put, List.setIfInBounds_toArray, List.set_cons_zero, List.set_cons_succ]))
    | (refine Ord.ch_off hT9.out (by decide) (by rfl) ?_; (try simp only [Act.put, List.setIfInBounds_toArray, List.set_cons_zero, List.set_cons_succ])))
  refine Ord.InText.nil fun w5 hS => ?_
  clear hT9
  obtain ⟨hC9, hA9⟩ := Ord.chain_end hS
  clear hS
  obtain ⟨P9, hP9, hA9⟩ := hA9
  cases hP9
  obtain ⟨F9, hA9⟩ := hA9
  clear hC9
  go_wp2
  go_end0
  exact ⟨rfl, F9, hA9.sub (.cons _ (.cons _ (List.Sublist.refl _)))⟩
set_option maxHeartbeats 1600000 in
theorem swap_w (x y z d o oe v e : Int) (ob b : Bool) (hx : Wf (x, y, z)) (hv : InU v) (hn : n < maxLen) (i j : Nat) (hij : j ≠ i) (hE : Env w0 L w) (hi : L[i]? = some (wbox p c)) (hj : L[j]? = some (cellI c F f q n)) :
    Calls Try.prog 46 #[.pointer (some ⟨p, 0, none⟩), .agg #[.int .i64 x, .int .i64 y, .int .i64 z, .int .i64 d], .agg #[.int .u64 o, .int .i64 oe, .bool ob], .agg #[.int .u64 v, .int .i64 e, .bool b]] w fun e w' => e = .returned (.bool (decide (f (x, y, z) = o))) ∧ ∃ F', Env w0 (L.set j (cellI c F' (swf f (x, y, z) o v) (swq q (decide (f (x, y, z) = o))) (n + 1))) w' := by
  replace hE := (((hE.box w.heap.size rfl [.int .i64 x, .int .i64 y, .int .i64 z, .int .i64 d] 46).box (w.heap.size + 1) (by simp) [.int .u64 o, .int .i64 oe, .bool ob] 42).box (w.heap.size + 1 + 1) (by simp) [.int .u64 v, .int .i64 e, .bool b] 42)
  have hi' : (boxI (w.heap.size + 1 + 1) [.int .u64 v, .int .i64 e, .bool b] :: boxI (w.heap.size + 1) [.int .u64 o, .int .i64 oe, .bool ob] :: boxI (w.heap.size) [.int .i64 x, .int .i64 y, .int .i64 z, .int .i64 d] :: L)[i + 3]? = some (wbox p c) := hi
  have hj' : (boxI (w.heap.size + 1 + 1) [.int .u64 v, .int .i64 e, .bool b] :: boxI (w.heap.size + 1) [.int .u64 o, .int .i64 oe, .bool ob] :: boxI (w.heap.size) [.int .i64 x, .int .i64 y, .int .i64 z, .int .i64 d] :: L)[j + 3]? = some (cellI c F f q n) := hj
  have HX := Lib.hid hx
  clear hx
  go_enter Try.func46, Try.ntmps46
  go_wp2_with fail
  generalize w.heap.size + 1 + 1 = Z at *
  generalize w.heap.size + 1 = Y at *
  generalize w.heap.size = X at *
  refine Ord.wp_chain [8] (fun w' => Blk 0 w' X [.int .i64 x, .int .i64 y, .int .i64 z, .int .i64 d] ∧ Blk 0 w' Y [.int .u64 o, .int .i64 oe, .bool ob] ∧ Blk 0 w' Z [.int .u64 v, .int .i64 e, .bool b] ∧ Blk 0 w' p [.pointer (some ⟨c, 0, none⟩)]) (Stage [Env w0 (boxI Z [.int .u64 v, .int .i64 e, .bool b] :: boxI Y [.int .u64 o, .int .i64 oe, .bool ob] :: boxI X [.int .i64 x, .int .i64 y, .int .i64 z, .int .i64 d] :: L), fun w' => ∃ F', Env w0 (boxI Z [.int .u64 v, .int .i64 e, .bool b] :: boxI Y [.int .u64 o, .int .i64 oe, .bool ob] :: boxI X [.int .i64 x, .int .i64 y, .int .i64 z, .int .i64 d] :: L.set j (cellI c F' (swf f (x, y, z) o v) (swq q (decide (f (x, y, z) = o))) (n + 1))) w']) (by kernel_rfl) (by kernel_rfl) (by kernel_rfl) ⟨hE.drew.get 2 rfl, hE.drew.get 1 rfl, hE.drew.get 0 rfl, hE.drew.get (i + 3) hi'⟩ ⟨_, rfl, hE.drew⟩ (fun hT => ?_)
  have hT9 := Lib.hid hT
  clear hT
  repeat (first
    | (refine Ord.ch_value (v := ?_) hT9.out (by decide) (by rfl) ?_ ?_; rotate_left; (focus (intro w5 hS; have r0 := hS.1.rule; have r1 := hS.2.1.rule; have r2 := hS.2.2.1.rule; go_simp <;> with_reducible rfl)); (try simp only [Act.put, List.setIfInBounds_toArray, List.set_cons_zero, List.set_cons_succ]))
    | (refine Ord.ch_off hT9.out (by decide) (by rfl) ?_; (try simp only [Act.put, List.setIfInBounds_toArray, List.set_cons_zero, List.set_cons_succ]))
    | (refine Ord.ch_call (v := ?_) (f := ?_) (args := ?_) hT9.out (by decide) (by rfl) ?_ ?_ ?_; rotate_left 3; (focus (intro w5 hS; have r0 := hS.1.rule; have r1 := hS.2.1.rule; have r2 := hS.2.2.1.rule; go_simp; constructor <;> with_reducible rfl)); (focus (intro w5 hS; (first | (with_reducible refine (kept_any hS.2.2.2).mono ?_; rintro e w6 ⟨rfl, rfl⟩; constructor; with_reducible rfl; exact ⟨hS, fun _ h => h⟩)))); (try simp only [Act.put, List.setIfInBounds_toArray, List.set_cons_zero, List.set_cons_succ])))
  refine Ord.ch_turn (v := .bool (decide (f (x, y, z) = o))) 0 hT9.out rfl (by decide) (Or.inl rfl) (by rfl) ?_ ?_
  · rintro w5 hC5 ⟨P5, hP5, hA5⟩
    cases hP5
    go_simp
    simp only [Ord.LandsIn]
    refine (swap_any x y z o v HX.out hv hn (hA5.cell (j + 3) hj')).mono ?_
    rintro e w6 ⟨rfl, F6, hC, hs⟩
    have hE6 := hA5.turn (j + 3) hj' hC hs
    exact ⟨rfl, ⟨hE6.get 2 rfl, hE6.get 1 rfl, hE6.get 0 rfl, hE6.get (i + 3) (wset (j := j + 3) (by omega) hi')⟩, _, rfl, F6, hE6⟩
  (try simp only [Act.put, List.setIfInBounds_toArray, List.set_cons_zero, List.set_cons_succ])
  repeat (first
    | (refine Ord.ch_value (v := ?_) hT9.out (by decide) (by rfl) ?_ ?_; rotate_left; (focus (intro w5 hS; skip; go_simp <;> with_reducible rfl)); (try simp only [Act.put, List.setIfInBounds_toArray, List.set_cons_zero, List.set_cons_succ]))
    | (refine Ord.ch_off hT9.out (by decide) (by rfl) ?_; (try simp only [Act.put, List.setIfInBounds_toArray, List.set_cons_zero, List.set_cons_succ])))
  refine Ord.InText.nil fun w5 hS => ?_
  clear hT9
  obtain ⟨hC9, hA9⟩ := Ord.chain_end hS
  clear hS
  obtain ⟨P9, hP9, hA9⟩ := hA9
  cases hP9
  obtain ⟨F9, hA9⟩ := hA9
  clear hC9
  go_wp2
  go_ret
  exact ⟨rfl, F9, hA9.sub (.cons _ (.cons _ (.cons _ (List.Sublist.refl _))))⟩
set_option maxHeartbeats 1600000 in
theorem add_w (x y z d v : Int) (hx : Wf (x, y, z)) (hn : n < maxLen) (i j : Nat) (hij : j ≠ i) (hE : Env w0 L w) (hi : L[i]? = some (wbox p c)) (hj : L[j]? = some (cellI c F f q n)) :
    Calls Try.prog 48 #[.pointer (some ⟨p, 0, none⟩), .agg #[.int .i64 x, .int .i64 y, .int .i64 z, .int .i64 d], .int .u64 v] w fun e w' => e = .returned (.int .u64 (f (x, y, z))) ∧ ∃ F', Env w0 (L.set j (cellI c F' (upd f (x, y, z) (IntKind.u64.wrap (f (x, y, z) + v))) { q with a := wrap64 (q.a + 1) } (n + 1))) w' := by
  replace hE := (hE.box w.heap.size rfl [.int .i64 x, .int .i64 y, .int .i64 z, .int .i64 d] 46)
  have hi' : (boxI (w.heap.size) [.int .i64 x, .int .i64 y, .int .i64 z, .int .i64 d] :: L)[i + 1]? = some (wbox p c) := hi
  have hj' : (boxI (w.heap.size) [.int .i64 x, .int .i64 y, .int .i64 z, .int .i64 d] :: L)[j + 1]? = some (cellI c F f q n) := hj
  have HX := Lib.hid hx
  clear hx
  go_enter Try.func48, Try.ntmps48
  go_wp2_with fail
  generalize w.heap.size = X at *
  refine Ord.wp_chain [5] (fun w' => Blk 0 w' X [.int .i64 x, .int .i64 y, .int .i64 z, .int .i64 d] ∧ Blk 0 w' p [.pointer (some ⟨c, 0, none⟩)]) (Stage [Env w0 (boxI X [.int .i64 x, .int .i64 y, .int .i64 z, .int .i64 d] :: L), fun w' => ∃ F', Env w0 (boxI X [.int .i64 x, .int .i64 y, .int .i64 z, .int .i64 d] :: L.set j (cellI c F' (upd f (x, y, z) (IntKind.u64.wrap (f (x, y, z) + v))) { q with a := wrap64 (q.a + 1) } (n + 1))) w']) (by kernel_rfl) (by kernel_rfl) (by kernel_rfl) ⟨hE.drew.get 0 rfl, hE.drew.get (i + 1) hi'⟩ ⟨_, rfl, hE.drew⟩ (fun hT => ?_)
  have hT9 := Lib.hid hT
  clear hT
  repeat (first
    | (refine Ord.ch_value (v := ?_) hT9.out (by decide) (by rfl) ?_ ?_; rotate_left; (focus (intro w5 hS; have r0 := hS.1.rule; go_simp <;> with_reducible rfl)); (try simp only [Act.put, List.setIfInBounds_toArray, List.set_cons_zero, List.set_cons_succ]))
    | (refine Ord.ch_off hT9.out (by decide) (by rfl) ?_; (try simp only [Act.put, List.setIfInBounds_toArray, List.set_cons_zero, List.set_cons_succ]))
    | (refine Ord.ch_call (v := ?_) (f := ?_) (args := ?_) hT9.out (by decide) (by rfl) ?_ ?_ ?_; rotate_left 3; (focus (intro w5 hS; have r0 := hS.1.rule; go_simp; constructor <;> with_reducible rfl)); (focus (intro w5 hS; (first | (with_reducible refine (kept_any hS.2).mono ?_; rintro e w6 ⟨rfl, rfl⟩; constructor; with_reducible rfl; exact ⟨hS, fun _ h => h⟩)))); (try simp only [Act.put, List.setIfInBounds_toArray, List.set_cons_zero, List.set_cons_succ])))
  refine Ord.ch_turn (v := .int .u64 (f (x, y, z))) 0 hT9.out rfl (by decide) (Or.inl rfl) (by rfl) ?_ ?_
  · rintro w5 hC5 ⟨P5, hP5, hA5⟩
    cases hP5
    go_simp
    simp only [Ord.LandsIn]
    refine (add_any x y z v HX.out hn (hA5.cell (j + 1) hj')).mono ?_
    rintro e w6 ⟨rfl, F6, hC, hs⟩
    have hE6 := hA5.turn (j + 1) hj' hC hs
    exact ⟨rfl, ⟨hE6.get 0 rfl, hE6.get (i + 1) (wset (j := j + 1) (by omega) hi')⟩, _, rfl, F6, hE6⟩
  (try simp only [Act.put, List.setIfInBounds_toArray, List.set_cons_zero, List.set_cons_succ])
  repeat (first
    | (refine Ord.ch_value (v := ?_) hT9.out (by decide) (by rfl) ?_ ?_; rotate_left; (focus (intro w5 hS; skip; go_simp <;> with_reducible rfl)); (try simp only [Act.put, List.setIfInBounds_toArray, List.set_cons_zero, List.set_cons_succ]))
    | (refine Ord.ch_off hT9.out (by decide) (by rfl) ?_; (try simp only [Act.put, List.setIfInBounds_toArray, List.set_cons_zero, List.set_cons_succ])))
  refine Ord.InText.nil fun w5 hS => ?_
  clear hT9
  obtain ⟨hC9, hA9⟩ := Ord.chain_end hS
  clear hS
  obtain ⟨P9, hP9, hA9⟩ := hA9
  cases hP9
  obtain ⟨F9, hA9⟩ := hA9
  clear hC9
  go_wp2
  go_ret
  exact ⟨rfl, F9, hA9.sub (.cons _ (List.Sublist.refl _))⟩

set_option maxHeartbeats 1600000 in
theorem peek_w (x y z : Int) (hx : Wf (x, y, z)) (i j : Nat) (hE : Env w0 L w) (hi : L[i]? = some (wbox p c)) (hj : L[j]? = some (cellI c F f q n)) :
    Calls Try.prog 57 #[.pointer (some ⟨p, 0, none⟩), .agg #[.int .i64 x, .int .i64 y, .int .i64 z]] w fun e w' => e = .returned (.int .u64 (f (x, y, z))) ∧ Below w.heap.size w w' := by
  have hb := (Below.refl w.heap.size w).alloc (Nat.le_refl _) (.cells #[.int .i64 x, .int .i64 y, .int .i64 z] 44)
  replace hE := hE.box w.heap.size rfl [.int .i64 x, .int .i64 y, .int .i64 z] 44
  have HX := Lib.hid hx
  clear hx
  go_enter Try.func57, Try.ntmps57
  go_wp2_with fail
  obtain ⟨X, hXw⟩ : ∃ X, X = w.heap.size := ⟨_, rfl⟩
  rw [← hXw] at hE ⊢
  have HXW := Lib.hid hXw
  clear hXw
  have hi1 : (boxI X [.int .i64 x, .int .i64 y, .int .i64 z] :: L)[i + 1]? = some (wbox p c) := hi
  have hj1 : (boxI X [.int .i64 x, .int .i64 y, .int .i64 z] :: L)[j + 1]? = some (cellI c F f q n) := hj
  refine Ord.wp_chain [] (fun w' => Env w0 (boxI X [.int .i64 x, .int .i64 y, .int .i64 z] :: L) w' ∧ Below w.heap.size w w') (fun _ _ => True) (by kernel_rfl) (by kernel_rfl) (by kernel_rfl) ⟨hE.drew, hb.drew⟩ trivial (fun hT => ?_)
  have hT9 := Lib.hid hT
  clear hT
  repeat (first
    | (refine Ord.ch_value (v := ?_) hT9.out (by decide) (by rfl) ?_ ?_; rotate_left; (focus (intro w5 hS; have r := hS.1.rule 0 rfl; go_simp <;> with_reducible rfl)); (try simp only [Act.put, List.setIfInBounds_toArray, List.set_cons_zero, List.set_cons_succ]))
    | (refine Ord.ch_off hT9.out (by decide) (by rfl) ?_; (try simp only [Act.put, List.setIfInBounds_toArray, List.set_cons_zero, List.set_cons_succ]))
    | (refine Ord.ch_call (v := ?_) (f := ?_) (args := ?_) hT9.out (by decide) (by rfl) ?_ ?_ ?_; rotate_left 3; (focus (intro w5 hS; have r := hS.1.rule 0 rfl; go_simp; constructor <;> with_reducible rfl)); (focus (intro w5 hS; (first | (with_reducible refine (kept_any (hS.1.wblk (i + 1) hi1)).mono ?_; rintro e w6 ⟨rfl, rfl⟩; constructor; with_reducible rfl; exact ⟨hS, fun _ h => h⟩) | (with_reducible refine (peek_any x y z HX.out (hS.1.cell (j + 1) hj1)).mono ?_; rintro e w6 ⟨rfl, hb6⟩; constructor; with_reducible rfl; exact ⟨⟨hS.1.over hb6, hS.2.trans (hb6.mono hS.2.size)⟩, fun _ h => h⟩)))); (try simp only [Act.put, List.setIfInBounds_toArray, List.set_cons_zero, List.set_cons_succ])))
  refine Ord.InText.nil fun w5 hS => ?_
  clear hT9
  obtain ⟨hC9, hA9⟩ := Ord.chain_end hS
  clear hS
  go_wp2
  go_ret
  exact ⟨rfl, hC9.2⟩
set_option maxHeartbeats 1600000 in
theorem count_w (i j : Nat) (hE : Env w0 L w) (hi : L[i]? = some (wbox p c)) (hj : L[j]? = some (cellI c F f q n)) :
    Calls Try.prog 53 #[.pointer (some ⟨p, 0, none⟩)] w fun e w' => e = .returned (.agg #[.int .i64 q.l, .int .i64 q.s, .int .i64 q.w, .int .i64 q.f, .int .i64 q.a]) ∧ Below w.heap.size w w' := by
  have hb := (Below.refl w.heap.size w).alloc (Nat.le_refl _) (.cells #[.int .i64 0, .int .i64 0, .int .i64 0, .int .i64 0, .int .i64 0] 58)
  replace hE := hE.box w.heap.size rfl [.int .i64 0, .int .i64 0, .int .i64 0, .int .i64 0, .int .i64 0] 58
  go_enter Try.func53, Try.ntmps53
  go_wp2_with fail
  refine (kept_any (hE.wblk (i + 1) hi)).mono ?_
  rintro e w1 ⟨rfl, rfl⟩
  go_wp2_with fail
  refine (count_any (hE.cell (j + 1) hj)).mono ?_
  rintro e w2 ⟨rfl, hb2⟩
  have hE2 := hE.over hb2
  have f5 := hE2.thaw 0 rfl
  have f0 := f5 0 (by simp)
  have f1 := f5 1 (by simp)
  have f2 := f5 2 (by simp)
  have f3 := f5 3 (by simp)
  have f4 := f5 4 (by simp)
  have r := hE2.rule 0 rfl
  have hB := hb.trans (hb2.mono hb.size)
  clear f5
  go_wp2
  have hP := hE2.put5 0 rfl (.int .i64 q.l) (.int .i64 q.s) (.int .i64 q.w) (.int .i64 q.f) (.int .i64 q.a)
  have q9 := hP.rule 0 rfl
  refine bodyPost_ret (v := .agg #[.int .i64 q.l, .int .i64 q.s, .int .i64 q.w, .int .i64 q.f, .int .i64 q.a]) (by simp [results, Try.results53, go_sem, q9]) rfl ⟨rfl, ?_⟩
  exact ((((hB.setCell (Nat.le_refl _) _).setCell (Nat.le_refl _) _).setCell (Nat.le_refl _) _).setCell (Nat.le_refl _) _).setCell (Nat.le_refl _) _
theorem new_w (hE : Env w0 L w) : Calls Try.prog 40 #[] w fun e w' => ∃ p c, e = .returned (.pointer (some ⟨p, 0, none⟩)) ∧ Env w0 (wbox p c :: cellI c (fun k => k = c) (fun _ => 0) ⟨0, 0, 0, 0, 0⟩ 0 :: L) w' ∧ Below w.heap.size w w' := by
  go_enter Try.func40, Try.ntmps40
  go_wp2_with fail
  refine (new_any w).mono ?_
  rintro e w1 ⟨rfl, hC, hb⟩
  replace hE := (hE.made hC (Nat.le_refl _) hb).box w1.heap.size rfl [.pointer (some ⟨w.heap.size, 0, none⟩)] 98
  go_wp2
  go_ret
  exact ⟨_, _, rfl, hE, hb.alloc hb.size _⟩
end
end Go.Proofs.Ythiccboecimfjaa

/- A map of numbers by places, read as a function that is 0 where nothing is. -/
namespace Go.Proofs.Ythiccboecimfjaa
open Go.RowKit Go.Maps
set_option maxRecDepth 100000

def wdI (v : Int) : DataW Unit := .lit (.int .i64 v)
/-- A function that is a word everywhere, and 0 but at places. -/
structure Nums (f : Plc → Int) : Prop where
  u : ∀ x, In64 (f x)
  out : ∀ x, ¬ Wf x → f x = 0
theorem Nums.zero : Nums fun _ => 0 := ⟨fun _ => (by unfold In64; omega), fun _ _ => rfl⟩
theorem Nums.set {f : Plc → Int} (h : Nums f) {x : Plc} (hx : Wf x) {v : Int} (hv : In64 v) : Nums (upd f x v) := by
  refine ⟨fun y => ?_, fun y hy => ?_⟩
  · unfold upd; split
    · exact hv
    · exact h.u y
  · rw [upd_other _ _ (fun e => hy (by rw [e]; exact hx))]
    exact h.out y hy
structure ReadsN (D : DataW Unit) (f : Plc → Int) : Prop where
  nums : Nums f
  at' : ∀ x, Wf x → D.atKey (kl x) (wdI 0) = wdI (f x)
  has' : ∀ x, Wf x → Maps.has D (kl x) = decide (f x ≠ 0)
theorem ReadsN.empty : ReadsN (.map []) fun _ => 0 := ⟨Nums.zero, fun _ _ => rfl, fun _ _ => by simp [Maps.has]⟩
theorem ReadsN.put {D : DataW Unit} {f : Plc → Int} (h : ReadsN D f) (hD : IsMap D) {x : Plc} (hx : Wf x) {v : Int} (hv : In64 v) (h0 : v ≠ 0) : ReadsN (D.put (kl x) (wdI v)) (upd f x v) := by
  refine ⟨h.nums.set hx hv, fun y hy => ?_, fun y hy => ?_⟩
  · by_cases e : y = x
    · subst e; rw [upd_same]; exact atKey_put_same hD (kl_key _) _ _
    · rw [upd_other _ _ e, atKey_put_other (fun e' => e (kl_inj hy hx e')), h.at' y hy]
  · by_cases e : y = x
    · subst e; rw [upd_same, has_put_same hD (kl_key _)]; simp [h0]
    · rw [upd_other _ _ e, has_put_other (fun e' => e (kl_inj hy hx e')), h.has' y hy]
theorem ReadsN.del {D : DataW Unit} {f : Plc → Int} (h : ReadsN D f) {x : Plc} (hx : Wf x) : ReadsN (D.del (kl x)) (upd f x 0) := by
  refine ⟨h.nums.set hx (by unfold In64; omega), fun y hy => ?_, fun y hy => ?_⟩
  · by_cases e : y = x
    · subst e; rw [upd_same]; exact atKey_del_same _
    · rw [upd_other _ _ e, atKey_del_other (fun e' => e (kl_inj hy hx e')), h.at' y hy]
  · by_cases e : y = x
    · subst e; rw [upd_same, has_del_same]; simp
    · rw [upd_other _ _ e, has_del_other (fun e' => e (kl_inj hy hx e')), h.has' y hy]

theorem zeroNum (w : World) : (zeroValue 3).run Try.prog w = .ok (.int .i64 0) w := by kernel_rfl
/-- What a map, nil or not, is good for: f, in at most n entries. -/
def LeadsIs (w : World) (mp : Option Nat) (f : Plc → Int) (n : Nat) : Prop :=
  (mp = none ∧ f = fun _ => 0) ∨ ∃ b D, mp = some b ∧ w.ownsMap Try.prog 44 (plainElem (H := Unit) Try.prog 3) b n D ∧ ReadsN D f
theorem LeadsIs.nums {w : World} {mp : Option Nat} {f : Plc → Int} {n : Nat} (h : LeadsIs w mp f n) : Nums f := by
  rcases h with ⟨_, rfl⟩ | ⟨b, D, _, _, h⟩
  · exact Nums.zero
  · exact h.nums
theorem LeadsIs.mono {w : World} {mp : Option Nat} {f : Plc → Int} {n m : Nat} (h : LeadsIs w mp f n) (hm : n ≤ m) : LeadsIs w mp f m := by
  rcases h with h | ⟨b, D, e, ho, hr⟩
  · exact .inl h
  · exact .inr ⟨b, D, e, ho.mono hm, hr⟩
theorem LeadsIs.lt {w : World} {mp : Option Nat} {f : Plc → Int} {n : Nat} (h : LeadsIs w mp f n) : ∀ b, mp = some b → b < w.heap.size := by
  rcases h with ⟨rfl, _⟩ | ⟨b, D, rfl, ho, hr⟩
  · intro b e; cases e
  · intro b' e; cases e; exact ho.lt
theorem LeadsIs.kept {w w' : World} {mp : Option Nat} {f : Plc → Int} {n : Nat} (h : LeadsIs w mp f n) (hk : ∀ b, mp = some b → w'.heap[b]? = w.heap[b]?) : LeadsIs w' mp f n := by
  rcases h with h | ⟨b, D, e, ⟨es, clock, hb, r⟩, hr⟩
  · exact .inl h
  · exact .inr ⟨b, D, e, ⟨es, clock, (hk b e).trans hb, r⟩, hr⟩
theorem LeadsIs.more {w : World} {mp : Option Nat} {f : Plc → Int} {n : Nat} (h : LeadsIs w mp f n) (o : Obj) : LeadsIs (w.alloc o) mp f n := h.kept fun b e => Below.heap_alloc _ _ _ (h.lt b e)
theorem LeadsIs.drew {w : World} {mp : Option Nat} {f : Plc → Int} {n : Nat} (h : LeadsIs w mp f n) : LeadsIs w.drew mp f n := h.kept fun _ _ => rfl
theorem LeadsIs.look {w : World} {mp : Option Nat} {f : Plc → Int} {n : Nat} (h : LeadsIs w mp f n) {x : Plc} (hx : Wf x) : (Instr.lookup 81 (.map mp) (pv x) false).run Try.prog w = .ok (.int .i64 (f x)) w := by
  rcases h with ⟨rfl, rfl⟩ | ⟨b, D, rfl, ho, hr⟩
  · have := Maps.look_nil (w := w) false keyPlace Try.underlying81 (zeroNum w) (key_mk x hx)
    simpa using this
  · obtain ⟨c, hrun, hat, _⟩ := ho.lookup_int keyPlace Try.underlying81 Try.underlying3 (zeroNum w) (key_mk x hx)
    have h1 := hr.at' x hx
    unfold wdI at h1
    rw [h1] at hat
    simp at hat
    rw [hrun, hat]
theorem LeadsIs.drop {w : World} {mp : Option Nat} {f : Plc → Int} {n : Nat} (h : LeadsIs w mp f n) {x : Plc} (hx : Wf x) (ty : TypeId) :
    ∃ w', (Builtin.delete_ #[81, 44] ty #[.map mp, pv x]).run Try.prog w = .ok (.tuple #[]) w' ∧ LeadsIs w' mp (upd f x 0) n ∧ Turn (fun k => mp = some k) w w' := by
  rcases h with ⟨rfl, rfl⟩ | ⟨b, D, rfl, ho, hr⟩
  · refine ⟨w, Maps.drop_nil keyPlace Try.underlying81 (key_mk x hx) ty, .inl ⟨rfl, ?_⟩, Turn.refl _ _⟩
    funext y; simp [upd]
  · obtain ⟨w', hrun, ho', ht⟩ := ho.drop keyPlace Try.underlying81 (key_mk x hx) ty
    exact ⟨w', hrun, .inr ⟨b, _, rfl, ho', hr.del hx⟩, (Turn.refl _ _).turned ht fun _ => rfl⟩
theorem LeadsIs.store {w : World} {b : Nat} {f : Plc → Int} {n : Nat} (h : LeadsIs w (some b) f n) (hn : n < maxLen) {x : Plc} (hx : Wf x) {v : Int} (hv : In64 v) (h0 : v ≠ 0) :
    ∃ w', (Instr.mapUpdate 81 (.map (some b)) (pv x) (.int .i64 v)).run Try.prog w = .ok () w' ∧ LeadsIs w' (some b) (upd f x v) (n + 1) ∧ Turn (fun k => k = b) w w' := by
  rcases h with ⟨e, _⟩ | ⟨b', D, e, ho, hr⟩
  · cases e
  · cases e
    obtain ⟨w', hrun, ho', ht⟩ := ho.store keyPlace Try.underlying81 hn (key_mk x hx) (plainElem_int Try.underlying3 (wf_i.2 hv))
    exact ⟨w', hrun, .inr ⟨b, _, rfl, ho', hr.put ho.isMap hx hv h0⟩, (Turn.refl _ _).turned ht fun _ => rfl⟩
theorem LeadsIs.made (w : World) : LeadsIs (w.alloc (.map #[] 0)) (some w.heap.size) (fun _ => 0) 0 := .inr ⟨_, _, rfl, World.ownsMap_made w _ _ _, ReadsN.empty⟩
end Go.Proofs.Ythiccboecimfjaa

/- A map of numbers by places, as a thing among others. -/
namespace Go.Proofs.Ythiccboecimfjaa
open Go.RowKit Go.Maps
set_option maxRecDepth 100000

/-- Whom words lead to, as a thing. -/
def leadsI (mp : Option Nat) (h : Plc → Int) (m : Nat) : Item where
  F := fun k => mp = some k
  says := fun w => LeadsIs w mp h m
  loc := fun _ _ h hk _ => h.kept fun b e => hk b e

section
variable {w0 w w' : World} {L : List Item} {mp : Option Nat} {h h' : Plc → Int} {m m' : Nat}
theorem Env.leads (hE : Env w0 L w) (i : Nat) (hi : L[i]? = some (leadsI mp h m)) : LeadsIs w mp h m := hE.get i hi
theorem Env.turnL (hE : Env w0 L w) (i : Nat) (hi : L[i]? = some (leadsI mp h m)) (hM : LeadsIs w' mp h' m') (ht : Turn (fun k => mp = some k) w w') : Env w0 (L.set i (leadsI mp h' m')) w' :=
  hE.step i (leadsI mp h' m') hi ⟨ht, fun _ hk => .inl hk⟩ hM hM.lt
theorem Env.mapMade (hE : Env w0 L w) (i : Nat) (hi : L[i]? = some (leadsI none h m)) (n : Nat) (hn : w.heap.size = n) : Env w0 (L.set i (leadsI (some n) h m)) (w.alloc (.map #[] 0)) := by
  subst hn
  have hM := hE.leads i hi
  have e : h = fun _ => 0 := by
    rcases hM with ⟨_, e⟩ | ⟨b, D, e, _⟩
    · exact e
    · cases e
  subst e
  have hM' : LeadsIs (w.alloc (.map #[] 0)) (some w.heap.size) (fun _ => 0) m := (LeadsIs.made w).mono (Nat.zero_le _)
  exact hE.step i (leadsI (some w.heap.size) (fun _ => 0) m) hi ⟨(Turn.refl _ w).alloc _, fun k hk => by cases hk; exact .inr (Nat.le_refl _)⟩ hM' hM'.lt
theorem Env.newL (hE : Env w0 L w) : Env w0 (leadsI none (fun _ => 0) 0 :: L) w :=
  hE.add (leadsI none (fun _ => 0) 0) (Below.refl _ _) (.inl ⟨rfl, rfl⟩) fun k hk => by cases hk
end

theorem setSelf {L : List Item} {i : Nat} {a : Item} (h : L[i]? = some a) : L.set i a = L := by
  apply List.ext_getElem?
  intro j
  rw [List.getElem?_set]
  split
  · rename_i e; subst e; rw [h]; have := (List.getElem?_eq_some_iff.1 h).1; simp [this]
  · rfl
theorem wself {L : List Item} {i : Nat} {a b : Item} (h : L[i]? = some a) : (L.set i b)[i]? = some b := by
  have := (List.getElem?_eq_some_iff.1 h).1
  rw [List.getElem?_set_self this]
theorem Blk.over {m n : Nat} {vs : List Value} {w w' : World} (h : Blk m w n vs) (hb : Below w.heap.size w w') : Blk m w' n vs := h.kept hb.size (hb.block n h.1)
/-- What is said at each of two stations stays, whatever the station. -/
theorem Stage.two {P0 P1 : World → Prop} {w w' : World} (h0 : P0 w → P0 w') (h1 : P1 w → P1 w') (j : Nat) (h : Stage [P0, P1] j w) : Stage [P0, P1] j w' := by
  obtain ⟨P, hP, h⟩ := h
  match j, hP with
  | 0, hP => cases hP; exact ⟨_, rfl, h0 h⟩
  | 1, hP => cases hP; exact ⟨_, rfl, h1 h⟩
  | j + 2, hP => simp at hP
theorem Stage.three {P0 P1 P2 : World → Prop} {w w' : World} (h0 : P0 w → P0 w') (h1 : P1 w → P1 w') (h2 : P2 w → P2 w') (j : Nat) (h : Stage [P0, P1, P2] j w) : Stage [P0, P1, P2] j w' := by
  obtain ⟨P, hP, h⟩ := h
  match j, hP with
  | 0, hP => cases hP; exact ⟨_, rfl, h0 h⟩
  | 1, hP => cases hP; exact ⟨_, rfl, h1 h⟩
  | 2, hP => cases hP; exact ⟨_, rfl, h2 h⟩
  | j + 3, hP => simp at hP
theorem swf_yes {f : Plc → Int} {x : Plc} {o v : Int} (h : f x = o) : swf f x o v = upd f x v := if_pos h
theorem swf_no {f : Plc → Int} {x : Plc} {o v : Int} (h : ¬ f x = o) : swf f x o v = f := if_neg h
end Go.Proofs.Ythiccboecimfjaa

/- Rows of the call's own: kept while others turn; appended to; as things among others. -/
namespace Go.Proofs.Ythiccboecimfjaa
open Go.RowKit
set_option maxRecDepth 100000

theorem ownsRow_lt {w : World} {b : Nat} {v : Value} {e : TypeId} {n s : Nat} {xs : List Value} (h : w.ownsRow b e s v n xs) : ∀ k, v.ownBlock = some k → k < w.heap.size := fun k hk => (h.lt k hk).2
theorem ownsRow_kept {w w' : World} {b : Nat} {v : Value} {e : TypeId} {n s : Nat} {xs : List Value} (h : w.ownsRow b e s v n xs) (hk : ∀ k, v.ownBlock = some k → w'.heap[k]? = w.heap[k]?) : w'.ownsRow b e s v n xs := by
  refine ⟨h.1, ?_⟩
  rcases h.2 with hn | ⟨g, cap, cur, rfl, hb, hg, rest⟩
  · exact .inl hn
  · exact .inr ⟨g, cap, cur, rfl, hb, (hk g rfl).trans hg, rest⟩
theorem run_call_append {P : Program} {o : Oper} {f : Operand → Value} (s x : Operand) (t : TypeId) (ho : o.op = .call { callee := .builtin .append, args := #[s, x], argTypes := #[t, t] }) {vs vx r : Value} {w w' : World} (hs : f s = vs) (hx : f x = vx)
    (hr : (Builtin.append_ #[t, t] o.type #[vs, vx]).run P w = .ok r w') : (execOp f o).run P w = .ok (.value r) w' := by
  unfold execOp
  simp only [ho, resolve, invoke, builtin, Sem.run_bind, Sem.run_pure, Result.andThen_ok, List.map_toArray, List.map_cons, List.map_nil, hs, hx, hr]
theorem append_lands {P : Program} {o : Oper} {f : Operand → Value} {T : World → Prop} {s x : Operand} {t : TypeId} {vs vx r : Value} {w w' : World} (ho : o.op = .call { callee := .builtin .append, args := #[s, x], argTypes := #[t, t] }) (hr : (Builtin.append_ #[t, t] o.type #[vs, vx]).run P w = .ok r w') (hs : f s = vs) (hx : f x = vx) (hT : T w') : Ord.LandsIn P T r ((execOp f o).run P w) := by
  rw [run_call_append s x t ho hs hx hr]
  exact ⟨rfl, hT⟩
theorem Step.of_below {w w' : World} (F : Nat → Prop) (hb : Below w.heap.size w w') : Step F F w w' := ⟨Turn.of_below hb, fun _ h => .inl h⟩
/-- A row appended to a row of ours: what is appended is nothing, or cells behind an address. -/
theorem run_append_rows {P : Program} (t ty : TypeId) (base : Nat) (e : TypeId) (i : TypeInfo) (z : Value) (size bytes : Nat) (ht : P.underlying t = some (.slice e)) (hi : P.info? e = some i) (hz : i.zero = some z)
    (hsize : i.size = size) (hby : i.bytes = bytes) (hzs : z.cells.size = size) (hsz : 0 < size) (w : World)
    (v : Value) (n : Nat) (xs : List Value) (hown : w.ownsRow base e size v n xs) (A : Option Addr) (m c : Nat) (news : List Value) (hl : news.length = m * size)
    (hnews : (A = none ∧ m = 0) ∨ ∃ ad, A = some ad ∧ ∀ j u, news[j]? = some u → w.cell? (ad.add j) = some u) (h1 : ∀ u ∈ news, u.oneCell' = true)
    (h63 : n + m ≤ maxLen) (hbytes : (n + m) * bytes ≤ 140737488355328) (hbase : base ≤ w.heap.size) :
    ∃ v' w', (Builtin.append_ #[t, t] ty #[v, .slice A m c]).run P w = .ok v' w' ∧ w'.ownsRow base e size v' (n + m) (xs ++ news) ∧ w.grownBy w' v.ownBlock ∧ (v'.ownBlock = v.ownBlock ∨ v'.ownBlock = some w.heap.size) := by
  rcases hnews with ⟨rfl, rfl⟩ | ⟨ad, rfl, hn⟩
  · have h0 : news = [] := List.eq_nil_of_length_eq_zero (by simpa using hl)
    subst h0
    refine ⟨v, w, ?_, by simpa using hown, ⟨rfl, rfl, rfl, Nat.le_refl _, fun _ _ _ => rfl⟩, .inl rfl⟩
    rcases hown.2 with ⟨rfl, rfl⟩ | ⟨g, cap, cur, rfl, hb, hg, hnc, hcm, hcs, htk⟩
    · simp [Builtin.append_, run_underlying ht, sizeOf, typeInfo, hi, Builtin.lenOf, Builtin.firstCells]
    · simp [Builtin.append_, run_underlying ht, sizeOf, typeInfo, hi, Builtin.lenOf, Builtin.firstCells, hnc, storeCells]
  · obtain ⟨v', w', hr, h2, h3, _, h5⟩ := run_append_own_at (P := P) w base t ty e i z size bytes ht hi hz hsize hby hzs hsz v n xs hown ad m c news hl hn h1 h63 hbytes hbase
    exact ⟨v', w', hr, h2, h3, h5⟩
theorem wpList_append_run {P : Program} {ops : Array Oper} {rest : List Oper} {o : Oper} {a : Act} {w : World} {Q : Exit → Act → World → Prop} (hgd : o.guard = none) (s x : Operand) (t : TypeId) (ho : o.op = .call { callee := .builtin .append, args := #[s, x], argTypes := #[t, t] })
    {vs vx r : Value} {w' : World} (hr : (Builtin.append_ #[t, t] o.type #[vs, vx]).run P w = .ok r w') (hs : a.eval s = vs) (hx : a.eval x = vx) (h : wpList P ops Q rest (a.put o.dst r) w') : wpList P ops Q (o :: rest) a w :=
  wpList_plain hgd fun K hK => by
    unfold Oper.wp
    rw [run_call_append s x t ho hs hx hr]
    exact hK _ _ h
theorem ownsRow_base {w : World} {b b' : Nat} {e : TypeId} {s n : Nat} {v : Value} {xs : List Value} (h : w.ownsRow b e s v n xs) (hb : b' ≤ b) : w.ownsRow b' e s v n xs :=
  ⟨h.1, h.2.imp id fun ⟨g, cap, cur, h1, h2, h3⟩ => ⟨g, cap, cur, h1, Nat.le_trans hb h2, h3⟩⟩
theorem ownsRow_slice {w : World} {b : Nat} {e : TypeId} {s n : Nat} {v : Value} {xs : List Value} (h : w.ownsRow b e s v n xs) : ∃ A c, v = .slice A n c := by
  rcases h.2 with ⟨rfl, rfl⟩ | ⟨g, cap, cur, rfl, _⟩
  · exact ⟨_, _, rfl⟩
  · exact ⟨_, _, rfl⟩
theorem cells_new (w : World) (vs : List Value) (t : TypeId) : ∀ j u, vs[j]? = some u → (w.alloc (.cells vs.toArray t)).cell? ((⟨w.heap.size, 0, none⟩ : Addr).add j) = some u := fun j u h => by
  have e : (⟨w.heap.size, 0, none⟩ : Addr).add j = ⟨w.heap.size, j, none⟩ := by unfold Addr.add; split <;> simp_all
  rw [e, (Blk.new 0 w vs t).rule j]
  exact h

/-! ### as things -/
/-- A row: the slice v owns the cells xs. -/
def rowI (v : Value) (e : TypeId) (s n : Nat) (xs : List Value) : Item where
  F := fun k => v.ownBlock = some k
  says := fun w => w.ownsRow 0 e s v n xs
  loc := fun w1 w2 h hk _ => ownsRow_kept h hk
/-- Whole numbers in a row. -/
def ints (zs : List Int) : List Value := zs.map (Value.int .i64)
theorem ints_length (zs : List Int) : (ints zs).length = zs.length * 1 := by simp [ints]
theorem ints_append (a b : List Int) : ints (a ++ b) = ints a ++ ints b := by simp [ints]
def intsI (v : Value) (zs : List Int) : Item := rowI v 3 1 zs.length (ints zs)
theorem infoInt : (Try.prog.info? 3).map (fun i => (i.zero, i.size, i.bytes)) = some (some (.int .i64 0), 1, 8) := by kernel_rfl
/-- What the cells of such a row hold. -/
def Cells1 (w : World) (A : Option Addr) (zs : List Int) : Prop := zs = [] ∨ ∃ g, A = some ⟨g, 0, none⟩ ∧ g < w.heap.size ∧ ∀ i, i < zs.length → w.cell? ⟨g, i, none⟩ = some (.int .i64 (zs.getD i 0))
theorem cells1 {w : World} {b : Nat} {A : Option Addr} {cap : Nat} {zs : List Int} (h : w.ownsRow b 3 1 (.slice A zs.length cap) zs.length (ints zs)) : Cells1 w A zs := by
  rcases h.2 with ⟨_, h0⟩ | ⟨g, cap', cur, hv, _, hg, hn, hc, hcs, htk⟩
  · exact .inl (List.eq_nil_of_length_eq_zero h0)
  · simp only [Value.slice.injEq] at hv
    obtain ⟨rfl, -, rfl⟩ := hv
    refine .inr ⟨g, rfl, (Array.getElem?_eq_some_iff.1 hg).1, fun j hj => ?_⟩
    have h1 : (ints zs)[j]? = some (.int .i64 (zs.getD j 0)) := by simp [ints, hj]
    rw [← h1, ← htk, List.getElem?_take_of_lt (by omega)]
    simp [World.cell?, hg]
theorem Cells1.over {w w' : World} {A : Option Addr} {zs : List Int} (h : Cells1 w A zs) (hk : ∀ k, (Value.slice A zs.length 0).ownBlock = some k → w'.heap[k]? = w.heap[k]?) (hs : w.heap.size ≤ w'.heap.size) : Cells1 w' A zs := by
  rcases h with h | ⟨g, rfl, hg, hc⟩
  · exact .inl h
  · exact .inr ⟨g, rfl, Nat.lt_of_lt_of_le hg hs, fun i hi => by rw [World.cell?_of_block (w := w) (hk g rfl)]; exact hc i hi⟩

section
variable {w0 w w' : World} {L : List Item}
theorem Env.row (h : Env w0 L w) (i : Nat) {v : Value} {zs : List Int} (hi : L[i]? = some (intsI v zs)) : w.ownsRow 0 3 1 v zs.length (ints zs) := h.get i hi
theorem Env.rowCells (h : Env w0 L w) (i : Nat) {A : Option Addr} {n cap : Nat} {zs : List Int} (hn : n = zs.length) (hi : L[i]? = some (intsI (.slice A n cap) zs)) : Cells1 w A zs := by subst hn; exact cells1 (h.row i hi)
/-- A row that has come into being. -/
theorem Env.addRow (h : Env w0 L w) {v : Value} {zs : List Int} (ho : w'.ownsRow w.heap.size 3 1 v zs.length (ints zs)) (hb : Below w.heap.size w w') : Env w0 (intsI v zs :: L) w' :=
  h.add (intsI v zs) hb (ownsRow_base ho (Nat.zero_le _)) fun k hk => ho.lt k hk
theorem Env.addNone (h : Env w0 L w) : Env w0 (intsI (.slice none 0 0) [] :: L) w :=
  h.add (intsI (.slice none 0 0) []) (Below.refl _ _) (World.ownsRow_nil _ _ _ _) fun k hk => by cases hk
/-- An empty row that has been made. -/
theorem Env.addEmpty (h : Env w0 L w) (n : Nat) (hn : w.heap.size = n) : Env w0 (intsI (.slice (some ⟨n, 0, none⟩) 0 0) [] :: L) (w.alloc (.cells #[] 3)) := by
  subst hn
  exact h.addRow (v := .slice (some ⟨w.heap.size, 0, none⟩) 0 0) (zs := []) ⟨rfl, .inr ⟨w.heap.size, 0, #[], rfl, Nat.le_refl _, heap_alloc_new w _, Nat.le_refl _, Nat.zero_le _, rfl, rfl⟩⟩ ((Below.refl _ _).alloc (Nat.le_refl _) _)
/-- One number appended to a row. -/
theorem Env.append1 (h : Env w0 L w) (i : Nat) {v : Value} {zs : List Int} (hi : L[i]? = some (intsI v zs)) (x : Int) (hz : zs.length ≤ 1000000) (n : Nat) (hn : w.heap.size = n) :
    ∃ g cap w', (Builtin.append_ #[31, 31] 31 #[v, .slice (some ⟨n, 0, none⟩) 1 1]).run Try.prog (w.alloc (.cells #[.int .i64 x] 3)) = .ok (.slice (some ⟨g, 0, none⟩) (zs.length + 1) cap) w' ∧
      Env w0 (L.set i (intsI (.slice (some ⟨g, 0, none⟩) (zs.length + 1) cap) (zs ++ [x]))) w' ∧ Step (fun k => v.ownBlock = some k) (fun k => k = g) w w' := by
  subst hn
  obtain ⟨i0, hi0, hz0, hz1, hz2⟩ := info_parts infoInt
  have hown := h.row i hi
  obtain ⟨g, cap, w', hrun, ho, hgr, hg, hgl⟩ := run_append_lies (P := Try.prog) (w.alloc (.cells #[.int .i64 x] 3)) 31 31 0 3 i0 (.int .i64 0) 1 8 Try.underlying31 hi0 hz0 hz1 hz2 rfl (by decide) v zs.length (ints zs) (hown.alloc _)
    ⟨w.heap.size, 0, none⟩ 1 1 [.int .i64 x] rfl (cells_new _ _ _) (by simp [Value.oneCell']) (by omega) (by simp [maxLen]; omega) (by omega) (by simp) _ rfl
  have hst : Step (fun k => v.ownBlock = some k) (fun k => k = g) w w' := ⟨((Turn.refl _ w).alloc _).grown hgr fun k _ e => e, fun k hk => by
    subst hk
    rcases hg with e | e
    · exact .inl e
    · right; rw [e]; simp⟩
  refine ⟨g, cap, w', hrun, ?_, hst⟩
  refine h.step i (intsI (.slice (some ⟨g, 0, none⟩) (zs.length + 1) cap) (zs ++ [x])) hi ⟨hst.turn, fun k hk => hst.from' k (by cases hk; rfl)⟩ ?_ fun k hk => by cases hk; exact hgl
  have e1 : (zs ++ [x]).length = zs.length + 1 := by simp
  show w'.ownsRow 0 3 1 _ (zs ++ [x]).length (ints (zs ++ [x]))
  rw [e1, ints_append]
  exact ho
end
end Go.Proofs.Ythiccboecimfjaa

/- Souls: mathematics: births in a row; who a slot ever was, who it is. -/
namespace Go.Proofs.Ythiccboecimfjaa

/-- Who x ever was, the births in a row from the identity n on. -/
def idsFrom : Nat → List Int → Int → List Int
  | _, [], _ => []
  | n, y :: l, x => if y = x then (n : Int) :: idsFrom (n + 1) l x else idsFrom (n + 1) l x
def ids (l : List Int) (x : Int) : List Int := idsFrom 1 l x
/-- Who it is. -/
def nowL (l : List Int) (x : Int) : Int := (ids l x).getLastD 0
theorem idsFrom_snoc (y x : Int) : ∀ (l : List Int) (n : Nat), idsFrom n (l ++ [y]) x = idsFrom n l x ++ (if y = x then [((n + l.length : Nat) : Int)] else [])
  | [], n => by simp only [List.nil_append, idsFrom]; split <;> simp
  | z :: l, n => by
    simp only [List.cons_append, idsFrom, idsFrom_snoc y x l (n + 1), List.length_cons]
    rw [show n + 1 + l.length = n + (l.length + 1) by omega]
    split <;> simp
theorem ids_snoc (l : List Int) (y x : Int) : ids (l ++ [y]) x = ids l x ++ (if y = x then [(l.length : Int) + 1] else []) := by
  unfold ids
  rw [idsFrom_snoc]
  split
  · simp; omega
  · rfl
theorem ids_nil (x : Int) : ids [] x = [] := rfl
theorem ids_other {l : List Int} {x : Int} (h : x ∉ l) : ids l x = [] := by
  unfold ids
  generalize 1 = n
  induction l generalizing n with
  | nil => rfl
  | cons y l ih =>
    simp only [List.mem_cons, not_or] at h
    have h1 : ¬ y = x := fun e => h.1 e.symm
    simp only [idsFrom, if_neg h1, ih h.2]
theorem idsFrom_mem (l : List Int) (x : Int) : ∀ (n : Nat) (i : Int), i ∈ idsFrom n l x ↔ ∃ k : Nat, i = (n + k : Nat) ∧ l[k]? = some x := by
  induction l with
  | nil => intro n i; simp [idsFrom]
  | cons y l ih =>
    intro n i
    simp only [idsFrom]
    split
    · rename_i e
      rw [List.mem_cons, ih]
      constructor
      · rintro (rfl | ⟨k, rfl, hk⟩)
        · exact ⟨0, rfl, by simp [e]⟩
        · exact ⟨k + 1, by simp; omega, by simpa using hk⟩
      · rintro ⟨k, rfl, hk⟩
        cases k with
        | zero => exact .inl rfl
        | succ k => exact .inr ⟨k, by simp; omega, by simpa using hk⟩
    · rename_i e
      rw [ih]
      constructor
      · rintro ⟨k, rfl, hk⟩
        exact ⟨k + 1, by simp; omega, by simpa using hk⟩
      · rintro ⟨k, rfl, hk⟩
        cases k with
        | zero => simp at hk; exact absurd hk e
        | succ k => exact ⟨k, by simp; omega, by simpa using hk⟩
/-- i is one of x's: the i-th birth is in x. -/
theorem ids_mem {l : List Int} {x i : Int} : i ∈ ids l x ↔ ∃ k : Nat, i = (k : Int) + 1 ∧ l[k]? = some x := by
  unfold ids
  rw [idsFrom_mem]
  constructor
  · rintro ⟨k, rfl, h⟩; exact ⟨k, by omega, h⟩
  · rintro ⟨k, rfl, h⟩; exact ⟨k, by omega, h⟩
theorem ids_ne_nil {l : List Int} {x : Int} : ids l x ≠ [] ↔ x ∈ l := by
  constructor
  · intro h
    by_cases hx : x ∈ l
    · exact hx
    · exact absurd (ids_other hx) h
  · intro h e
    obtain ⟨k, hk⟩ := List.getElem?_of_mem h
    have : ((k : Int) + 1) ∈ ids l x := ids_mem.2 ⟨k, rfl, hk⟩
    rw [e] at this
    simp at this
theorem ids_length_le (l : List Int) (x : Int) : (ids l x).length ≤ l.length := by
  unfold ids
  generalize 1 = n
  induction l generalizing n with
  | nil => simp [idsFrom]
  | cons y l ih =>
    simp only [idsFrom]
    split
    · have := ih (n + 1); simp; omega
    · have := ih (n + 1); simp; omega
theorem nowL_snoc (l : List Int) (y x : Int) : nowL (l ++ [y]) x = if y = x then (l.length : Int) + 1 else nowL l x := by
  unfold nowL
  rw [ids_snoc]
  split
  · simp
  · simp
theorem nowL_mem {l : List Int} {x : Int} (h : nowL l x ≠ 0) : nowL l x ∈ ids l x := by
  unfold nowL at *
  rcases e : ids l x with _ | ⟨a, r⟩
  · rw [e] at h; exact absurd rfl h
  · exact List.getLast_mem (l := a :: r) (by simp)
theorem nowL_bound (l : List Int) (x : Int) : 0 ≤ nowL l x ∧ nowL l x ≤ l.length := by
  by_cases h : nowL l x = 0
  · omega
  · obtain ⟨k, e, hk⟩ := ids_mem.1 (nowL_mem h)
    have := (List.getElem?_eq_some_iff.1 hk).1
    omega
theorem nowL_zero {l : List Int} {x : Int} : nowL l x = 0 ↔ x ∉ l := by
  constructor
  · intro h hx
    have h1 := ids_ne_nil.2 hx
    unfold nowL at h
    rcases e : ids l x with _ | ⟨a, r⟩
    · exact h1 e
    · have : (a :: r).getLastD 0 ∈ ids l x := by rw [e]; exact List.getLast_mem (l := a :: r) (by simp)
      rw [e] at h
      rw [h] at this
      obtain ⟨k, e2, _⟩ := ids_mem.1 this
      omega
  · intro h
    simp [nowL, ids_other h]
/-- Two slots are never the same one. -/
theorem nowL_inj {l : List Int} {x y : Int} (h : nowL l x = nowL l y) (h0 : nowL l x ≠ 0) : x = y := by
  obtain ⟨k, e, hk⟩ := ids_mem.1 (nowL_mem h0)
  obtain ⟨j, e2, hj⟩ := ids_mem.1 (nowL_mem (h ▸ h0))
  have : k = j := by omega
  subst this
  rw [hk] at hj
  exact Option.some.inj hj
/-- Where i was born; 0: nowhere. -/
def slotL (l : List Int) (i : Int) : Int := if 1 ≤ i ∧ i ≤ l.length then l.getD (i - 1).toNat 0 else 0

/-- In which slots some were: each once, rising. -/
def Rises (m : List Int) : Prop := m.Pairwise (fun a b => a < b)
def SlotsOf (l m : List Int) : Prop := Rises m ∧ ∀ x, x ∈ m ↔ x ∈ l
theorem rises_eq : ∀ {l m : List Int}, Rises l → Rises m → (∀ x, x ∈ l ↔ x ∈ m) → l = m
  | [], [], _, _, _ => rfl
  | [], y :: m, _, _, h => by have := (h y).2 (by simp); simp at this
  | x :: l, [], _, _, h => by have := (h x).1 (by simp); simp at this
  | x :: l, y :: m, h1, h2, h => by
    obtain ⟨a1, a2⟩ := List.pairwise_cons.1 h1
    obtain ⟨b1, b2⟩ := List.pairwise_cons.1 h2
    have hxy : x = y := by
      rcases List.mem_cons.1 ((h x).1 (by simp)) with e | hx
      · exact e
      · rcases List.mem_cons.1 ((h y).2 (by simp)) with e | hy
        · exact e.symm
        · have := a1 y hy; have := b1 x hx; omega
    subst hxy
    rw [rises_eq a2 b2 fun z => ⟨fun hz => by
      rcases List.mem_cons.1 ((h z).1 (by simp [hz])) with e | h'
      · subst e; have := a1 _ hz; omega
      · exact h', fun hz => by
      rcases List.mem_cons.1 ((h z).2 (by simp [hz])) with e | h'
      · subst e; have := b1 _ hz; omega
      · exact h'⟩]
theorem SlotsOf.eq {l m n : List Int} (h : SlotsOf l m) (k : SlotsOf l n) : m = n := rises_eq h.1 k.1 fun x => (h.2 x).trans (k.2 x).symm
/-- Each once. -/
def each : List Int → List Int
  | [] => []
  | x :: l => if x ∈ each l then each l else x :: each l
theorem each_spec (l : List Int) : (each l).Nodup ∧ ∀ x, x ∈ each l ↔ x ∈ l := by
  induction l with
  | nil => exact ⟨List.nodup_nil, fun x => Iff.rfl⟩
  | cons y l ih =>
    unfold each
    split
    · rename_i h
      refine ⟨ih.1, fun x => ?_⟩
      rw [ih.2, List.mem_cons]
      exact ⟨.inr, fun e => e.elim (fun e => by rw [e]; exact (ih.2 y).1 h) id⟩
    · rename_i h
      exact ⟨List.nodup_cons.2 ⟨h, ih.1⟩, fun x => by rw [List.mem_cons, List.mem_cons, ih.2]⟩
end Go.Proofs.Ythiccboecimfjaa

/- Who was born where: a map of rows of the program's own, by whole numbers. -/
namespace Go.Proofs.Ythiccboecimfjaa
open Go.RowKit Go.Maps Go.MapKept Go.ChangeShapes
set_option maxRecDepth 100000
open Go.WideElems (Fit rd rg rd_val)

theorem keyedI : Keyed Try.prog 3 := int_keyed Try.underlying3
theorem keyI {x : Int} (h : In64 x) : keyOf Try.prog 3 (.int .i64 x) = some (.int .i64 x) := keyOf_int_mk Try.underlying3 (wf_i.2 h)
theorem zeroInts (w : World) : (zeroValue 31).run Try.prog w = .ok (.slice none 0 0) w := by kernel_rfl
theorem lits_inj {a b : List Int} (h : lits (H := Unit) .i64 a = lits .i64 b) : a = b :=
  (List.map_inj_right (fun x y e => by cases e; rfl)).1 h

/-- What the map's datum says: for each slot in which somebody was born all that it ever was. -/
structure ReadsG (D : DataW Unit) (l : List Int) : Prop where
  at' : ∀ x, D.atKey (.int .i64 x) .nil = if x ∈ l then .slice (lits .i64 (ids l x)) [] else .nil
  has' : ∀ x, Maps.has D (.int .i64 x) = decide (x ∈ l)
theorem ReadsG.empty : ReadsG (.map []) [] := ⟨fun x => by simp; rfl, fun x => by simp [Maps.has]⟩
theorem ReadsG.put {D : DataW Unit} {l : List Int} (h : ReadsG D l) (hD : IsMap D) (x : Int) : ReadsG (D.put (.int .i64 x) (.slice (lits .i64 (ids (l ++ [x]) x)) [])) (l ++ [x]) := by
  refine ⟨fun y => ?_, fun y => ?_⟩
  · by_cases e : y = x
    · subst e
      rw [atKey_put_same hD (show WideAt.IsKeyLit (.int .i64 y) from trivial), if_pos (by simp)]
    · have h1 : ids (l ++ [x]) y = ids l y := by rw [ids_snoc, if_neg (fun e' : x = y => e e'.symm), List.append_nil]
      rw [atKey_put_other (fun e' => e (by cases e'; rfl)), h.at' y, h1]
      simp [e]
  · by_cases e : y = x
    · subst e
      rw [has_put_same hD (show WideAt.IsKeyLit (.int .i64 y) from trivial)]; simp
    · rw [has_put_other (fun e' => e (by cases e'; rfl)), h.has' y]; simp [e]

section
variable {w w' : World} {base : Nat} {e k : TypeId} {q : IntKind} {b n : Nat} {D : DataW Unit} {P : Program}
theorem groups_owned {es : Array MapEntry} {clock : Nat} (F : Fit P k (rowElem (H := Unit) w base e q) es clock) {x : MapEntry} (hx : x ∈ es.toList) : ∃ zs, w.ownsInts base e q x.val zs := by
  obtain ⟨y, hy⟩ := F.reads x hx
  obtain ⟨z, hz, _⟩ := rd_val hy
  obtain ⟨zs, ho, _⟩ := rowElem_inv hz
  exact ⟨zs, ho⟩
/-- The groups stay while their own blocks do. -/
theorem groups_kept (h : w.ownsGroups P k base e q b n D) (hb' : w'.heap[b]? = w.heap[b]?)
    (hrow : ∀ es clock, w.heap[b]? = some (.map es clock) → ∀ x ∈ es.toList, ∀ g, x.val.ownBlock = some g → w'.heap[g]? = w.heap[g]?) : w'.ownsGroups P k base e q b n D := by
  obtain ⟨es, clock, hb, F, hs, rfl, hbb, hlen, hap⟩ := h
  have hk : ∀ x ∈ es.toList, ∀ zs, w.ownsInts base e q x.val zs → w'.ownsInts base e q x.val zs := fun x hx zs ho => ⟨ownsRow_kept ho.1 (hrow es clock hb x hx), ho.2⟩
  obtain ⟨F1, hmap, _⟩ := F.stay (R' := rowElem w' base e q) fun x hx z hz => by
    obtain ⟨zs, ho, rfl⟩ := rowElem_inv hz
    exact rowElem_mk (hk x hx zs ho)
  refine ⟨es, clock, hb'.trans hb, F1, hs, by rw [hmap], hbb, fun x hx zs ho => ?_, hap⟩
  obtain ⟨zs0, ho0⟩ := groups_owned F hx
  rw [ho.unique (hk x hx zs0 ho0)]
  exact hlen x hx zs0 ho0
/-- A look-up hangs on the map's block alone. -/
theorem look_same {t E : TypeId} {z : Value} {R : Value → Option (DataW Unit × List MemPlace)} {es : Array MapEntry} {clock : Nat} {key : Value} {kl : Lit} (K : Keyed P k) (ht : P.underlying t = some (.map k E)) (hz : ∀ w, (zeroValue E).run P w = .ok z w) (hb : w.heap[b]? = some (.map es clock)) (F : Fit P k R es clock)
    (hkey : keyOf P k key = some kl) {v : Value} (hv : (Instr.lookup t (.map (some b)) key false).run P w = .ok v w) (hb' : w'.heap[b]? = w.heap[b]?) : (Instr.lookup t (.map (some b)) key false).run P w' = .ok v w' := by
  have hb2 := hb'.trans hb
  rcases fit_look false K ht (hz w) hb F hkey with ⟨h1, n1, _⟩ | ⟨e1, _, m1, k1, h1, _⟩
  · rcases fit_look false K ht (hz w') hb2 F hkey with ⟨h2, n2, _⟩ | ⟨e2, _, m2, k2, h2, _⟩
    · rw [h1] at hv
      rw [h2]
      simp only [Bool.false_eq_true, if_false, Result.ok.injEq, and_true] at hv ⊢
      exact hv
    · exact absurd k2 (n1 e2 m2)
  · rcases fit_look false K ht (hz w') hb2 F hkey with ⟨h2, n2, _⟩ | ⟨e2, _, m2, k2, h2, _⟩
    · exact absurd k1 (n2 e1 m1)
    · have he : e1 = e2 := by
        obtain ⟨i, hi⟩ := List.getElem?_of_mem m1
        obtain ⟨j, hj⟩ := List.getElem?_of_mem m2
        by_cases hij : i = j
        · subst hij; rw [hi] at hj; exact Option.some.inj hj
        · exact absurd (k1.trans k2.symm) (WideElems.other_key F hj hi hij)
      subst he
      rw [h1] at hv
      rw [h2]
      simp only [Bool.false_eq_true, if_false, Result.ok.injEq, and_true] at hv ⊢
      exact hv
end

/-- Block b is the lives: for each slot of l all that it ever was; G: the rows' blocks. -/
def Lives (w : World) (b : Nat) (G : Nat → Prop) (l : List Int) : Prop :=
  ∃ D : DataW Unit, w.ownsGroups Try.prog 3 (b + 1) 3 .i64 b l.length D ∧ ReadsG D l ∧ ∀ g, G g ↔ ∃ es clock, w.heap[b]? = some (.map es clock) ∧ ∃ x ∈ es.toList, x.val.ownBlock = some g

section
variable {w w' : World} {b : Nat} {G : Nat → Prop} {l : List Int}
theorem Lives.isMap (h : Lives w b G l) : ∃ es clock, w.heap[b]? = some (.map es clock) := by
  obtain ⟨D, ⟨es, clock, hb, _⟩, _⟩ := h
  exact ⟨es, clock, hb⟩
theorem Lives.own (h : Lives w b G l) : b < w.heap.size := by
  obtain ⟨es, clock, hb⟩ := h.isMap
  exact (Array.getElem?_eq_some_iff.1 hb).1
theorem Lives.rows (h : Lives w b G l) : ∀ g, G g → b < g ∧ g < w.heap.size := by
  obtain ⟨D, ⟨es, clock, hb, F, _⟩, _, hG⟩ := h
  intro g hg
  obtain ⟨es', clock', hb', x, hx, hxg⟩ := (hG g).1 hg
  rw [hb] at hb'
  cases hb'
  obtain ⟨zs, ho⟩ := groups_owned F hx
  have := ho.1.lt g hxg
  omega
theorem Lives.made (w : World) : Lives (w.alloc (.map #[] 0)) w.heap.size (fun _ => False) [] :=
  ⟨.map [], World.ownsGroups_made w _ _ _ _, ReadsG.empty, fun g => ⟨False.elim, fun ⟨es, clock, hb, x, hx, _⟩ => by
    rw [(MapKept.heap_alloc w _).1] at hb
    cases hb
    simp at hx⟩⟩
theorem Lives.kept (h : Lives w b G l) (hb' : w'.heap[b]? = w.heap[b]?) (hG' : ∀ g, G g → w'.heap[g]? = w.heap[g]?) : Lives w' b G l := by
  obtain ⟨D, ho, hr, hG⟩ := h
  exact ⟨D, groups_kept ho hb' fun es clock hb x hx g hg => hG' g ((hG g).2 ⟨es, clock, hb, x, hx, hg⟩), hr, fun g => by rw [hb']; exact hG g⟩

/-- m[x]: all that x ever was; and the way back. -/
theorem Lives.look (h : Lives w b G l) {x : Int} (hx : In64 x) (hl : l.length ≤ 1000000) :
    ∃ A cap, (∀ w', w'.heap[b]? = w.heap[b]? → (Instr.lookup 99 (.map (some b)) (.int .i64 x) false).run Try.prog w' = .ok (.slice A (ids l x).length cap) w') ∧ w.ownsRow (b + 1) 3 1 (.slice A (ids l x).length cap) (ids l x).length (ints (ids l x)) ∧
      (∀ g, (Value.slice A (ids l x).length cap).ownBlock = some g → G g) ∧
      ∀ (w1 : World) (g c : Nat), w.grownBy w1 (Value.slice A (ids l x).length cap).ownBlock → w1.ownsRow (b + 1) 3 1 (.slice (some ⟨g, 0, none⟩) ((ids l x).length + 1) c) ((ids l x).length + 1) (ints (ids l x ++ [(l.length : Int) + 1])) →
        ((Value.slice A (ids l x).length cap).ownBlock = some g ∨ w.heap.size ≤ g) →
        ∃ w2 G', (Instr.mapUpdate 99 (.map (some b)) (.int .i64 x) (.slice (some ⟨g, 0, none⟩) ((ids l x).length + 1) c)).run Try.prog w1 = .ok () w2 ∧ Lives w2 b G' (l ++ [x]) ∧ (∀ k, G' k → G k ∨ k = g) ∧ w1.grownBy w2 (some b) := by
  obtain ⟨D, ho, hr, hG⟩ := h
  have hmax : l.length < maxLen := by unfold maxLen; omega
  obtain ⟨v, zs, hrun, hat, hoi, hzl, hback⟩ := ho.at keyedI Try.underlying99 (zeroInts w) hmax (keyI hx)
  have hz : zs = ids l x := by
    rw [hr.at' x] at hat
    rcases hoi.datum (H := Unit) with ⟨h1, h2⟩ | h1
    · rw [h1] at hat
      split at hat
      · cases hat
      · rename_i hn; rw [h2, ids_other hn]
    · rw [h1] at hat
      split at hat
      · simp only [DataW.slice.injEq, and_true] at hat
        exact (lits_inj hat).symm
      · cases hat
  subst hz
  obtain ⟨A, cap, rfl⟩ := ownsRow_slice hoi.1
  have hown0 := ho
  obtain ⟨es, clock, hb, F, hs, hD, hbb, hlen, hap⟩ := ho
  have hvG : ∀ g, (Value.slice A (ids l x).length cap).ownBlock = some g → G g := fun g hg => by
    rcases fit_look false keyedI Try.underlying99 (zeroInts w) hb F (keyI hx) with ⟨h1, _⟩ | ⟨e1, _, m1, _, h1, _⟩
    · rw [hrun] at h1
      simp only [Bool.false_eq_true, if_false, Result.ok.injEq, and_true] at h1
      rw [h1] at hg
      cases hg
    · rw [hrun] at h1
      simp only [Bool.false_eq_true, if_false, Result.ok.injEq, and_true] at h1
      rw [h1] at hg
      exact (hG g).2 ⟨es, clock, hb, e1, m1, hg⟩
  refine ⟨A, cap, fun w' hb' => look_same keyedI Try.underlying99 zeroInts hb F (keyI hx) hrun hb', hoi.1, hvG, fun w1 g c hgr how hloc => ?_⟩
  have hown' : w1.ownsInts (b + 1) 3 .i64 (.slice (some ⟨g, 0, none⟩) ((ids l x).length + 1) c) (ids l x ++ [(l.length : Int) + 1]) := by
    refine ⟨by simpa [ints] using how, fun z hz => ?_⟩
    rcases List.mem_append.1 hz with hz | hz
    · exact hoi.2 z hz
    · simp at hz
      subst hz
      exact wf_i.2 (by unfold In64; omega)
  obtain ⟨w2, hrun2, ho2, hg2⟩ := hback w1 _ _ hgr hown' (by have := ids_length_le l x; simp; omega) (by
    rcases hloc with h | h
    · exact .inl (by rw [h]; rfl)
    · exact .inr ⟨g, rfl, h⟩)
  have hb1 : w1.heap[b]? = some (.map es clock) := (hgr.block b (Array.getElem?_eq_some_iff.1 hb).1 (fun e1 => by
    have := (hoi.1.lt b e1.symm).1
    omega)).trans hb
  obtain ⟨es', clock', hb2, hwho⟩ := stored_who keyedI Try.underlying99 hb1 F (Nat.lt_of_le_of_lt hs hmax) (keyI hx) hrun2
  have e2 : ids (l ++ [x]) x = ids l x ++ [(l.length : Int) + 1] := by rw [ids_snoc, if_pos rfl]
  refine ⟨w2, fun k => ∃ es clock, w2.heap[b]? = some (.map es clock) ∧ ∃ x ∈ es.toList, x.val.ownBlock = some k, hrun2, ⟨_, by rw [List.length_append]; exact ho2, ?_, fun g => Iff.rfl⟩, ?_, hg2⟩
  · have hD' : IsMap D := ⟨_, hD⟩
    have := hr.put hD' x
    rw [e2] at this
    exact this
  · rintro k ⟨es2, clock2, hb2', y, hy, hyk⟩
    rw [hb2] at hb2'
    cases hb2'
    rcases hwho y hy with ⟨hy0, _⟩ | ⟨_, hval⟩
    · exact .inl ((hG k).2 ⟨es, clock, hb, y, hy0, hyk⟩)
    · rw [hval] at hyk
      exact .inr (by cases hyk; rfl)
end
end Go.Proofs.Ythiccboecimfjaa

/- A drawn region in whose course the world turns, once more: what is listed is closed under what it hangs on, so that a read which a turning operation hangs on is met before that turn. -/
namespace Go.Proofs.Ythiccboecimfjaa.Ord
open Go
set_option maxRecDepth 100000

section
variable {P : Program} {ops : Array Oper} {Q : Exit → Act → World → Prop} {md : Region.Mode} {C : World → Prop} {A : Nat → World → Prop} {ps : List Nat}

def Closed (md : Region.Mode) (ops : Array Oper) (l : Array Bool) : Prop :=
  ∀ i o, ops[i]? = some o → l.getD i false = true → ∀ e ∈ o.after, Region.binds md e = true → l.getD e.on false = true
theorem Closed.set {l : Array Bool} {k : Nat} (h : Closed md ops l) (hr : k ∈ Region.ready md ops l) : Closed md ops (l.setIfInBounds k true) := by
  intro i o ho hl e he hb
  have grow : ∀ j, l.getD j false = true → (l.setIfInBounds k true).getD j false = true := fun j hj => by
    rw [Array.getD_eq_getD_getElem?] at hj ⊢
    rw [Array.getElem?_setIfInBounds]
    split
    · rename_i e; subst e
      split
      · rfl
      · rename_i hn; rw [Array.getElem?_eq_none (by omega)] at hj; simp at hj
    · exact hj
  by_cases hik : i = k
  · subst hik
    obtain ⟨_, o', ho', hall⟩ := mem_ready.1 hr
    obtain rfl : o = o' := Option.some.inj (ho.symm.trans ho')
    exact grow _ (hall e he hb)
  · refine grow _ (h i o ho ?_ e he hb)
    rw [Array.getD_eq_getD_getElem?] at hl ⊢
    rwa [Array.getElem?_setIfInBounds, if_neg (fun e => hik e.symm)] at hl
/-- As Chain, and what is listed is closed. -/
def Chain2 (md : Region.Mode) (ops : Array Oper) (ps : List Nat) (C : World → Prop) (A : Nat → World → Prop) (l : Array Bool) (w : World) : Prop := Closed md ops l ∧ Chain ops.size ps C A l w
theorem Settles.closed {S : Array Bool → World → Prop} {i : Nat} {o : Oper} {v : Value} {a : Act} (h : Settles P md ops S i o v a) : Settles P md ops (fun l w => Closed md ops l ∧ S l w) i o v a := by
  rcases h with ⟨h1, h2⟩ | ⟨h1, h2, h3⟩
  · exact .inl ⟨h1, fun l w hr hS => (h2 l w hr hS.2).mono fun w' hw' => ⟨hS.1.set hr, hw'⟩⟩
  · exact .inr ⟨h1, h2, fun l w hr hS => ⟨hS.1.set hr, h3 l w hr hS.2⟩⟩
theorem chain2_end {w : World} (h : Chain2 md ops ps C A (firstK ops.size ops.size) w) : C w ∧ A ps.length w := chain_end h.2
theorem wp_chain2 (ps : List Nat) (C : World → Prop) (A : Nat → World → Prop) {id : Nat} {a : Act} {w : World} (hm : P.follows .mixedOrders = true) (hf : textFits .any ops = true) (hlt : (ps.all fun p => decide (p < ops.size)) = true) (hC : C w.drew) (hA : A 0 w.drew)
    (h : textFits .any ops = true → InText P .any ops Q (Chain2 .any ops ps C A) 0 ops.toList a) : (Code.region id ops true).wp P Q a w :=
  wp_ord hm hf ⟨fun i o ho hl => (by
    have hi : i < ops.size := (Array.getElem?_eq_some_iff.1 ho).1
    rw [firstK_get _ _ _ hi] at hl
    simp at hl), chain_start (fun p hp => by simpa using List.all_eq_true.1 hlt p hp) hC hA⟩ h

theorem ch2_value {k : Nat} {o : Oper} {rest : List Oper} {a : Act} {v : Value} (hf : textFits md ops = true) (hk : k ∉ ps) (hw : Region.wanted o (yielded ops a.tmps) = true) (hv : ∀ w, C w → (execOp a.eval o).run P w = .ok (.value v) w)
    (h : InText P md ops Q (Chain2 md ops ps C A) (k + 1) rest (a.put o.dst v)) : InText P md ops Q (Chain2 md ops ps C A) k (o :: rest) a :=
  InText.cons hf (Settles.closed (Or.inl ⟨hw, fun l w _ hS => by rw [hv w hS.2.1]; exact ⟨rfl, chain_set hk hS hS.2.1 fun _ h => h⟩⟩)) h
/-- A read which the m-th turn hangs on. -/
theorem ch2_early (m : Nat) {p : Nat} {k : Nat} {o : Oper} {rest : List Oper} {a : Act} {v : Value} (hf : textFits md ops = true) (hk : k ∉ ps) (hp : ps[m]? = some p) (hh : hangs md ops p k = true) (hkn : k < ops.size) (hw : Region.wanted o (yielded ops a.tmps) = true)
    (hv : ∀ w j, j ≤ m → C w → A j w → (execOp a.eval o).run P w = .ok (.value v) w)
    (h : InText P md ops Q (Chain2 md ops ps C A) (k + 1) rest (a.put o.dst v)) : InText P md ops Q (Chain2 md ops ps C A) k (o :: rest) a :=
  InText.cons hf (Or.inl ⟨hw, fun l w hr hS => by
    obtain ⟨hc, hS⟩ := hS
    have hS' := hS
    obtain ⟨hs, hC, j, hj, hl, hA⟩ := hS
    have hjm : j ≤ m := by
      rcases Nat.lt_or_ge m j with hlt | hge
      · exfalso
        have h1 := hl m p hp
        have h2 : l.getD p false = true := by rw [h1.2]; simpa using hlt
        have h0 : l.getD k true = false := (mem_ready.1 hr).1
        unfold hangs at hh
        have hpo : ∃ o', ops[p]? = some o' := ⟨_, Array.getElem?_eq_getElem h1.1⟩
        obtain ⟨o', ho'⟩ := hpo
        rw [ho'] at hh
        obtain ⟨e, he, h3⟩ := Array.any_eq_true'.1 hh
        rw [Bool.and_eq_true] at h3
        have h4 := hc p o' ho' h2 e he h3.1
        rw [show e.on = k by simpa using h3.2] at h4
        rw [Array.getD_eq_getD_getElem?] at h4 h0
        have hkl : k < l.size := by rw [hs]; exact hkn
        simp [hkl] at h4 h0
        rw [h0] at h4
        cases h4
      · exact hge
    rw [hv w j hjm hC hA]
    exact ⟨rfl, hc.set hr, chain_set hk hS' hC fun _ h => h⟩⟩) h
theorem chain_settles (j : Nat) {k : Nat} {o : Oper} {a : Act} {v : Value} (hk : ps[j]? = some k) (hnd : ps.Nodup) (hh : j = 0 ∨ ∃ p, ps[j - 1]? = some p ∧ hangs md ops k p = true) (hw : Region.wanted o (yielded ops a.tmps) = true)
    (hv : ∀ w, C w → A j w → LandsIn P (fun w' => C w' ∧ A (j + 1) w') v ((execOp a.eval o).run P w)) : Settles P md ops (Chain ops.size ps C A) k o v a :=
  Or.inl ⟨hw, fun l w hr hS => by
    obtain ⟨hs, hC, j', hj', hl, hA⟩ := hS
    have hjl : j < ps.length := (List.getElem?_eq_some_iff.1 hk).1
    have h1 := hl j k hk
    have h2 : l.getD k true = false := (mem_ready.1 hr).1
    have e2 : l.getD k false = false := by
      rw [Array.getD_eq_getD_getElem?] at h2 ⊢
      rcases Nat.lt_or_ge k l.size with hh' | hh'
      · simp [hh'] at h2 ⊢; exact h2
      · simp [Array.getElem?_eq_none hh'] at h2
    have h3 : ¬ j < j' := by rw [h1.2] at e2; simpa using e2
    have h4 : j = j' := by
      rcases hh with rfl | ⟨p, hp, hg⟩
      · omega
      · rcases Nat.eq_zero_or_pos j with rfl | hj
        · omega
        · have h5 := hl (j - 1) p hp
          have h6 := hangs_listed hg hr
          rw [h5.2] at h6
          have : j - 1 < j' := by simpa using h6
          omega
    subst h4
    refine (hv w hC hA).mono fun w' hw' => ⟨by simpa using hs, hw'.1, j + 1, by omega, fun i p hp => ?_, hw'.2⟩
    refine ⟨(hl i p hp).1, ?_⟩
    by_cases hik : p = k
    · subst hik
      have : i = j := (List.getElem?_inj (List.getElem?_eq_some_iff.1 hp).1 hnd).1 (hp.trans hk.symm)
      subst this
      have hp' : p < l.size := by rw [hs]; exact h1.1
      rw [Array.getD_eq_getD_getElem?, Array.getElem?_setIfInBounds, if_pos rfl]
      simp [hp']
    · rw [Array.getD_eq_getD_getElem?, Array.getElem?_setIfInBounds, if_neg (fun e => hik e.symm), ← Array.getD_eq_getD_getElem?, (hl i p hp).2]
      have hne : i ≠ j := fun e => hik (by subst e; exact Option.some.inj (hp.symm.trans hk))
      congr 1
      apply propext
      omega⟩
theorem ch2_turn (j : Nat) {k : Nat} {o : Oper} {rest : List Oper} {a : Act} {v : Value} (hf : textFits md ops = true) (hk : ps[j]? = some k) (hnd : ps.Nodup) (hh : j = 0 ∨ ∃ p, ps[j - 1]? = some p ∧ hangs md ops k p = true) (hw : Region.wanted o (yielded ops a.tmps) = true)
    (hv : ∀ w, C w → A j w → LandsIn P (fun w' => C w' ∧ A (j + 1) w') v ((execOp a.eval o).run P w))
    (h : InText P md ops Q (Chain2 md ops ps C A) (k + 1) rest (a.put o.dst v)) : InText P md ops Q (Chain2 md ops ps C A) k (o :: rest) a :=
  InText.cons hf (Settles.closed (chain_settles j hk hnd hh hw hv)) h
/-- A path along which each hangs on the next. -/
def hangsPath (md : Region.Mode) (ops : Array Oper) : List Nat → Bool
  | a :: b :: rest => hangs md ops a b && hangsPath md ops (b :: rest)
  | _ => true
theorem Closed.step {l : Array Bool} (hc : Closed md ops l) {a b : Nat} (h : hangs md ops a b = true) (ha : l.getD a false = true) : l.getD b false = true := by
  unfold hangs at h
  rcases ho : ops[a]? with _ | o
  · rw [ho] at h; cases h
  · rw [ho] at h
    obtain ⟨e, he, h3⟩ := Array.any_eq_true'.1 h
    rw [Bool.and_eq_true] at h3
    have h4 := hc a o ho ha e he h3.1
    rwa [show e.on = b by simpa using h3.2] at h4
theorem Closed.path {l : Array Bool} (hc : Closed md ops l) : ∀ (path : List Nat) (a : Nat), hangsPath md ops (a :: path) = true → l.getD a false = true → ∀ p, (a :: path).getLast? = some p → l.getD p false = true
  | [], a, _, ha, p, hp => by simp at hp; rwa [← hp]
  | b :: rest, a, h, ha, p, hp => by
    simp only [hangsPath, Bool.and_eq_true] at h
    refine Closed.path hc rest b h.2 (hc.step h.1 ha) p ?_
    rwa [List.getLast?_cons_cons] at hp
theorem late {n : Nat} {l : Array Bool} {k b p m : Nat} {path : List Nat} {j : Nat} (hc : Closed md ops l) (hr : k ∈ Region.ready md ops l) (hb : hangs md ops k b = true) (hpath : hangsPath md ops (b :: path) = true) (hlast : (b :: path).getLast? = some p) (hp : ps[m]? = some p)
    (hl : ∀ i p, ps[i]? = some p → p < n ∧ l.getD p false = decide (i < j)) : m < j := by
  have h1 := hc.path path b hpath (hangs_listed hb hr) p hlast
  rw [(hl m p hp).2] at h1
  simpa using h1
/-- A read that hangs, by way of others, on the m-th turn. -/
theorem ch2_late (m : Nat) (b : Nat) (path : List Nat) {p : Nat} {k : Nat} {o : Oper} {rest : List Oper} {a : Act} {v : Value} (hf : textFits md ops = true) (hk : k ∉ ps) (hb : hangs md ops k b = true) (hpath : hangsPath md ops (b :: path) = true) (hlast : (b :: path).getLast? = some p) (hp : ps[m]? = some p)
    (hw : Region.wanted o (yielded ops a.tmps) = true) (hv : ∀ w j, m < j → j ≤ ps.length → C w → A j w → (execOp a.eval o).run P w = .ok (.value v) w)
    (h : InText P md ops Q (Chain2 md ops ps C A) (k + 1) rest (a.put o.dst v)) : InText P md ops Q (Chain2 md ops ps C A) k (o :: rest) a :=
  InText.cons hf (Or.inl ⟨hw, fun l w hr hS => by
    obtain ⟨hc, hS⟩ := hS
    have hS' := hS
    obtain ⟨hs, hC, j, hj, hl, hA⟩ := hS
    rw [hv w j (late hc hr hb hpath hlast hp hl) hj hC hA]
    exact ⟨rfl, hc.set hr, chain_set hk hS' hC fun _ h => h⟩⟩) h
theorem ch2_off {k : Nat} {o : Oper} {rest : List Oper} {a : Act} (hf : textFits md ops = true) (hk : k ∉ ps) (hw : Region.wanted o (yielded ops a.tmps) = false)
    (h : InText P md ops Q (Chain2 md ops ps C A) (k + 1) rest (a.put o.dst undef)) : InText P md ops Q (Chain2 md ops ps C A) k (o :: rest) a :=
  InText.cons hf (Settles.closed (Or.inr ⟨hw, rfl, fun l w _ hS => chain_set hk hS hS.2.1 fun _ h => h⟩)) h
/-- A call that leaves all as it is, and hangs, by way of others, on the m-th turn. -/
theorem ch2_late_call (m : Nat) (b : Nat) (path : List Nat) {p : Nat} {k : Nat} {o : Oper} {rest : List Oper} {a : Act} {v : Value} (hf : textFits md ops = true) (hk : k ∉ ps) (hb : hangs md ops k b = true) (hpath : hangsPath md ops (b :: path) = true) (hlast : (b :: path).getLast? = some p) (hp : ps[m]? = some p)
    (hw : Region.wanted o (yielded ops a.tmps) = true)
    (hv : ∀ w j, m < j → j ≤ ps.length → C w → A j w → LandsIn P (fun w' => C w' ∧ A j w') v ((execOp a.eval o).run P w))
    (h : InText P md ops Q (Chain2 md ops ps C A) (k + 1) rest (a.put o.dst v)) : InText P md ops Q (Chain2 md ops ps C A) k (o :: rest) a :=
  InText.cons hf (Or.inl ⟨hw, fun l w hr hS => by
    obtain ⟨hc, hS⟩ := hS
    obtain ⟨hs, hC, j, hj, hl, hA⟩ := hS
    refine (hv w j (late hc hr hb hpath hlast hp hl) hj hC hA).mono fun w' hw' => ⟨hc.set hr, by simpa using hs, hw'.1, j, hj, fun i p hp => ⟨(hl i p hp).1, ?_⟩, hw'.2⟩
    have hne : k ≠ p := fun e => hk (e ▸ List.mem_of_getElem? hp)
    rw [Array.getD_eq_getD_getElem?, Array.getElem?_setIfInBounds, if_neg hne, ← Array.getD_eq_getD_getElem?]
    exact (hl i p hp).2⟩) h
end
end Go.Proofs.Ythiccboecimfjaa.Ord

/- Souls: what they are in memory; New, Born. -/
namespace Go.Proofs.Ythiccboecimfjaa
open Go.RowKit Go.Maps
set_option maxRecDepth 100000

/-- Block s is souls: the births l in a row; F: the blocks that it is made of. -/
def IsS (w : World) (s : Nat) (F : Nat → Prop) (l : List Int) : Prop :=
  ∃ v mp G, Blk 0 w s [v, .map mp] ∧ w.ownsRow 0 3 1 v l.length (ints l) ∧ ((mp = none ∧ l = [] ∧ ∀ g, ¬ G g) ∨ ∃ b, mp = some b ∧ Lives w b G l) ∧
    (∀ k, F k ↔ (k = s ∨ v.ownBlock = some k ∨ mp = some k ∨ G k)) ∧ v.ownBlock ≠ some s ∧ ¬ G s ∧ ∀ g, v.ownBlock = some g → ¬ G g

section
variable {w w' : World} {s : Nat} {F : Nat → Prop} {l : List Int}
theorem IsS.lt (h : IsS w s F l) : ∀ k, F k → k < w.heap.size := by
  obtain ⟨v, mp, G, hb, ho, hm, hF, _⟩ := h
  intro k hk
  rcases (hF k).1 hk with rfl | e | e | e
  · exact hb.1
  · exact ownsRow_lt ho k e
  · rcases hm with ⟨rfl, _⟩ | ⟨b, rfl, hL⟩
    · cases e
    · cases e; exact hL.own
  · rcases hm with ⟨_, _, hn⟩ | ⟨b, _, hL⟩
    · exact absurd e (hn k)
    · exact (hL.rows k e).2
theorem IsS.loc (h : IsS w s F l) (hk : ∀ k, F k → w'.heap[k]? = w.heap[k]?) (hs : w.heap.size ≤ w'.heap.size) : IsS w' s F l := by
  obtain ⟨v, mp, G, hb, ho, hm, hF, h1, h2, h3⟩ := h
  refine ⟨v, mp, G, hb.kept hs (hk s ((hF s).2 (.inl rfl))), ownsRow_kept ho fun k e => hk k ((hF k).2 (.inr (.inl e))), ?_, hF, h1, h2, h3⟩
  rcases hm with hm | ⟨b, e, hL⟩
  · exact .inl hm
  · exact .inr ⟨b, e, hL.kept (hk b ((hF b).2 (.inr (.inr (.inl e))))) fun g hg => hk g ((hF g).2 (.inr (.inr (.inr hg))))⟩
/-- Souls, as a thing. -/
def soulI (s : Nat) (F : Nat → Prop) (l : List Int) : Item where
  F := F
  says := fun w => IsS w s F l
  loc := fun _ _ h hk hs => h.loc hk hs
end

set_option maxHeartbeats 800000 in
theorem newS_any (w : World) : Calls Try.prog 41 #[] w fun e w' => e = .returned (.pointer (some ⟨w.heap.size, 0, none⟩)) ∧ IsS w' w.heap.size (fun k => k = w.heap.size) [] ∧ Below w.heap.size w w' := by
  go_enter Try.func41, Try.ntmps41
  go_wp2
  go_ret
  exact ⟨rfl, ⟨.slice none 0 0, none, fun _ => False, Blk.new 0 w [.slice none 0 0, .map none] 101, World.ownsRow_nil _ _ _ _, .inl ⟨rfl, rfl, fun _ h => h⟩, fun k => by simp [Value.ownBlock], by simp [Value.ownBlock], fun h => h, by simp [Value.ownBlock]⟩, (Below.refl _ _).alloc (Nat.le_refl _) _⟩

set_option maxHeartbeats 800000 in
theorem born_low {s : Option Nat} {w : World} (x : Int) (hx : s = none ∨ x < 1) :
    Calls Try.prog 50 #[.pointer (s.map fun s => ⟨s, 0, none⟩), .int .i64 x] w fun e w' => e = .returned (.int .i64 0) ∧ w' = w := by
  rcases s with _ | s
  · go_enter Try.func50, Try.ntmps50
    go_wp2
    go_ret
    exact ⟨rfl, rfl⟩
  · have hx : x < 1 := by simpa using hx
    have hb : decide (x < 1) = true := by simp [hx]
    go_enter Try.func50, Try.ntmps50
    go_wp2
    go_ret
    exact ⟨rfl, rfl⟩

theorem not_map_blk {m : Nat} {w : World} {es : Array MapEntry} {clock b s : Nat} {v : Value} {vs : List Value} (hm : w.heap[b]? = some (.map es clock)) (hb : Blk m w s (v :: vs)) : b ≠ s := by
  rintro rfl
  have := hb.rule 0
  simp [World.cell?, hm] at this
theorem not_map_row {w : World} {es : Array MapEntry} {clock b base s n : Nat} {e : TypeId} {v : Value} {xs : List Value} (hm : w.heap[b]? = some (.map es clock)) (ho : w.ownsRow base e s v n xs) : v.ownBlock ≠ some b := by
  intro h
  rcases ho.2 with ⟨rfl, _⟩ | ⟨g, cap, cur, rfl, _, hg, _⟩
  · cases h
  · cases h
    rw [hm] at hg
    cases hg

/-- The worlds that a birth goes through: x appended to the births; the identity appended to x's own. -/
theorem born_worlds {W1 : World} {s b : Nat} {l : List Int} {v : Value} {G : Nat → Prop} (x : Int) (hx : In64 x) (hl : l.length ≤ 100000) (hb : Blk 0 W1 s [v, .map (some b)]) (ho : W1.ownsRow 0 3 1 v l.length (ints l)) (hL : Lives W1 b G l)
    (hvs : v.ownBlock ≠ some s) (hGs : ¬ G s) (hvG : ∀ g, v.ownBlock = some g → ¬ G g) :
    ∃ g cap W2 W3 A c g2 c2 W5 W6 F', (Builtin.append_ #[31, 31] 31 #[v, .slice (some ⟨W1.heap.size, 0, none⟩) 1 1]).run Try.prog (W1.alloc (.cells #[.int .i64 x] 3)) = .ok (.slice (some ⟨g, 0, none⟩) (l.length + 1) cap) W2 ∧
      Blk 0 W2 s [v, .map (some b)] ∧ W3 = W2.setCell ⟨s, 0, none⟩ (.slice (some ⟨g, 0, none⟩) (l.length + 1) cap) ∧ Blk 0 W3 s [.slice (some ⟨g, 0, none⟩) (l.length + 1) cap, .map (some b)] ∧
      (∀ w', w'.heap[b]? = W3.heap[b]? → (Instr.lookup 99 (.map (some b)) (.int .i64 x) false).run Try.prog w' = .ok (.slice A (ids l x).length c) w') ∧ b < W3.heap.size ∧
      (Builtin.append_ #[31, 31] 31 #[.slice A (ids l x).length c, .slice (some ⟨W3.heap.size, 0, none⟩) 1 1]).run Try.prog (W3.drew.alloc (.cells #[.int .i64 ((l.length : Int) + 1)] 3)) = .ok (.slice (some ⟨g2, 0, none⟩) ((ids l x).length + 1) c2) W5 ∧
      Blk 0 W5 s [.slice (some ⟨g, 0, none⟩) (l.length + 1) cap, .map (some b)] ∧
      (Instr.mapUpdate 99 (.map (some b)) (.int .i64 x) (.slice (some ⟨g2, 0, none⟩) ((ids l x).length + 1) c2)).run Try.prog W5 = .ok () W6 ∧
      Blk 0 W6 s [.slice (some ⟨g, 0, none⟩) (l.length + 1) cap, .map (some b)] ∧ IsS W6 s F' (l ++ [x]) ∧
      Turn (fun k => k = s ∨ v.ownBlock = some k ∨ k = b ∨ G k) W1 W6 ∧ ∀ k, F' k → (k = s ∨ v.ownBlock = some k ∨ k = b ∨ G k) ∨ W1.heap.size ≤ k := by
  obtain ⟨i0, hi0, hz0, hz1, hz2⟩ := info_parts infoInt
  obtain ⟨es, clock, hm⟩ := hL.isMap
  have hbs : b ≠ s := not_map_blk hm hb
  have hvb := not_map_row hm ho
  have hsl := hb.1
  have hbl := hL.own
  have hGl := hL.rows
  obtain ⟨g, cap, W2, hrun, ho2, hgr, hg, hgl⟩ := run_append_lies (P := Try.prog) (W1.alloc (.cells #[.int .i64 x] 3)) 31 31 0 3 i0 (.int .i64 0) 1 8 Try.underlying31 hi0 hz0 hz1 hz2 rfl (by decide) v l.length (ints l) (ho.alloc _)
    ⟨W1.heap.size, 0, none⟩ 1 1 [.int .i64 x] rfl (cells_new _ _ _) (by simp [Value.oneCell']) (by omega) (by simp [maxLen]; omega) (by omega) (by simp) _ rfl
  have t2 : Turn (fun k => v.ownBlock = some k) W1 W2 := ((Turn.refl _ W1).alloc _).grown hgr fun k _ e => e
  have hg' : v.ownBlock = some g ∨ W1.heap.size ≤ g := by
    rcases hg with h | h
    · exact .inl h
    · right; rw [h]; simp
  have hgs : g ≠ s := by
    rintro rfl
    rcases hg' with h | h
    · exact hvs h
    · omega
  have hgb : g ≠ b := by
    rintro rfl
    rcases hg' with h | h
    · exact hvb h
    · omega
  have hgG : ¬ G g := by
    intro h
    rcases hg' with h' | h'
    · exact hvG g h' h
    · have := hGl g h; omega
  have hb2 : Blk 0 W2 s [v, .map (some b)] := hb.kept t2.size (t2.block s hsl hvs)
  have t3 : Turn (fun k => k = s ∨ v.ownBlock = some k) W1 (W2.setCell ⟨s, 0, none⟩ (.slice (some ⟨g, 0, none⟩) (l.length + 1) cap)) := (t2.mono fun k _ e => .inr e).setCell (p := ⟨s, 0, none⟩) (fun _ => .inl rfl) _
  have hb3 : Blk 0 (W2.setCell ⟨s, 0, none⟩ (.slice (some ⟨g, 0, none⟩) (l.length + 1) cap)) s [.slice (some ⟨g, 0, none⟩) (l.length + 1) cap, .map (some b)] := hb2.set (by simp) _
  have ho3 : (W2.setCell ⟨s, 0, none⟩ (.slice (some ⟨g, 0, none⟩) (l.length + 1) cap)).ownsRow 0 3 1 (.slice (some ⟨g, 0, none⟩) (l.length + 1) cap) (l.length + 1) (ints l ++ [.int .i64 x]) := ownsRow_setCell_other ho2 (by simp [Value.ownBlock, hgs]) _
  have hL3 : Lives (W2.setCell ⟨s, 0, none⟩ (.slice (some ⟨g, 0, none⟩) (l.length + 1) cap)) b G l := hL.kept (t3.block b hbl (fun e => e.elim hbs hvb)) fun k hk => t3.block k (hGl k hk).2 (fun e => e.elim (fun e => hGs (e ▸ hk)) fun e => hvG k e hk)
  have hs3 := t3.size
  have hgl3 : g < (W2.setCell ⟨s, 0, none⟩ (.slice (some ⟨g, 0, none⟩) (l.length + 1) cap)).heap.size := by simpa using hgl
  clear ho2 hgl
  generalize hW3 : W2.setCell ⟨s, 0, none⟩ (.slice (some ⟨g, 0, none⟩) (l.length + 1) cap) = W3 at *
  have hsl3 := hb3.1
  have hbl3 := hL3.own
  have hL3d : Lives W3.drew b G l := hL3.kept rfl fun _ _ => rfl
  obtain ⟨A, c, hlook, hrow, hAG, hback⟩ := hL3d.look hx (by omega)
  have hidl := ids_length_le l x
  obtain ⟨g2, c2, W5, hrun5, ho5, hgr5, hg5, hgl5⟩ := run_append_lies (P := Try.prog) (W3.drew.alloc (.cells #[.int .i64 ((l.length : Int) + 1)] 3)) 31 31 (b + 1) 3 i0 (.int .i64 0) 1 8 Try.underlying31 hi0 hz0 hz1 hz2 rfl (by decide) _ (ids l x).length (ints (ids l x)) (hrow.alloc _)
    ⟨W3.heap.size, 0, none⟩ 1 1 [.int .i64 ((l.length : Int) + 1)] rfl (cells_new _ _ _) (by simp [Value.oneCell']) (by omega) (by simp [maxLen]; omega) (by omega) (by simp; omega) _ rfl
  have hg5' : (Value.slice A (ids l x).length c).ownBlock = some g2 ∨ W3.heap.size ≤ g2 := by
    rcases hg5 with h | h
    · exact .inl h
    · right; rw [h]; simp
  have t5 : Turn (fun k => G k) W3 W5 := (((Turn.refl _ W3).drew).alloc _).grown hgr5 fun k _ e => hAG k e
  obtain ⟨W6, G6, hrun6, hL6, hG6, hgr6⟩ := hback W5 g2 c2 ((World.grownBy_alloc W3.drew _ _).trans hgr5) (by rw [ints_append]; exact ho5) hg5'
  have hg2s : g2 ≠ s := by
    rintro rfl
    rcases hg5' with h | h
    · exact hGs (hAG _ h)
    · omega
  have hg2g : g2 ≠ g := by
    rintro rfl
    rcases hg5' with h | h
    · exact hgG (hAG _ h)
    · omega
  have t6 : Turn (fun k => k = b ∨ G k) W3 W6 := (t5.mono fun k _ e => .inr e).grown hgr6 fun k _ e => .inl (by cases e; rfl)
  have hb5 : Blk 0 W5 s [.slice (some ⟨g, 0, none⟩) (l.length + 1) cap, .map (some b)] := hb3.kept t5.size (t5.block s hsl3 hGs)
  have hb6 : Blk 0 W6 s [.slice (some ⟨g, 0, none⟩) (l.length + 1) cap, .map (some b)] := hb3.kept t6.size (t6.block s hsl3 fun e => e.elim (fun e => hbs e.symm) hGs)
  have ho6 : W6.ownsRow 0 3 1 (.slice (some ⟨g, 0, none⟩) (l.length + 1) cap) (l.length + 1) (ints l ++ [.int .i64 x]) := ownsRow_kept ho3 fun k e => t6.block k (by cases e; exact hgl3) (by cases e; exact fun e => e.elim (fun e => hgb e) hgG)
  refine ⟨g, cap, W2, W3, A, c, g2, c2, W5, W6, fun k => k = s ∨ k = g ∨ k = b ∨ G6 k, hrun, hb2, hW3.symm, hb3, hlook, hbl3, hrun5, hb5, hrun6, hb6, ?_, ?_, ?_⟩
  · refine ⟨_, some b, G6, hb6, by rw [List.length_append, ints_append]; exact ho6, .inr ⟨b, rfl, hL6⟩, fun k => by simp [Value.ownBlock, eq_comm], by simp [Value.ownBlock, hgs], fun h => ?_, fun k e h => ?_⟩
    · rcases hG6 s h with h | h
      · exact hGs h
      · exact hg2s h.symm
    · cases e
      rcases hG6 g h with h | h
      · exact hgG h
      · exact hg2g h.symm
  · exact (t3.mono (T' := fun k => k = s ∨ v.ownBlock = some k ∨ k = b ∨ G k) fun k _ e => e.elim .inl fun e => .inr (.inl e)).then t6 fun k _ e => .inr (.inr e)
  · rintro k (rfl | rfl | rfl | h)
    · exact .inl (.inl rfl)
    · rcases hg' with h | h
      · exact .inl (.inr (.inl h))
      · exact .inr h
    · exact .inl (.inr (.inr (.inl rfl)))
    · rcases hG6 k h with h | rfl
      · exact .inl (.inr (.inr (.inr h)))
      · rcases hg5' with h | h
        · exact .inl (.inr (.inr (.inr (hAG _ h))))
        · exact .inr (by omega)

end Go.Proofs.Ythiccboecimfjaa

/- Souls: Born. -/
namespace Go.Proofs.Ythiccboecimfjaa
open Go.RowKit Go.Maps
set_option maxRecDepth 100000

set_option maxRecDepth 100000 in
set_option maxHeartbeats 3200000 in
theorem born_any {s : Nat} {F : Nat → Prop} {l : List Int} {w : World} (x : Int) (hx : In64 x) (h1 : 1 ≤ x) (hl : l.length ≤ 100000) (hS : IsS w s F l) :
    Calls Try.prog 50 #[.pointer (some ⟨s, 0, none⟩), .int .i64 x] w fun e w' => e = .returned (.int .i64 ((l.length : Int) + 1)) ∧ ∃ F', IsS w' s F' (l ++ [x]) ∧ Step F F' w w' := by
  obtain ⟨v, mp, G, hb, ho, hm, hF, hvs, hGs, hvG⟩ := hS
  have hsl := hb.1
  have r0 := hb.rule
  have z0 : w.frozen? ⟨s, 1, none⟩ = false := hb.thaw 1 (by simp)
  have hx1 : decide (x < 1) = false := by simp; omega
  have hq := fun w => run_eql_map_nil_sl (P := Try.prog) w 99 _ _ mp Try.underlying99
  have hmm := @run_makeMap Try.prog
  have hE : Hid (∃ b W1 G', Blk 0 W1 s [v, .map (some b)] ∧ W1.ownsRow 0 3 1 v l.length (ints l) ∧ Lives W1 b G' l ∧ ¬ G' s ∧ (∀ g, v.ownBlock = some g → ¬ G' g) ∧ Turn F w W1 ∧ (∀ k, (k = s ∨ v.ownBlock = some k ∨ k = b ∨ G' k) → F k ∨ w.heap.size ≤ k) ∧
      (W1 = w ∧ mp = some b ∨ mp = none ∧ b = w.heap.size ∧ W1 = (w.setCell ⟨s, 1, none⟩ (.map (some w.heap.size))).alloc (.map #[] 0))) := by
    rcases hm with ⟨rfl, rfl, hn⟩ | ⟨b, rfl, hL⟩
    · have hLm := Lives.made (w.setCell ⟨s, 1, none⟩ (.map (some w.heap.size)))
      have hsz : (w.setCell ⟨s, 1, none⟩ (.map (some w.heap.size))).heap.size = w.heap.size := by simp
      rw [hsz] at hLm
      refine ⟨w.heap.size, _, fun _ => False, (hb.set (i := 1) (by simp) (.map (some w.heap.size))).more _, (ownsRow_setCell_other ho hvs _).alloc _, hLm, fun h => h, fun _ _ h => h, ((Turn.refl F w).setCell (p := ⟨s, 1, none⟩) (fun _ => (hF s).2 (.inl rfl)) _).alloc _, ?_, .inr ⟨rfl, rfl, rfl⟩⟩
      rintro k (rfl | h | rfl | h)
      · exact .inl ((hF _).2 (.inl rfl))
      · exact .inl ((hF _).2 (.inr (.inl h)))
      · exact .inr (Nat.le_refl _)
      · exact h.elim
    · refine ⟨b, w, G, hb, ho, hL, hGs, hvG, Turn.refl _ _, ?_, .inl ⟨rfl, rfl⟩⟩
      rintro k (rfl | h | rfl | h)
      · exact .inl ((hF _).2 (.inl rfl))
      · exact .inl ((hF _).2 (.inr (.inl h)))
      · exact .inl ((hF _).2 (.inr (.inr (.inl rfl))))
      · exact .inl ((hF _).2 (.inr (.inr (.inr h))))
  clear hm ho hvG hGs
  obtain ⟨b, W1, G', hb1, ho1, hL1, hG1, hv1, hT1, hF1, hW⟩ := hE.out
  obtain ⟨g, cap, W2, W3, A, c, g2, c2, W5, W6, F', hrun, hb2, hW3, hb3, hlook, hbl3, hrun5, hb5, hrun6, hb6, hS6, hT6, hF6⟩ := born_worlds x hx hl hb1 ho1 hL1 hvs hG1 hv1
  obtain ⟨A0, c0, rfl⟩ := ownsRow_slice ho1
  have hEND : Hid (IsS W6 s F' (l ++ [x]) ∧ Step F F' w W6) := Lib.hid ⟨hS6, ⟨hT1.then (hT6.mono (T' := fun k => k < w.heap.size → F k) fun k hk e hk' => (hF1 k e).resolve_right (by omega)) fun k hk e => e hk, fun k hk => by
    rcases hF6 k hk with h | h
    · exact hF1 k h
    · exact .inr (Nat.le_trans hT1.size h)⟩⟩
  have HRUN := Lib.hid hrun
  have HB1 := Lib.hid hb1.rule
  have HB2 := Lib.hid (And.intro hb2.rule (And.intro (hb2.thaw 0 (by simp)) hb2.1))
  have HB3 := Lib.hid (And.intro hb3.rule (And.intro hb3.drew.rule (And.intro (hb3.drew.more (.cells #[.int .i64 ((l.length : Int) + 1)] 3)).rule (And.intro hb5.rule hb6.rule))))
  have hk0 : W3.drew.heap[b]? = W3.heap[b]? := rfl
  have hk1 : (W3.drew.alloc (.cells #[.int .i64 ((l.length : Int) + 1)] 3)).heap[b]? = W3.heap[b]? := Below.heap_alloc _ _ _ hbl3
  have HLOOK := Lib.hid (And.intro (hlook _ hk0) (hlook _ hk1))
  have HR5 := Lib.hid hrun5
  have HR6 := Lib.hid hrun6
  have HEX := Lib.hid hx
  have hw64 : wrap64 ((l.length : Int) + 1) = (l.length : Int) + 1 := w64 _ (by omega)
  clear hE hb hF hT1 hF1 hlook hrun5 hrun6 hS6 hT6 hF6 hbl3 hk0 hk1 hrun ho1 hL1 hG1 hv1 hx hb5 hb6 hvs
  have hb2r := HB2.out.1
  have hb2z := HB2.out.2.1
  have HW3 := Lib.hid hW3
  clear hW3 hb1 hb2 hb3
  rcases hW with ⟨rfl, rfl⟩ | ⟨rfl, hbw, hWW⟩
  case' inr =>
    have hsz : W1.heap.size = w.heap.size + 1 := by rw [hWW]; simp
    rw [hsz] at HRUN
    subst hWW hbw
    clear hsz
  all_goals
    simp only [Option.isNone_some, Option.isNone_none] at hq
    go_enter Try.func50, Try.ntmps50
    go_wp2_with (first | (at_builtin; refine wpList_append_run rfl _ _ 31 rfl HRUN.out rfl rfl ?_))
    rw [← HW3.out]
    clear hq hmm r0 z0 hb2r hb2z HB1 HB2 HRUN HW3
    refine Ord.wp_chain2 [12, 13, 14] (fun w' => ∀ i, w'.cell? ⟨s, i, none⟩ = [Value.slice (some ⟨g, 0, none⟩) (l.length + 1) cap, .map (some _)][i]?) (fun j w' => [W3.drew, W3.drew.alloc (.cells #[.int .i64 ((l.length : Int) + 1)] 3), W5, W6][j]? = some w') (by kernel_rfl) (by kernel_rfl) (by kernel_rfl) HB3.out.2.1 rfl (fun hT => ?_)
    have hT9 := Lib.hid hT
    clear hT
    repeat (refine Ord.ch2_value (v := ?_) hT9.out (by decide) (by rfl) ?_ ?_; rotate_left; (focus (intro w5 hS; go_simp <;> with_reducible rfl)); (try simp only [Act.put, List.setIfInBounds_toArray, List.set_cons_zero, List.set_cons_succ]))
    refine Ord.ch2_early 1 hT9.out (by decide) (by rfl) (by kernel_rfl) (by decide) (by rfl) (v := .slice A (ids l x).length c) ?_ ?_
    · intro w5 j hj hS hA
      obtain ⟨l0, l1⟩ := HLOOK.out
      rw [show W3.drew.alloc (.cells #[.int .i64 ((l.length : Int) + 1)] 3) = (W3.alloc (.cells #[.int .i64 ((l.length : Int) + 1)] 3)).drew from rfl] at l1
      rcases j with _ | _ | j
      · cases hA; go_simp <;> with_reducible rfl
      · cases hA; go_simp <;> with_reducible rfl
      · omega
    (try simp only [Act.put, List.setIfInBounds_toArray, List.set_cons_zero, List.set_cons_succ])
    repeat (refine Ord.ch2_value (v := ?_) hT9.out (by decide) (by rfl) ?_ ?_; rotate_left; (focus (intro w5 hS; skip; go_simp <;> with_reducible rfl)); (try simp only [Act.put, List.setIfInBounds_toArray, List.set_cons_zero, List.set_cons_succ]))
    refine Ord.ch2_turn 0 hT9.out (by rfl) (by decide) (Or.inl rfl) (by rfl) (v := .slice (some ⟨W3.heap.size, 0, none⟩) 1 1) ?_ ?_
    · intro w5 hS hA
      cases hA
      go_simp
      simp only [Ord.LandsIn]
      exact ⟨trivial, HB3.out.2.2.1, trivial⟩
    (try simp only [Act.put, List.setIfInBounds_toArray, List.set_cons_zero, List.set_cons_succ])
    refine Ord.ch2_turn 1 hT9.out (by rfl) (by decide) (Or.inr ⟨_, rfl, by kernel_rfl⟩) (by rfl) (v := .slice (some ⟨g2, 0, none⟩) ((ids l x).length + 1) c2) ?_ ?_
    · intro w5 hS hA
      cases hA
      refine append_lands rfl HR5.out (by rfl) (by rfl) ⟨HB3.out.2.2.2.1, rfl⟩
    (try simp only [Act.put, List.setIfInBounds_toArray, List.set_cons_zero, List.set_cons_succ])
    refine Ord.ch2_turn 2 hT9.out (by rfl) (by decide) (Or.inr ⟨_, rfl, by kernel_rfl⟩) (by rfl) (v := undef) ?_ ?_
    · intro w5 hS hA
      cases hA
      have hr6 := HR6.out
      simp [execOp, Act.eval, hr6, Result.andThen]
      exact ⟨rfl, HB3.out.2.2.2.2, rfl⟩
    (try simp only [Act.put, List.setIfInBounds_toArray, List.set_cons_zero, List.set_cons_succ])
    refine Ord.InText.nil fun w5 hS => ?_
    clear hT9
    obtain ⟨hC, hA⟩ := Ord.chain2_end hS
    clear hS
    cases hA
    go_wp2_with fail
    go_ret
    exact ⟨rfl, F', hEND.out⟩
end Go.Proofs.Ythiccboecimfjaa

/- Souls among other things; a birth in any slot. -/
namespace Go.Proofs.Ythiccboecimfjaa
open Go.RowKit Go.Maps
set_option maxRecDepth 100000

/-- The births behind one more. -/
def bornL (l : List Int) (x : Int) : List Int := if x < 1 then l else l ++ [x]
def bornV (l : List Int) (x : Int) : Int := if x < 1 then 0 else (l.length : Int) + 1
theorem bornL_length (l : List Int) (x : Int) : (bornL l x).length ≤ l.length + 1 := by unfold bornL; split <;> simp
theorem bornX_any {s : Nat} {F : Nat → Prop} {l : List Int} {w : World} (x : Int) (hx : In64 x) (hl : l.length ≤ 100000) (hS : IsS w s F l) :
    Calls Try.prog 50 #[.pointer (some ⟨s, 0, none⟩), .int .i64 x] w fun e w' => e = .returned (.int .i64 (bornV l x)) ∧ ∃ F', IsS w' s F' (bornL l x) ∧ Step F F' w w' := by
  unfold bornV bornL
  by_cases h : x < 1
  · rw [if_pos h, if_pos h]
    refine (born_low (s := some s) x (.inr h)).mono ?_
    rintro e w' ⟨rfl, rfl⟩
    exact ⟨rfl, F, hS, Step.refl _ _⟩
  · rw [if_neg h, if_neg h]
    exact born_any x hx (by omega) hl hS

section
variable {w0 w w' : World} {L : List Item} {s : Nat} {F F' : Nat → Prop} {l l' : List Int}
theorem Env.madeS (h : Env w0 L w) (hC : IsS w' s (fun k => k = s) l) (hc : w.heap.size ≤ s) (hb : Below w.heap.size w w') : Env w0 (soulI s (fun k => k = s) l :: L) w' :=
  h.add (soulI s (fun k => k = s) l) hb hC fun k hk => ⟨by have hk : k = s := hk; omega, hC.lt k hk⟩
theorem Env.soul (h : Env w0 L w) (i : Nat) (hi : L[i]? = some (soulI s F l)) : IsS w s F l := h.get i hi
theorem Env.turnS (h : Env w0 L w) (i : Nat) (hi : L[i]? = some (soulI s F l)) (hC : IsS w' s F' l') (hs : Step F F' w w') : Env w0 (L.set i (soulI s F' l')) w' :=
  h.step i (soulI s F' l') hi hs hC hC.lt
end
end Go.Proofs.Ythiccboecimfjaa
