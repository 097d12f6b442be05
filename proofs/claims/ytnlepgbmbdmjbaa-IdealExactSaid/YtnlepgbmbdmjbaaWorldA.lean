/- The plain world: contracts of its accesses: each is the cells' own, among whatever other things there are. -/
import Derived.Test.YtnlepgbmbdmjbaaCellI
namespace Go.Proofs.Ytnlepgbmbdmjbaa
open Go.RowKit Go.Maps
set_option maxRecDepth 100000

theorem wset {L : List Item} {i j : Nat} {a b : Item} (hij : j ≠ i) (h : L[i]? = some a) : (L.set j b)[i]? = some a := by rw [List.getElem?_set_ne hij, h]
theorem Env.put3 {w0 w : World} {L : List Item} (h : Env w0 L w) (i : Nat) {B : Nat} {a b c : Value} (hi : L[i]? = some (boxI B [a, b, c])) (u v t : Value) :
    Env w0 (L.set i (boxI B [u, v, t])) (((w.setCell ⟨B, 0, none⟩ u).setCell ⟨B, 1, none⟩ v).setCell ⟨B, 2, none⟩ t) := by
  have hl : i < L.length := (List.getElem?_eq_some_iff.1 hi).1
  have h1 := h.put i hi (j := 0) (by simp) u
  have h2 := h1.put i (by rw [List.getElem?_set_self hl]) (j := 1) (by simp) v
  have h3 := h2.put i (by rw [List.getElem?_set_self (by simpa using hl)]) (j := 2) (by simp) t
  simpa using h3
theorem Env.put5 {w0 w : World} {L : List Item} (h : Env w0 L w) (i : Nat) {B : Nat} {a b c d e : Value} (hi : L[i]? = some (boxI B [a, b, c, d, e])) (u v t x y : Value) :
    Env w0 (L.set i (boxI B [u, v, t, x, y])) (((((w.setCell ⟨B, 0, none⟩ u).setCell ⟨B, 1, none⟩ v).setCell ⟨B, 2, none⟩ t).setCell ⟨B, 3, none⟩ x).setCell ⟨B, 4, none⟩ y) := by
  have hl : i < L.length := (List.getElem?_eq_some_iff.1 hi).1
  have h1 := h.put i hi (j := 0) (by simp) u
  have h2 := h1.put i (by rw [List.getElem?_set_self hl]) (j := 1) (by simp) v
  have h3 := h2.put i (by rw [List.getElem?_set_self (by simpa using hl)]) (j := 2) (by simp) t
  have h4 := h3.put i (by rw [List.getElem?_set_self (by simpa using hl)]) (j := 3) (by simp) x
  have h5 := h4.put i (by rw [List.getElem?_set_self (by simpa using hl)]) (j := 4) (by simp) y
  simpa using h5
/-- A world at p: a pointer to its cells. -/
def wbox (p c : Nat) : Item := boxI p [.pointer (some ⟨c, 0, none⟩)]

theorem Env.wblk {w0 w : World} {L : List Item} {p c : Nat} (h : Env w0 L w) (i : Nat) (hi : L[i]? = some (wbox p c)) : Blk 0 w p [.pointer (some ⟨c, 0, none⟩)] := h.get i hi
theorem kept_any {w : World} {p c : Nat} (hb : Blk 0 w p [.pointer (some ⟨c, 0, none⟩)]) :
    Calls Try.prog 48 #[.pointer (some ⟨p, 0, none⟩)] w fun e w' => e = .returned (.pointer (some ⟨c, 0, none⟩)) ∧ w' = w := by
  have r := hb.rule
  go_enter Try.func48, Try.ntmps48
  go_wp2
  go_ret
  exact ⟨rfl, rfl⟩

section
variable {w0 w : World} {L : List Item} {p c n : Nat} {F : Nat → Prop} {f : Plc → Int} {q : Cnt}

set_option maxHeartbeats 1600000 in
theorem load_w (x y z d : Int) (hx : Wf (x, y, z)) (i j : Nat) (hij : j ≠ i) (hE : Env w0 L w) (hi : L[i]? = some (wbox p c)) (hj : L[j]? = some (cellI c F f q n)) :
    Calls Try.prog 23 #[.pointer (some ⟨p, 0, none⟩), .agg #[.int .i64 x, .int .i64 y, .int .i64 z, .int .i64 d]] w fun e w' => e = .returned (.agg #[.int .u64 (f (x, y, z)), .int .i64 0, .bool false]) ∧ Env w0 (L.set j (cellI c F f { q with l := wrap64 (q.l + 1) } n)) w' := by
  replace hE := (hE.box w.heap.size rfl [.int .i64 x, .int .i64 y, .int .i64 z, .int .i64 d] 41).box (w.heap.size + 1) (by simp) [.int .u64 0, .int .i64 0, .bool false] 37
  have hi' : (boxI (w.heap.size + 1) [.int .u64 0, .int .i64 0, .bool false] :: boxI w.heap.size [.int .i64 x, .int .i64 y, .int .i64 z, .int .i64 d] :: L)[i + 2]? = some (wbox p c) := hi
  have hj' : (boxI (w.heap.size + 1) [.int .u64 0, .int .i64 0, .bool false] :: boxI w.heap.size [.int .i64 x, .int .i64 y, .int .i64 z, .int .i64 d] :: L)[j + 2]? = some (cellI c F f q n) := hj
  have HX := Lib.hid hx
  clear hx
  go_enter Try.func23, Try.ntmps23
  go_wp2_with fail
  generalize w.heap.size + 1 = Y at *
  generalize w.heap.size = X at *
  refine Ord.wp_chain [4, 6] (fun w' => Blk 0 w' X [.int .i64 x, .int .i64 y, .int .i64 z, .int .i64 d] ∧ Blk 0 w' p [.pointer (some ⟨c, 0, none⟩)]) (Stage [Env w0 (boxI Y [.int .u64 0, .int .i64 0, .bool false] :: boxI X [.int .i64 x, .int .i64 y, .int .i64 z, .int .i64 d] :: L), Env w0 (boxI Y [.int .u64 0, .int .i64 0, .bool false] :: boxI X [.int .i64 x, .int .i64 y, .int .i64 z, .int .i64 d] :: L.set j (cellI c F f { q with l := wrap64 (q.l + 1) } n)), Env w0 (boxI Y [.int .u64 (f (x, y, z)), .int .i64 0, .bool false] :: boxI X [.int .i64 x, .int .i64 y, .int .i64 z, .int .i64 d] :: L.set j (cellI c F f { q with l := wrap64 (q.l + 1) } n))]) (by kernel_rfl) (by kernel_rfl) (by kernel_rfl) ⟨hE.drew.get 1 rfl, hE.drew.get (i + 2) hi'⟩ ⟨_, rfl, hE.drew⟩ (fun hT => ?_)
  have hT9 := Lib.hid hT
  clear hT
  repeat (first
    | (refine Ord.ch_value (v := ?_) hT9.out (by decide) (by rfl) ?_ ?_; rotate_left; (focus (intro w5 hS; have r := hS.1.rule; go_simp <;> with_reducible rfl)); (try simp only [Act.put, List.setIfInBounds_toArray, List.set_cons_zero, List.set_cons_succ]))
    | (refine Ord.ch_off hT9.out (by decide) (by rfl) ?_; (try simp only [Act.put, List.setIfInBounds_toArray, List.set_cons_zero, List.set_cons_succ]))
    | (refine Ord.ch_call (v := ?_) (f := ?_) (args := ?_) hT9.out (by decide) (by rfl) ?_ ?_ ?_; rotate_left 3; (focus (intro w5 hS; have r := hS.1.rule; go_simp; constructor <;> with_reducible rfl)); (focus (intro w5 hS; (first | (with_reducible refine (kept_any hS.2).mono ?_; rintro e w6 ⟨rfl, rfl⟩; constructor; with_reducible rfl; exact ⟨hS, fun _ h => h⟩)))); (try simp only [Act.put, List.setIfInBounds_toArray, List.set_cons_zero, List.set_cons_succ])))
  refine Ord.ch_turn (v := .int .u64 (f (x, y, z))) 0 hT9.out rfl (by decide) (Or.inl rfl) (by rfl) ?_ ?_
  · rintro w5 hC5 ⟨P5, hP5, hA5⟩
    cases hP5
    go_simp
    simp only [Ord.LandsIn]
    refine (load_any x y z HX.out (hA5.cell (j + 2) hj')).mono ?_
    rintro e w6 ⟨rfl, hC, hs⟩
    have hE6 := hA5.turn (j + 2) hj' hC hs
    exact ⟨rfl, ⟨hE6.get 1 rfl, hE6.get (i + 2) (wset (j := j + 2) (by omega) hi')⟩, _, rfl, hE6⟩
  (try simp only [Act.put, List.setIfInBounds_toArray, List.set_cons_zero, List.set_cons_succ])
  repeat (first
    | (refine Ord.ch_value (v := ?_) hT9.out (by decide) (by rfl) ?_ ?_; rotate_left; (focus (intro w5 hS; skip; go_simp <;> with_reducible rfl)); (try simp only [Act.put, List.setIfInBounds_toArray, List.set_cons_zero, List.set_cons_succ]))
    | (refine Ord.ch_off hT9.out (by decide) (by rfl) ?_; (try simp only [Act.put, List.setIfInBounds_toArray, List.set_cons_zero, List.set_cons_succ])))
  refine Ord.ch_turn (v := undef) 1 hT9.out rfl (by decide) (Or.inr ⟨_, rfl, by kernel_rfl⟩) (by rfl) ?_ ?_
  · rintro w5 hC5 ⟨P5, hP5, hA5⟩
    cases hP5
    have r := hA5.rule 0 rfl
    have f := hA5.thaw 0 rfl
    have f0 := f 0 (by simp)
    have f1 := f 1 (by simp)
    have f2 := f 2 (by simp)
    clear f
    go_simp
    have hE6 := hA5.put3 0 rfl (.int .u64 (f (x, y, z))) (.int .i64 0) (.bool false)
    exact ⟨rfl, ⟨hE6.get 1 rfl, hE6.get (i + 2) (wset (j := j + 2) (by omega) hi')⟩, _, rfl, hE6⟩
  (try simp only [Act.put, List.setIfInBounds_toArray, List.set_cons_zero, List.set_cons_succ])
  repeat (first
    | (refine Ord.ch_value (v := ?_) hT9.out (by decide) (by rfl) ?_ ?_; rotate_left; (focus (intro w5 hS; skip; go_simp <;> with_reducible rfl)); (try simp only [Act.put, List.setIfInBounds_toArray, List.set_cons_zero, List.set_cons_succ]))
    | (refine Ord.ch_off hT9.out (by decide) (by rfl) ?_; (try simp only [Act.put, List.setIfInBounds_toArray, List.set_cons_zero, List.set_cons_succ])))
  refine Ord.InText.nil fun w5 hS => ?_
  clear hT9
  obtain ⟨hC9, hA9⟩ := Ord.chain_end hS
  clear hS
  obtain ⟨P9, hP9, hA9⟩ := hA9
  cases hP9
  have q9 := hA9.rule 0 rfl
  go_wp2
  exact bodyPost_ret (v := .agg #[.int .u64 (f (x, y, z)), .int .i64 0, .bool false]) (by simp [results, Try.results23, go_sem, q9]) rfl ⟨rfl, hA9.sub (.cons _ (.cons _ (List.Sublist.refl _)))⟩
set_option maxHeartbeats 1600000 in
theorem store_w (x y z d v e : Int) (b : Bool) (hx : Wf (x, y, z)) (hv : InU v) (hn : n < maxLen) (i j : Nat) (hij : j ≠ i) (hE : Env w0 L w) (hi : L[i]? = some (wbox p c)) (hj : L[j]? = some (cellI c F f q n)) :
    Calls Try.prog 24 #[.pointer (some ⟨p, 0, none⟩), .agg #[.int .i64 x, .int .i64 y, .int .i64 z, .int .i64 d], .agg #[.int .u64 v, .int .i64 e, .bool b]] w fun e w' => e = .returned (.tuple #[]) ∧ ∃ F', Env w0 (L.set j (cellI c F' (upd f (x, y, z) v) { q with s := wrap64 (q.s + 1) } (n + 1))) w' := by
  replace hE := ((hE.box w.heap.size rfl [.int .i64 x, .int .i64 y, .int .i64 z, .int .i64 d] 41).box (w.heap.size + 1) (by simp) [.int .u64 v, .int .i64 e, .bool b] 37)
  have hi' : (boxI (w.heap.size + 1) [.int .u64 v, .int .i64 e, .bool b] :: boxI (w.heap.size) [.int .i64 x, .int .i64 y, .int .i64 z, .int .i64 d] :: L)[i + 2]? = some (wbox p c) := hi
  have hj' : (boxI (w.heap.size + 1) [.int .u64 v, .int .i64 e, .bool b] :: boxI (w.heap.size) [.int .i64 x, .int .i64 y, .int .i64 z, .int .i64 d] :: L)[j + 2]? = some (cellI c F f q n) := hj
  have HX := Lib.hid hx
  clear hx
  go_enter Try.func24, Try.ntmps24
  go_wp2_with fail
  generalize w.heap.size + 1 = Y at *
  generalize w.heap.size = X at *
  refine Ord.wp_chain [6] (fun w' => Blk 0 w' X [.int .i64 x, .int .i64 y, .int .i64 z, .int .i64 d] ∧ Blk 0 w' Y [.int .u64 v, .int .i64 e, .bool b] ∧ Blk 0 w' p [.pointer (some ⟨c, 0, none⟩)]) (Stage [Env w0 (boxI Y [.int .u64 v, .int .i64 e, .bool b] :: boxI X [.int .i64 x, .int .i64 y, .int .i64 z, .int .i64 d] :: L), fun w' => ∃ F', Env w0 (boxI Y [.int .u64 v, .int .i64 e, .bool b] :: boxI X [.int .i64 x, .int .i64 y, .int .i64 z, .int .i64 d] :: L.set j (cellI c F' (upd f (x, y, z) v) { q with s := wrap64 (q.s + 1) } (n + 1))) w']) (by kernel_rfl) (by kernel_rfl) (by kernel_rfl) ⟨hE.drew.get 1 rfl, hE.drew.get 0 rfl, hE.drew.get (i + 2) hi'⟩ ⟨_, rfl, hE.drew⟩ (fun hT => ?_)
  have hT9 := Lib.hid hT
  clear hT
  repeat (first
    | (refine Ord.ch_value (v := ?_) hT9.out (by decide) (by rfl) ?_ ?_; rotate_left; (focus (intro w5 hS; have r0 := hS.1.rule; have r1 := hS.2.1.rule; go_simp <;> with_reducible rfl)); (try simp only [Act.put, List.setIfInBounds_toArray, List.set_cons_zero, List.set_cons_succ]))
    | (refine Ord.ch_off hT9.out (by decide) (by rfl) ?_; (try simp only [Act.put, List.setIfInBounds_toArray, List.set_cons_zero, List.set_cons_succ]))
    | (refine Ord.ch_call (v := ?_) (f := ?_) (args := ?_) hT9.out (by decide) (by rfl) ?_ ?_ ?_; rotate_left 3; (focus (intro w5 hS; have r0 := hS.1.rule; have r1 := hS.2.1.rule; go_simp; constructor <;> with_reducible rfl)); (focus (intro w5 hS; (first | (with_reducible refine (kept_any hS.2.2).mono ?_; rintro e w6 ⟨rfl, rfl⟩; constructor; with_reducible rfl; exact ⟨hS, fun _ h => h⟩)))); (try simp only [Act.put, List.setIfInBounds_toArray, List.set_cons_zero, List.set_cons_succ])))
  refine Ord.ch_turn (v := .tuple #[]) 0 hT9.out rfl (by decide) (Or.inl rfl) (by rfl) ?_ ?_
  · rintro w5 hC5 ⟨P5, hP5, hA5⟩
    cases hP5
    go_simp
    simp only [Ord.LandsIn]
    refine (store_any x y z v HX.out hv hn (hA5.cell (j + 2) hj')).mono ?_
    rintro e w6 ⟨rfl, F6, hC, hs⟩
    have hE6 := hA5.turn (j + 2) hj' hC hs
    exact ⟨rfl, ⟨hE6.get 1 rfl, hE6.get 0 rfl, hE6.get (i + 2) (wset (j := j + 2) (by omega) hi')⟩, _, rfl, F6, hE6⟩
  (try simp only [Act.put, List.setIfInBounds_toArray, List.set_cons_zero, List.set_cons_succ])
  repeat (first
    | (refine Ord.ch_value (v := ?_) hT9.out (by decide) (by rfl) ?_ ?_; rotate_left; (focus (intro w5 hS; skip; go_simp <;> with_reducible rfl)); (try simp only [Act.put, List.setIfInBounds_toArray, List.set_cons_zero, List.set_cons_succ]))
    | (refine Ord.ch_off hT9.out (by decide) (by rfl) ?_; (try simp only [Act.put, List.setIfInBounds_toArray, List.set_cons_zero, List.set_cons_succ])))
  refine Ord.InText.nil fun w5 hS => ?_
  clear hT9
  obtain ⟨hC9, hA9⟩ := Ord.chain_end hS
  clear hS
  obtain ⟨P9, hP9, hA9⟩ := hA9
  cases hP9
  obtain ⟨F9, hA9⟩ := hA9
  clear hC9
  go_wp2
  go_end0
  exact ⟨rfl, F9, hA9.sub (.cons _ (.cons _ (List.Sublist.refl _)))⟩
set_option maxHeartbeats 1600000 in
theorem swap_w (x y z d o oe v e : Int) (ob b : Bool) (hx : Wf (x, y, z)) (hv : InU v) (hn : n < maxLen) (i j : Nat) (hij : j ≠ i) (hE : Env w0 L w) (hi : L[i]? = some (wbox p c)) (hj : L[j]? = some (cellI c F f q n)) :
    Calls Try.prog 25 #[.pointer (some ⟨p, 0, none⟩), .agg #[.int .i64 x, .int .i64 y, .int .i64 z, .int .i64 d], .agg #[.int .u64 o, .int .i64 oe, .bool ob], .agg #[.int .u64 v, .int .i64 e, .bool b]] w fun e w' => e = .returned (.bool (decide (f (x, y, z) = o))) ∧ ∃ F', Env w0 (L.set j (cellI c F' (swf f (x, y, z) o v) (swq q (decide (f (x, y, z) = o))) (n + 1))) w' := by
  replace hE := (((hE.box w.heap.size rfl [.int .i64 x, .int .i64 y, .int .i64 z, .int .i64 d] 41).box (w.heap.size + 1) (by simp) [.int .u64 o, .int .i64 oe, .bool ob] 37).box (w.heap.size + 1 + 1) (by simp) [.int .u64 v, .int .i64 e, .bool b] 37)
  have hi' : (boxI (w.heap.size + 1 + 1) [.int .u64 v, .int .i64 e, .bool b] :: boxI (w.heap.size + 1) [.int .u64 o, .int .i64 oe, .bool ob] :: boxI (w.heap.size) [.int .i64 x, .int .i64 y, .int .i64 z, .int .i64 d] :: L)[i + 3]? = some (wbox p c) := hi
  have hj' : (boxI (w.heap.size + 1 + 1) [.int .u64 v, .int .i64 e, .bool b] :: boxI (w.heap.size + 1) [.int .u64 o, .int .i64 oe, .bool ob] :: boxI (w.heap.size) [.int .i64 x, .int .i64 y, .int .i64 z, .int .i64 d] :: L)[j + 3]? = some (cellI c F f q n) := hj
  have HX := Lib.hid hx
  clear hx
  go_enter Try.func25, Try.ntmps25
  go_wp2_with fail
  generalize w.heap.size + 1 + 1 = Z at *
  generalize w.heap.size + 1 = Y at *
  generalize w.heap.size = X at *
  refine Ord.wp_chain [8] (fun w' => Blk 0 w' X [.int .i64 x, .int .i64 y, .int .i64 z, .int .i64 d] ∧ Blk 0 w' Y [.int .u64 o, .int .i64 oe, .bool ob] ∧ Blk 0 w' Z [.int .u64 v, .int .i64 e, .bool b] ∧ Blk 0 w' p [.pointer (some ⟨c, 0, none⟩)]) (Stage [Env w0 (boxI Z [.int .u64 v, .int .i64 e, .bool b] :: boxI Y [.int .u64 o, .int .i64 oe, .bool ob] :: boxI X [.int .i64 x, .int .i64 y, .int .i64 z, .int .i64 d] :: L), fun w' => ∃ F', Env w0 (boxI Z [.int .u64 v, .int .i64 e, .bool b] :: boxI Y [.int .u64 o, .int .i64 oe, .bool ob] :: boxI X [.int .i64 x, .int .i64 y, .int .i64 z, .int .i64 d] :: L.set j (cellI c F' (swf f (x, y, z) o v) (swq q (decide (f (x, y, z) = o))) (n + 1))) w']) (by kernel_rfl) (by kernel_rfl) (by kernel_rfl) ⟨hE.drew.get 2 rfl, hE.drew.get 1 rfl, hE.drew.get 0 rfl, hE.drew.get (i + 3) hi'⟩ ⟨_, rfl, hE.drew⟩ (fun hT => ?_)
  have hT9 := Lib.hid hT
  clear hT
  repeat (first
    | (refine Ord.ch_value (v := ?_) hT9.out (by decide) (by rfl) ?_ ?_; rotate_left; (focus (intro w5 hS; have r0 := hS.1.rule; have r1 := hS.2.1.rule; have r2 := hS.2.2.1.rule; go_simp <;> with_reducible rfl)); (try simp only [Act.put, List.setIfInBounds_toArray, List.set_cons_zero, List.set_cons_succ]))
    | (refine Ord.ch_off hT9.out (by decide) (by rfl) ?_; (try simp only [Act.put, List.setIfInBounds_toArray, List.set_cons_zero, List.set_cons_succ]))
    | (refine Ord.ch_call (v := ?_) (f := ?_) (args := ?_) hT9.out (by decide) (by rfl) ?_ ?_ ?_; rotate_left 3; (focus (intro w5 hS; have r0 := hS.1.rule; have r1 := hS.2.1.rule; have r2 := hS.2.2.1.rule; go_simp; constructor <;> with_reducible rfl)); (focus (intro w5 hS; (first | (with_reducible refine (kept_any hS.2.2.2).mono ?_; rintro e w6 ⟨rfl, rfl⟩; constructor; with_reducible rfl; exact ⟨hS, fun _ h => h⟩)))); (try simp only [Act.put, List.setIfInBounds_toArray, List.set_cons_zero, List.set_cons_succ])))
  refine Ord.ch_turn (v := .bool (decide (f (x, y, z) = o))) 0 hT9.out rfl (by decide) (Or.inl rfl) (by rfl) ?_ ?_
  · rintro w5 hC5 ⟨P5, hP5, hA5⟩
    cases hP5
    go_simp
    simp only [Ord.LandsIn]
    refine (swap_any x y z o v HX.out hv hn (hA5.cell (j + 3) hj')).mono ?_
    rintro e w6 ⟨rfl, F6, hC, hs⟩
    have hE6 := hA5.turn (j + 3) hj' hC hs
    exact ⟨rfl, ⟨hE6.get 2 rfl, hE6.get 1 rfl, hE6.get 0 rfl, hE6.get (i + 3) (wset (j := j + 3) (by omega) hi')⟩, _, rfl, F6, hE6⟩
  (try simp only [Act.put, List.setIfInBounds_toArray, List.set_cons_zero, List.set_cons_succ])
  repeat (first
    | (refine Ord.ch_value (v := ?_) hT9.out (by decide) (by rfl) ?_ ?_; rotate_left; (focus (intro w5 hS; skip; go_simp <;> with_reducible rfl)); (try simp only [Act.put, List.setIfInBounds_toArray, List.set_cons_zero, List.set_cons_succ]))
    | (refine Ord.ch_off hT9.out (by decide) (by rfl) ?_; (try simp only [Act.put, List.setIfInBounds_toArray, List.set_cons_zero, List.set_cons_succ])))
  refine Ord.InText.nil fun w5 hS => ?_
  clear hT9
  obtain ⟨hC9, hA9⟩ := Ord.chain_end hS
  clear hS
  obtain ⟨P9, hP9, hA9⟩ := hA9
  cases hP9
  obtain ⟨F9, hA9⟩ := hA9
  clear hC9
  go_wp2
  go_ret
  exact ⟨rfl, F9, hA9.sub (.cons _ (.cons _ (.cons _ (List.Sublist.refl _))))⟩
set_option maxHeartbeats 1600000 in
theorem add_w (x y z d v : Int) (hx : Wf (x, y, z)) (hn : n < maxLen) (i j : Nat) (hij : j ≠ i) (hE : Env w0 L w) (hi : L[i]? = some (wbox p c)) (hj : L[j]? = some (cellI c F f q n)) :
    Calls Try.prog 26 #[.pointer (some ⟨p, 0, none⟩), .agg #[.int .i64 x, .int .i64 y, .int .i64 z, .int .i64 d], .int .u64 v] w fun e w' => e = .returned (.int .u64 (f (x, y, z))) ∧ ∃ F', Env w0 (L.set j (cellI c F' (upd f (x, y, z) (IntKind.u64.wrap (f (x, y, z) + v))) { q with a := wrap64 (q.a + 1) } (n + 1))) w' := by
  replace hE := (hE.box w.heap.size rfl [.int .i64 x, .int .i64 y, .int .i64 z, .int .i64 d] 41)
  have hi' : (boxI (w.heap.size) [.int .i64 x, .int .i64 y, .int .i64 z, .int .i64 d] :: L)[i + 1]? = some (wbox p c) := hi
  have hj' : (boxI (w.heap.size) [.int .i64 x, .int .i64 y, .int .i64 z, .int .i64 d] :: L)[j + 1]? = some (cellI c F f q n) := hj
  have HX := Lib.hid hx
  clear hx
  go_enter Try.func26, Try.ntmps26
  go_wp2_with fail
  generalize w.heap.size = X at *
  refine Ord.wp_chain [5] (fun w' => Blk 0 w' X [.int .i64 x, .int .i64 y, .int .i64 z, .int .i64 d] ∧ Blk 0 w' p [.pointer (some ⟨c, 0, none⟩)]) (Stage [Env w0 (boxI X [.int .i64 x, .int .i64 y, .int .i64 z, .int .i64 d] :: L), fun w' => ∃ F', Env w0 (boxI X [.int .i64 x, .int .i64 y, .int .i64 z, .int .i64 d] :: L.set j (cellI c F' (upd f (x, y, z) (IntKind.u64.wrap (f (x, y, z) + v))) { q with a := wrap64 (q.a + 1) } (n + 1))) w']) (by kernel_rfl) (by kernel_rfl) (by kernel_rfl) ⟨hE.drew.get 0 rfl, hE.drew.get (i + 1) hi'⟩ ⟨_, rfl, hE.drew⟩ (fun hT => ?_)
  have hT9 := Lib.hid hT
  clear hT
  repeat (first
    | (refine Ord.ch_value (v := ?_) hT9.out (by decide) (by rfl) ?_ ?_; rotate_left; (focus (intro w5 hS; have r0 := hS.1.rule; go_simp <;> with_reducible rfl)); (try simp only [Act.put, List.setIfInBounds_toArray, List.set_cons_zero, List.set_cons_succ]))
    | (refine Ord.ch_off hT9.out (by decide) (by rfl) ?_; (try simp only [Act.put, List.setIfInBounds_toArray, List.set_cons_zero, List.set_cons_succ]))
    | (refine Ord.ch_call (v := ?_) (f := ?_) (args := ?_) hT9.out (by decide) (by rfl) ?_ ?_ ?_; rotate_left 3; (focus (intro w5 hS; have r0 := hS.1.rule; go_simp; constructor <;> with_reducible rfl)); (focus (intro w5 hS; (first | (with_reducible refine (kept_any hS.2).mono ?_; rintro e w6 ⟨rfl, rfl⟩; constructor; with_reducible rfl; exact ⟨hS, fun _ h => h⟩)))); (try simp only [Act.put, List.setIfInBounds_toArray, List.set_cons_zero, List.set_cons_succ])))
  refine Ord.ch_turn (v := .int .u64 (f (x, y, z))) 0 hT9.out rfl (by decide) (Or.inl rfl) (by rfl) ?_ ?_
  · rintro w5 hC5 ⟨P5, hP5, hA5⟩
    cases hP5
    go_simp
    simp only [Ord.LandsIn]
    refine (add_any x y z v HX.out hn (hA5.cell (j + 1) hj')).mono ?_
    rintro e w6 ⟨rfl, F6, hC, hs⟩
    have hE6 := hA5.turn (j + 1) hj' hC hs
    exact ⟨rfl, ⟨hE6.get 0 rfl, hE6.get (i + 1) (wset (j := j + 1) (by omega) hi')⟩, _, rfl, F6, hE6⟩
  (try simp only [Act.put, List.setIfInBounds_toArray, List.set_cons_zero, List.set_cons_succ])
  repeat (first
    | (refine Ord.ch_value (v := ?_) hT9.out (by decide) (by rfl) ?_ ?_; rotate_left; (focus (intro w5 hS; skip; go_simp <;> with_reducible rfl)); (try simp only [Act.put, List.setIfInBounds_toArray, List.set_cons_zero, List.set_cons_succ]))
    | (refine Ord.ch_off hT9.out (by decide) (by rfl) ?_; (try simp only [Act.put, List.setIfInBounds_toArray, List.set_cons_zero, List.set_cons_succ])))
  refine Ord.InText.nil fun w5 hS => ?_
  clear hT9
  obtain ⟨hC9, hA9⟩ := Ord.chain_end hS
  clear hS
  obtain ⟨P9, hP9, hA9⟩ := hA9
  cases hP9
  obtain ⟨F9, hA9⟩ := hA9
  clear hC9
  go_wp2
  go_ret
  exact ⟨rfl, F9, hA9.sub (.cons _ (List.Sublist.refl _))⟩

set_option maxHeartbeats 1600000 in
theorem peek_w (x y z : Int) (hx : Wf (x, y, z)) (i j : Nat) (hE : Env w0 L w) (hi : L[i]? = some (wbox p c)) (hj : L[j]? = some (cellI c F f q n)) :
    Calls Try.prog 27 #[.pointer (some ⟨p, 0, none⟩), .agg #[.int .i64 x, .int .i64 y, .int .i64 z]] w fun e w' => e = .returned (.int .u64 (f (x, y, z))) ∧ Below w.heap.size w w' := by
  have hb := (Below.refl w.heap.size w).alloc (Nat.le_refl _) (.cells #[.int .i64 x, .int .i64 y, .int .i64 z] 39)
  replace hE := hE.box w.heap.size rfl [.int .i64 x, .int .i64 y, .int .i64 z] 39
  have HX := Lib.hid hx
  clear hx
  go_enter Try.func27, Try.ntmps27
  go_wp2_with fail
  obtain ⟨X, hXw⟩ : ∃ X, X = w.heap.size := ⟨_, rfl⟩
  rw [← hXw] at hE ⊢
  have HXW := Lib.hid hXw
  clear hXw
  have hi1 : (boxI X [.int .i64 x, .int .i64 y, .int .i64 z] :: L)[i + 1]? = some (wbox p c) := hi
  have hj1 : (boxI X [.int .i64 x, .int .i64 y, .int .i64 z] :: L)[j + 1]? = some (cellI c F f q n) := hj
  refine Ord.wp_chain [] (fun w' => Env w0 (boxI X [.int .i64 x, .int .i64 y, .int .i64 z] :: L) w' ∧ Below w.heap.size w w') (fun _ _ => True) (by kernel_rfl) (by kernel_rfl) (by kernel_rfl) ⟨hE.drew, hb.drew⟩ trivial (fun hT => ?_)
  have hT9 := Lib.hid hT
  clear hT
  repeat (first
    | (refine Ord.ch_value (v := ?_) hT9.out (by decide) (by rfl) ?_ ?_; rotate_left; (focus (intro w5 hS; have r := hS.1.rule 0 rfl; go_simp <;> with_reducible rfl)); (try simp only [Act.put, List.setIfInBounds_toArray, List.set_cons_zero, List.set_cons_succ]))
    | (refine Ord.ch_off hT9.out (by decide) (by rfl) ?_; (try simp only [Act.put, List.setIfInBounds_toArray, List.set_cons_zero, List.set_cons_succ]))
    | (refine Ord.ch_call (v := ?_) (f := ?_) (args := ?_) hT9.out (by decide) (by rfl) ?_ ?_ ?_; rotate_left 3; (focus (intro w5 hS; have r := hS.1.rule 0 rfl; go_simp; constructor <;> with_reducible rfl)); (focus (intro w5 hS; (first | (with_reducible refine (kept_any (hS.1.wblk (i + 1) hi1)).mono ?_; rintro e w6 ⟨rfl, rfl⟩; constructor; with_reducible rfl; exact ⟨hS, fun _ h => h⟩) | (with_reducible refine (peek_any x y z HX.out (hS.1.cell (j + 1) hj1)).mono ?_; rintro e w6 ⟨rfl, hb6⟩; constructor; with_reducible rfl; exact ⟨⟨hS.1.over hb6, hS.2.trans (hb6.mono hS.2.size)⟩, fun _ h => h⟩)))); (try simp only [Act.put, List.setIfInBounds_toArray, List.set_cons_zero, List.set_cons_succ])))
  refine Ord.InText.nil fun w5 hS => ?_
  clear hT9
  obtain ⟨hC9, hA9⟩ := Ord.chain_end hS
  clear hS
  go_wp2
  go_ret
  exact ⟨rfl, hC9.2⟩
set_option maxHeartbeats 1600000 in
theorem count_w (i j : Nat) (hE : Env w0 L w) (hi : L[i]? = some (wbox p c)) (hj : L[j]? = some (cellI c F f q n)) :
    Calls Try.prog 28 #[.pointer (some ⟨p, 0, none⟩)] w fun e w' => e = .returned (.agg #[.int .i64 q.l, .int .i64 q.s, .int .i64 q.w, .int .i64 q.f, .int .i64 q.a]) ∧ Below w.heap.size w w' := by
  have hb := (Below.refl w.heap.size w).alloc (Nat.le_refl _) (.cells #[.int .i64 0, .int .i64 0, .int .i64 0, .int .i64 0, .int .i64 0] 46)
  replace hE := hE.box w.heap.size rfl [.int .i64 0, .int .i64 0, .int .i64 0, .int .i64 0, .int .i64 0] 46
  go_enter Try.func28, Try.ntmps28
  go_wp2_with fail
  refine (kept_any (hE.wblk (i + 1) hi)).mono ?_
  rintro e w1 ⟨rfl, rfl⟩
  go_wp2_with fail
  refine (count_any (hE.cell (j + 1) hj)).mono ?_
  rintro e w2 ⟨rfl, hb2⟩
  have hE2 := hE.over hb2
  have f5 := hE2.thaw 0 rfl
  have f0 := f5 0 (by simp)
  have f1 := f5 1 (by simp)
  have f2 := f5 2 (by simp)
  have f3 := f5 3 (by simp)
  have f4 := f5 4 (by simp)
  have r := hE2.rule 0 rfl
  have hB := hb.trans (hb2.mono hb.size)
  clear f5
  go_wp2
  have hP := hE2.put5 0 rfl (.int .i64 q.l) (.int .i64 q.s) (.int .i64 q.w) (.int .i64 q.f) (.int .i64 q.a)
  have q9 := hP.rule 0 rfl
  refine bodyPost_ret (v := .agg #[.int .i64 q.l, .int .i64 q.s, .int .i64 q.w, .int .i64 q.f, .int .i64 q.a]) (by simp [results, Try.results28, go_sem, q9]) rfl ⟨rfl, ?_⟩
  exact ((((hB.setCell (Nat.le_refl _) _).setCell (Nat.le_refl _) _).setCell (Nat.le_refl _) _).setCell (Nat.le_refl _) _).setCell (Nat.le_refl _) _
theorem new_w (hE : Env w0 L w) : Calls Try.prog 22 #[] w fun e w' => ∃ p c, e = .returned (.pointer (some ⟨p, 0, none⟩)) ∧ Env w0 (wbox p c :: cellI c (fun k => k = c) (fun _ => 0) ⟨0, 0, 0, 0, 0⟩ 0 :: L) w' ∧ Below w.heap.size w w' := by
  go_enter Try.func22, Try.ntmps22
  go_wp2_with fail
  refine (new_any w).mono ?_
  rintro e w1 ⟨rfl, hC, hb⟩
  replace hE := (hE.made hC (Nat.le_refl _) hb).box w1.heap.size rfl [.pointer (some ⟨w.heap.size, 0, none⟩)] 83
  go_wp2
  go_ret
  exact ⟨_, _, rfl, hE, hb.alloc hb.size _⟩
end
end Go.Proofs.Ytnlepgbmbdmjbaa
