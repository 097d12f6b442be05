/- Contracts of the functions of layer 5: places that are made, and whether a place could be. -/
import Derived.Test.YtfajhblmjdjkbaaDoorConfC
import Derived.Test.YtfajhblmjdjkbaaDoorPlaceM
import Derived.Test.YtfajhblmjdjkbaaDoorSeq
namespace Go.Proofs.YtfajhblmjdjkbaaDoor
open Go.RowKit

set_option maxHeartbeats 400000 in
theorem isSingle_any (x y z : Int) (w : World) : Calls Tryd.prog 28 #[.agg #[.int .i64 x, .int .i64 y, .int .i64 z]] w fun e w' => e = .returned (.bool (singB x y z)) ∧ Below w.heap.size w w' := by
  have hF := (Fr.start w).push w.heap.size rfl [.int .i64 x, .int .i64 y, .int .i64 z] 25
  go_enter Tryd.func28, Tryd.ntmps28
  go_wp2
  all_goals
    go_ret
    (try go_light)
    (try simp only [bne_iff_ne, ne_eq, bne_eq_false_iff_eq, beq_iff_eq, beq_eq_false_iff_ne, Bool.or_eq_true, Bool.and_eq_true, decide_eq_true_eq, decide_eq_false_iff_not, Bool.or_eq_false_iff, Bool.not_eq_true', Bool.not_eq_false'] at *)
    (try subst_vars)
    refine ⟨ret_bool ?_, hF.below⟩
    rw [Bool.eq_iff_iff]
    (try simp [singB])
    (try omega)

set_option maxHeartbeats 400000 in
theorem isRoot_any (x y z : Int) (w : World) : Calls Tryd.prog 29 #[.agg #[.int .i64 x, .int .i64 y, .int .i64 z]] w fun e w' => e = .returned (.bool (rootB x y z)) ∧ Below w.heap.size w w' := by
  have hF := (Fr.start w).push w.heap.size rfl [.int .i64 x, .int .i64 y, .int .i64 z] 25
  go_enter Tryd.func29, Tryd.ntmps29
  go_wp2
  all_goals
    go_ret
    (try go_light)
    (try simp only [bne_iff_ne, ne_eq, bne_eq_false_iff_eq, beq_iff_eq, beq_eq_false_iff_ne, Bool.or_eq_true, Bool.and_eq_true, decide_eq_true_eq, decide_eq_false_iff_not, Bool.or_eq_false_iff, Bool.not_eq_true', Bool.not_eq_false'] at *)
    (try subst_vars)
    refine ⟨ret_bool ?_, hF.below⟩
    rw [Bool.eq_iff_iff]
    (try simp [rootB])
    (try omega)

set_option maxHeartbeats 400000 in
theorem isCell_any (x y z : Int) (w : World) : Calls Tryd.prog 30 #[.agg #[.int .i64 x, .int .i64 y, .int .i64 z]] w fun e w' => e = .returned (.bool (cellB x y z)) ∧ Below w.heap.size w w' := by
  have hF := (Fr.start w).push w.heap.size rfl [.int .i64 x, .int .i64 y, .int .i64 z] 25
  go_enter Tryd.func30, Tryd.ntmps30
  go_wp2
  all_goals
    go_ret
    (try go_light)
    (try simp only [bne_iff_ne, ne_eq, bne_eq_false_iff_eq, beq_iff_eq, beq_eq_false_iff_ne, Bool.or_eq_true, Bool.and_eq_true, decide_eq_true_eq, decide_eq_false_iff_not, Bool.or_eq_false_iff, Bool.not_eq_true', Bool.not_eq_false'] at *)
    (try subst_vars)
    refine ⟨ret_bool ?_, hF.below⟩
    rw [Bool.eq_iff_iff]
    (try simp [cellB])
    (try omega)

set_option maxHeartbeats 400000 in
theorem isContent_any (x y z : Int) (w : World) : Calls Tryd.prog 12 #[.agg #[.int .i64 x, .int .i64 y, .int .i64 z]] w fun e w' => e = .returned (.bool (contB x z)) ∧ Below w.heap.size w w' := by
  have hF := (Fr.start w).push w.heap.size rfl [.int .i64 x, .int .i64 y, .int .i64 z] 25
  go_enter Tryd.func12, Tryd.ntmps12
  go_wp2
  all_goals
    go_ret
    (try go_light)
    (try simp only [bne_iff_ne, ne_eq, bne_eq_false_iff_eq, beq_iff_eq, beq_eq_false_iff_ne, Bool.or_eq_true, Bool.and_eq_true, decide_eq_true_eq, decide_eq_false_iff_not, Bool.or_eq_false_iff, Bool.not_eq_true', Bool.not_eq_false'] at *)
    (try subst_vars)
    refine ⟨ret_bool ?_, hF.below⟩
    rw [Bool.eq_iff_iff]
    (try simp [contB])
    (try omega)

set_option maxHeartbeats 400000 in
theorem epoch_any (w : World) : Calls Tryd.prog 17 #[] w fun e w' => e = .returned (.agg #[.int .i64 1, .int .i64 0, .int .i64 0]) ∧ Below w.heap.size w w' := by
  go_enter Tryd.func17, Tryd.ntmps17
  go_wp2
  exact bodyPost_ret (v := .agg #[.int .i64 1, .int .i64 0, .int .i64 0]) (by simp [results, Tryd.results17, go_sem]) rfl ⟨rfl, (Below.refl _ _).alloc (Nat.le_refl _) _⟩
set_option maxHeartbeats 400000 in
theorem root_any (z : Int) (w : World) : Calls Tryd.prog 20 #[.int .i64 z] w fun e w' => e = .returned (.agg #[.int .i64 4, .int .i64 0, .int .i64 z]) ∧ Below w.heap.size w w' := by
  go_enter Tryd.func20, Tryd.ntmps20
  go_wp2
  exact bodyPost_ret (v := .agg #[.int .i64 4, .int .i64 0, .int .i64 z]) (by simp [results, Tryd.results20, go_sem]) rfl ⟨rfl, (Below.refl _ _).alloc (Nat.le_refl _) _⟩
set_option maxHeartbeats 400000 in
theorem of_any (y z : Int) (w : World) : Calls Tryd.prog 21 #[.int .i64 y, .int .i64 z] w fun e w' => e = .returned (.agg #[.int .i64 5, .int .i64 y, .int .i64 z]) ∧ Below w.heap.size w w' := by
  go_enter Tryd.func21, Tryd.ntmps21
  go_wp2
  exact bodyPost_ret (v := .agg #[.int .i64 5, .int .i64 y, .int .i64 z]) (by simp [results, Tryd.results21, go_sem]) rfl ⟨rfl, (Below.refl _ _).alloc (Nat.le_refl _) _⟩

/-- A store into the block that came last: the others stay. -/
theorem Fr.put {w0 w : World} {n : Nat} {vs : List Value} {bl : List (Nat × List Value)} (h : Fr w0 ((n, vs) :: bl) w) (hn : w0.heap.size ≤ n) (hd : ∀ x ∈ bl, x.1 ≠ n) (i : Nat) (hi : i < vs.length) (u : Value) : Fr w0 ((n, vs.set i u) :: bl) (w.setCell ⟨n, i, none⟩ u) := by
  obtain ⟨hb, hbl⟩ := h
  have h0 := hbl (n, vs) (List.mem_cons_self ..)
  refine ⟨hb.setCell hn u, fun x hx => ?_⟩
  rcases List.mem_cons.1 hx with rfl | hx
  · obtain ⟨k1, k2, k3⟩ := h0
    refine ⟨by simpa [World.setCell] using k1, fun j => ?_, fun hm j hj => ?_⟩
    · by_cases hij : j = i
      · subst hij
        rw [World.cell?_setCell_same' _ _ _ (by rw [k2]; simp [hi])]
        simp [hi]
      · have e : (⟨n, i, none⟩ : Addr) ≠ ⟨n, j, none⟩ := fun e => hij (by cases e; rfl)
        have e2 : (w.setCell ⟨n, i, none⟩ u).cell? ⟨n, j, none⟩ = w.cell? ⟨n, j, none⟩ := World.cell?_setCell_other w _ _ u e
        rw [e2, k2, List.getElem?_set, if_neg (fun e => hij e.symm)]
    · rw [World.frozen?_setCell]
      exact k3 hm j (by simpa using hj)
  · obtain ⟨k1, k2, k3⟩ := hbl x (List.mem_cons_of_mem _ hx)
    have hne : x.1 ≠ n := hd x hx
    have hk : (w.setCell ⟨n, i, none⟩ u).heap[x.1]? = w.heap[x.1]? := Below.heap_setCell _ _ _ _ hne
    exact ⟨by simpa [World.setCell] using k1, fun j => by rw [World.cell?_of_block (w := w) hk]; exact k2 j, fun hm j hj => by rw [World.frozen?_of_block (w := w) hk]; exact k3 hm j hj⟩
theorem Fr.tail {w0 w : World} {x : Nat × List Value} {bl : List (Nat × List Value)} (h : Fr w0 (x :: bl) w) : Fr w0 bl w := ⟨h.1, fun y hy => h.2 y (List.mem_cons_of_mem _ hy)⟩
/-- A block of the frame by itself. -/
theorem Fr.blk {w0 w : World} {bl : List (Nat × List Value)} (h : Fr w0 bl w) (k : Nat) {n : Nat} {vs : List Value} (e : bl[k]? = some (n, vs)) (hn : w0.heap.size ≤ n) : Blk 0 w n vs := ⟨h.lt k e, h.rule k e, fun _ => h.thaw k e hn⟩
theorem Fr.put3 {w0 w : World} {n : Nat} {a b c : Value} {bl : List (Nat × List Value)} (h : Fr w0 ((n, [a, b, c]) :: bl) w) (hn : w0.heap.size ≤ n) (hd : ∀ x ∈ bl, x.1 ≠ n) (u v t : Value) : Fr w0 ((n, [u, v, t]) :: bl) (((w.setCell ⟨n, 0, none⟩ u).setCell ⟨n, 1, none⟩ v).setCell ⟨n, 2, none⟩ t) :=
  ((h.put hn hd 0 (by simp) u).put hn hd 1 (by simp) v).put hn hd 2 (by simp) t

set_option maxHeartbeats 400000 in
theorem link_any (y m : Int) (w : World) : Calls Tryd.prog 22 #[.int .i64 y, .int .i64 m] w fun e w' => e = .returned (.agg #[.int .i64 5, .int .i64 y, .int .i64 (wrap64 (7 + m))]) ∧ Below w.heap.size w w' := by
  have hF := (Fr.start w).push w.heap.size rfl [.int .i64 0, .int .i64 0, .int .i64 0] 25
  go_enter Tryd.func22, Tryd.ntmps22
  go_wp2_with fail
  refine (of_any _ _ _).mono ?_
  rintro e w1 ⟨rfl, hb⟩
  replace hF := hF.over hb
  have r := hF.rule 0 rfl
  have f := hF.thaw 0 rfl (Nat.le_refl _)
  go_wp2
  have hP := hF.put3 (Nat.le_refl _) (fun x hx => by cases hx) (.int .i64 5) (.int .i64 y) (.int .i64 (wrap64 (7 + m)))
  have q := hP.rule 0 rfl
  exact bodyPost_ret (v := .agg #[.int .i64 5, .int .i64 y, .int .i64 (wrap64 (7 + m))]) (by simp [results, Tryd.results22, go_sem, q]) rfl ⟨rfl, hP.below⟩
end Go.Proofs.YtfajhblmjdjkbaaDoor
