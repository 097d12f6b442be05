/- The order of places; the library's sort at it. -/
import Derived.Test.YtnohfcikedhhgaaCellA
import Derived.Test.YtnohfcikedhhgaaShelf
import Derived.LoopN
namespace Go.Proofs.Ytnohfcikedhhgaa
open Go.RowKit Go.Maps Go.Shelf Go.Sort
set_option maxRecDepth 100000

/-- How two places stand. -/
def orI (a b c : Int) : Int := if a ≠ 0 then a else if b ≠ 0 then b else c
def cmpP (x y : Plc) : Int := orI (Lib.compareInt x.1 y.1) (Lib.compareInt x.2.1 y.2.1) (Lib.compareInt x.2.2 y.2.2)
theorem cmp_neg (a b : Int) : Lib.compareInt a b < 0 ↔ a < b := by unfold Lib.compareInt; split <;> (try split) <;> omega
theorem cmp_zero (a b : Int) : Lib.compareInt a b = 0 ↔ a = b := by unfold Lib.compareInt; split <;> (try split) <;> omega
theorem ltP (x y : Plc) : ltOf cmpP x y = true ↔ x.1 < y.1 ∨ (x.1 = y.1 ∧ (x.2.1 < y.2.1 ∨ (x.2.1 = y.2.1 ∧ x.2.2 < y.2.2))) := by
  have h1 := cmp_neg x.1 y.1
  have h2 := cmp_neg x.2.1 y.2.1
  have h3 := cmp_neg x.2.2 y.2.2
  have z1 := cmp_zero x.1 y.1
  have z2 := cmp_zero x.2.1 y.2.1
  have e : ltOf cmpP x y = true ↔ cmpP x y < 0 := by simp [ltOf]
  rw [e]
  unfold cmpP orI
  split
  · rename_i h; rw [h1]; rw [ne_eq, z1] at h; omega
  · rename_i h
    have h := z1.1 (by simpa using h)
    split
    · rename_i k; rw [h2]; rw [ne_eq, z2] at k; omega
    · rename_i k
      have k := z2.1 (by simpa using k)
      rw [h3]; omega
theorem ltP_false (x y : Plc) : ltOf cmpP x y = false ↔ ¬ (x.1 < y.1 ∨ (x.1 = y.1 ∧ (x.2.1 < y.2.1 ∨ (x.2.1 = y.2.1 ∧ x.2.2 < y.2.2)))) := by rw [← ltP, Bool.not_eq_true]
theorem swoP : SWO (ltOf cmpP) where
  irrefl x := by rw [ltP_false]; omega
  trans x y z h1 h2 := by rw [ltP] at *; omega
  ntrans x y z h1 h2 := by rw [ltP_false] at *; omega
theorem totP (x y : Plc) (h1 : ltOf cmpP x y = false) (h2 : ltOf cmpP y x = false) : x = y := by
  rw [ltP_false] at *
  obtain ⟨a, b, c⟩ := x
  obtain ⟨a', b', c'⟩ := y
  simp only [Prod.mk.injEq]
  simp only at h1 h2
  omega

theorem compareInt_any (x y : Int) (w : World) : Calls Try.prog 46 #[.int .i64 x, .int .i64 y] w fun e w' => e = .returned (.int .i64 (Lib.compareInt x y)) ∧ w' = w := AnyG.cmp_Compare_int Try.compareInt x y w

set_option maxHeartbeats 1600000 in
theorem or_any (a b c : Int) (N : Nat) (w : World) (h : ∀ i, w.cell? ⟨N, i, none⟩ = [Value.int .i64 a, .int .i64 b, .int .i64 c][i]?) :
    Calls Try.prog 45 #[.slice (some ⟨N, 0, none⟩) 3 3] w fun e w' => e = .returned (.int .i64 (orI a b c)) ∧ w' = w := by
  have e1 : (a != 0) = true ∨ ((a != 0) = false ∧ (b != 0) = true) ∨ ((a != 0) = false ∧ (b != 0) = false ∧ (c != 0) = true) ∨ ((a != 0) = false ∧ (b != 0) = false ∧ (c != 0) = false) := by
    cases (a != 0) <;> cases (b != 0) <;> cases (c != 0) <;> simp
  rcases e1 with h1 | ⟨h1, h2⟩ | ⟨h1, h2, h3⟩ | ⟨h1, h2, h3⟩
  · go_enter Try.func45, Try.ntmps45
    go_wp2
    refine wp_loop_rounds 1 ?_
    rw [rounds_succ]
    go_wp2
    go_ret
    exact ⟨ret_int (by simp at h1; simp [orI, h1]), rfl⟩
  · go_enter Try.func45, Try.ntmps45
    go_wp2
    refine wp_loop_rounds 2 ?_
    rw [rounds_succ]
    go_wp2
    rw [rounds_succ]
    go_wp2
    go_ret
    exact ⟨ret_int (by simp at h1 h2; simp [orI, h1, h2]), rfl⟩
  · go_enter Try.func45, Try.ntmps45
    go_wp2
    refine wp_loop_rounds 3 ?_
    rw [rounds_succ]
    go_wp2
    rw [rounds_succ]
    go_wp2
    rw [rounds_succ]
    go_wp2
    go_ret
    exact ⟨ret_int (by simp at h1 h2 h3; simp [orI, h1, h2]), rfl⟩
  · go_enter Try.func45, Try.ntmps45
    go_wp2
    refine wp_loop_rounds 4 ?_
    rw [rounds_succ]
    go_wp2
    rw [rounds_succ]
    go_wp2
    rw [rounds_succ]
    go_wp2
    rw [rounds_succ]
    go_wp2
    go_ret
    exact ⟨ret_int (by simp at h1 h2 h3; simp [orI, h1, h2, h3]), rfl⟩

set_option maxHeartbeats 1600000 in
theorem compare_any (a b c a' b' c' : Int) (w : World) :
    Calls Try.prog 37 #[.agg #[.int .i64 a, .int .i64 b, .int .i64 c], .agg #[.int .i64 a', .int .i64 b', .int .i64 c']] w fun e w' => e = .returned (.int .i64 (cmpP (a, b, c) (a', b', c'))) ∧ ∃ q os', w' = grow (w.drewN q) os' := by
  have k1 : Hid (∀ w', Calls Try.prog 46 #[.int .i64 a, .int .i64 a'] w' fun e w'' => e = .returned (.int .i64 (Lib.compareInt a a')) ∧ w'' = w') := Lib.hid fun w' => compareInt_any a a' w'
  have k2 : Hid (∀ w', Calls Try.prog 46 #[.int .i64 b, .int .i64 b'] w' fun e w'' => e = .returned (.int .i64 (Lib.compareInt b b')) ∧ w'' = w') := Lib.hid fun w' => compareInt_any b b' w'
  have k3 : Hid (∀ w', Calls Try.prog 46 #[.int .i64 c, .int .i64 c'] w' fun e w'' => e = .returned (.int .i64 (Lib.compareInt c c')) ∧ w'' = w') := Lib.hid fun w' => compareInt_any c c' w'
  unfold cmpP
  simp only
  generalize Lib.compareInt a a' = x at *
  generalize Lib.compareInt b b' = y at *
  generalize Lib.compareInt c c' = z at *
  go_enter Try.func37, Try.ntmps37
  go_wp2_with fail
  have hw2 : ∃ w2, w2 = (w.alloc (.cells #[.int .i64 a, .int .i64 b, .int .i64 c] 35)).alloc (.cells #[.int .i64 a', .int .i64 b', .int .i64 c'] 35) := ⟨_, rfl⟩
  obtain ⟨w2, hw2⟩ := hw2
  have h1 : Blk 0 w2 w.heap.size [.int .i64 a, .int .i64 b, .int .i64 c] := by rw [hw2]; exact (Blk.new 0 w _ _).more _
  have h2 : Blk 0 w2 (w.heap.size + 1) [.int .i64 a', .int .i64 b', .int .i64 c'] := by rw [hw2]; exact (Blk.new 0 (w.alloc _) _ _).at (by simp)
  rw [← hw2]
  have HW := Lib.hid hw2
  clear hw2
  generalize w.heap.size = B at *
  refine Ord.wp_chain [15, 16] (fun w' => Blk 0 w' B [.int .i64 a, .int .i64 b, .int .i64 c] ∧ Blk 0 w' (B + 1) [.int .i64 a', .int .i64 b', .int .i64 c']) (fun j w' => ∃ q, w' = (if j = 0 then w2 else w2.alloc (.cells #[.int .i64 x, .int .i64 y, .int .i64 z] 3)).drewN q) (by kernel_rfl) (by kernel_rfl) (by kernel_rfl) ⟨h1.drew, h2.drew⟩ ⟨1, rfl⟩ (fun hT => ?_)
  have hT9 := Lib.hid hT
  clear hT
  repeat (first
    | (refine Ord.ch_value (v := ?_) hT9.out (by decide) (by rfl) ?_ ?_; rotate_left; (focus (intro w5 hS; have r := hS.1.rule; have r2 := hS.2.rule; go_simp <;> with_reducible rfl)); (try simp only [Act.put, List.setIfInBounds_toArray, List.set_cons_zero, List.set_cons_succ]))
    | (refine Ord.ch_call (v := ?_) (f := ?_) (args := ?_) hT9.out (by decide) (by rfl) ?_ ?_ ?_; rotate_left 3; (focus (intro w5 hS; have r := hS.1.rule; have r2 := hS.2.rule; go_simp; constructor <;> with_reducible rfl)); (focus (intro w5 hS; (first
        | (with_reducible refine (k1.out _).mono ?_; rintro e w6 ⟨rfl, rfl⟩; constructor; with_reducible rfl; exact ⟨hS, fun _ h => h⟩)
        | (with_reducible refine (k2.out _).mono ?_; rintro e w6 ⟨rfl, rfl⟩; constructor; with_reducible rfl; exact ⟨hS, fun _ h => h⟩)
        | (with_reducible refine (k3.out _).mono ?_; rintro e w6 ⟨rfl, rfl⟩; constructor; with_reducible rfl; exact ⟨hS, fun _ h => h⟩)))); (try simp only [Act.put, List.setIfInBounds_toArray, List.set_cons_zero, List.set_cons_succ])))
  refine Ord.ch_turn (v := .slice (some ⟨w2.heap.size, 0, none⟩) 3 3) 0 hT9.out rfl (by decide) (Or.inl rfl) (by rfl) ?_ ?_
  · rintro w5 hC5 ⟨q, hq⟩
    rw [if_pos rfl] at hq
    subst hq
    go_simp
    exact ⟨by first | rfl | simp, ⟨hC5.1.more _, hC5.2.more _⟩, q, rfl⟩
  (try simp only [Act.put, List.setIfInBounds_toArray, List.set_cons_zero, List.set_cons_succ])
  refine Ord.ch_turn (v := .int .i64 (orI x y z)) 1 hT9.out rfl (by decide) (Or.inr ⟨15, rfl, by kernel_rfl⟩) (by rfl) ?_ ?_
  · rintro w5 hC5 ⟨q, hq⟩
    rw [if_neg (by omega)] at hq
    have hcell : ∀ i, w5.cell? ⟨w2.heap.size, i, none⟩ = [Value.int .i64 x, .int .i64 y, .int .i64 z][i]? := fun i => by rw [hq]; exact (Blk.new 0 w2 [Value.int .i64 x, .int .i64 y, .int .i64 z] _).rule i
    have HQ := Lib.hid hq
    clear hq
    go_simp
    simp only [Ord.LandsIn]
    refine (or_any x y z _ w5 hcell).mono ?_
    rintro e w6 ⟨rfl, rfl⟩
    exact ⟨rfl, hC5, q, HQ.out⟩
  (try simp only [Act.put, List.setIfInBounds_toArray, List.set_cons_zero, List.set_cons_succ])
  repeat (first
    | (refine Ord.ch_value (v := ?_) hT9.out (by decide) (by rfl) ?_ ?_; rotate_left; (focus (intro w5 hS; skip; go_simp <;> with_reducible rfl)); (try simp only [Act.put, List.setIfInBounds_toArray, List.set_cons_zero, List.set_cons_succ]))
    | (refine Ord.ch_off hT9.out (by decide) (by rfl) ?_; (try simp only [Act.put, List.setIfInBounds_toArray, List.set_cons_zero, List.set_cons_succ])))
  refine Ord.InText.nil fun w5 hS => ?_
  clear hT9
  obtain ⟨hC9, hA9⟩ := Ord.chain_end hS
  clear hS
  obtain ⟨q, hq⟩ := hA9
  go_wp2
  go_ret
  refine ⟨rfl, q, #[.cells #[.int .i64 a, .int .i64 b, .int .i64 c] 35, .cells #[.int .i64 a', .int .i64 b', .int .i64 c'] 35, .cells #[.int .i64 x, .int .i64 y, .int .i64 z] 3], ?_⟩
  rw [hq, HW.out]
  simp only [List.length_cons, List.length_nil, alloc_eq_grow, grow_grow]
  rfl

/-- A place's cells. -/
def encP (x : Plc) : List Value := [.int .i64 x.1, .int .i64 x.2.1, .int .i64 x.2.2]
theorem cmpLays (blk off size : Nat) (w : World) : CmpLays Try.prog 37 #[] encP 3 cmpP blk off size w := fun _ _ _ _ x y => compare_any x.1 x.2.1 x.2.2 y.1 y.2.1 y.2.2 _
theorem aggPlace (w : World) : (isAgg 35).run Try.prog w = .ok true w := by kernel_rfl
theorem sizePlace (w : World) : (Go.sizeOf 35).run Try.prog w = .ok 3 w := by kernel_rfl

/-- The places in their order. -/
def sortL (l : List Plc) : List Plc := l.mergeSort fun x y => !(ltOf cmpP) y x
theorem sort_any (blk off cap : Nat) (d : Array Plc) (w : World) (hH : HoldsK encP 3 w blk off d) (hblk : blk < w.heap.size) (hsz : d.size < 4611686018427387904) :
    Calls Try.prog 43 #[.slice (some ⟨blk, off, none⟩) d.size cap, .func (.func 37) #[] #[]] w fun e w' => e = .returned (.tuple #[]) ∧ ∃ n os, w' = sortWorldK encP 3 w blk off n (sortL d.toList).toArray os :=
  AnyQ.slices_SortFunc_total Try.sortPlaces 3 aggPlace sizePlace encP (fun _ => rfl) (fun x v hv => by simp [encP] at hv; rcases hv with rfl | rfl | rfl <;> rfl) cmpP swoP 37 #[] blk off cap d w
    (enters_of Try.func37 (by kernel_rfl) rfl) (cmpLays blk off d.size w) hH hblk hsz totP
theorem sort_none (p : Option Addr) (cap : Nat) (fv : Value) (w : World) : Calls Try.prog 43 #[.slice p 0 cap, fv] w fun e w' => e = .returned (.tuple #[]) ∧ w' = w :=
  AnyF.slices_SortFunc_none { Try.sortPlaces with } p cap fv w
end Go.Proofs.Ytnohfcikedhhgaa
