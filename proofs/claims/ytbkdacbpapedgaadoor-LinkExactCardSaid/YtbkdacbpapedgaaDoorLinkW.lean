/- Layer 2: the anchors of the statements. -/
import Derived.Test.YtbkdacbpapedgaaDoorLinkR
import Derived.Test.YtbkdacbpapedgaaDoorSeq
import Derived.Lib.SmallJoins
namespace Go.Proofs.YtbkdacbpapedgaaDoor
open Go.RowKit

theorem aw_nums : wordI true 1 2 = 9223373136366403586 ∧ wordI false 1 2 = 1099511627778 ∧ wordI false 1 1099511627775 = 2199023255551 ∧ wordI false 3 3 = 3298534883331 ∧ nextW 1099511627778 3 = 3298534883331 ∧ nextE 1099511627778 3 = 0 ∧
    nextW 2199023255551 3 = 0 ∧ nextE 2199023255551 3 = 7 ∧ isL 1 2 = true ∧ markB 9223373136366403586 = true ∧ slotI 9223373136366403586 = 1 ∧ verI 9223373136366403586 = 2 ∧ cmpI (verI 3298534883331) (verI 9223373136366403586) = 1 := by decide +kernel

theorem aw_word (w : World) (hg : Glo w) : Calls Tryd.prog 13 #[.agg #[.bool true, .int .i64 1, .int .i64 2]] w fun e w' => e = .returned (.int .u64 9223373136366403586) ∧ Below w.heap.size w w' := by
  have := word_any true 1 2 w hg
  rwa [aw_nums.1] at this
theorem aw_to12 (w : World) (hg : Glo w) : Calls Tryd.prog 18 #[.int .i64 1, .int .i64 2] w fun e w' => e = .returned (.int .u64 1099511627778) ∧ Below w.heap.size w w' := by
  have := to_any 1 2 w hg
  rwa [aw_nums.2.1] at this
theorem aw_toMax (w : World) (hg : Glo w) : Calls Tryd.prog 18 #[.int .i64 1, .int .i64 1099511627775] w fun e w' => e = .returned (.int .u64 2199023255551) ∧ Below w.heap.size w w' := by
  have := to_any 1 1099511627775 w hg
  rwa [aw_nums.2.2.1] at this
theorem aw_to33 (w : World) (hg : Glo w) : Calls Tryd.prog 18 #[.int .i64 3, .int .i64 3] w fun e w' => e = .returned (.int .u64 3298534883331) ∧ Below w.heap.size w w' := by
  have := to_any 3 3 w hg
  rwa [aw_nums.2.2.2.1] at this
theorem aw_next (w : World) (hg : Glo w) : Calls Tryd.prog 20 #[.int .u64 1099511627778, .int .i64 3] w fun e w' => e = .returned (.tuple #[.int .u64 3298534883331, .int .i64 0]) ∧ Below w.heap.size w w' := by
  have := next_any 1099511627778 3 w hg (by decide) (by decide)
  rwa [aw_nums.2.2.2.2.1, aw_nums.2.2.2.2.2.1] at this
theorem aw_nextE (w : World) (hg : Glo w) : Calls Tryd.prog 20 #[.int .u64 2199023255551, .int .i64 3] w fun e w' => e = .returned (.tuple #[.int .u64 0, .int .i64 7]) ∧ Below w.heap.size w w' := by
  have := next_any 2199023255551 3 w hg (by decide) (by decide)
  rwa [aw_nums.2.2.2.2.2.2.1, aw_nums.2.2.2.2.2.2.2.1] at this
theorem aw_is12 (w : World) : Calls Tryd.prog 11 #[.agg #[.bool true, .int .i64 1, .int .i64 2]] w fun e w' => e = .returned (.bool true) ∧ Below w.heap.size w w' := by
  have := linkIs_any true 1 2 w
  rwa [aw_nums.2.2.2.2.2.2.2.2.1] at this
theorem aw_of (w : World) (hg : Glo w) : Calls Tryd.prog 9 #[.int .u64 9223373136366403586] w fun e w' => e = .returned (.agg #[.bool true, .int .i64 1, .int .i64 2]) ∧ Below w.heap.size w w' := by
  have := of_any 9223373136366403586 w hg (by decide) (by decide)
  rwa [aw_nums.2.2.2.2.2.2.2.2.2.1, aw_nums.2.2.2.2.2.2.2.2.2.2.1, aw_nums.2.2.2.2.2.2.2.2.2.2.2.1] at this
theorem aw_newer (w : World) (hg : Glo w) : Calls Tryd.prog 21 #[.int .u64 3298534883331, .int .u64 9223373136366403586] w fun e w' => e = .returned (.int .i64 1) ∧ Below w.heap.size w w' := by
  have := newer_any 3298534883331 9223373136366403586 w hg (by decide) (by decide) (by decide) (by decide)
  rwa [aw_nums.2.2.2.2.2.2.2.2.2.2.2.2] at this

/-- A block of three cells, and the variables, over a call. -/
theorem hold3g {n : Nat} {w w1 w2 : World} {x y z : Value} (hb : Below w1.heap.size w1 w2) (c0 : w1.cell? ⟨n, 0, none⟩ = some x) (c1 : w1.cell? ⟨n, 1, none⟩ = some y) (c2 : w1.cell? ⟨n, 2, none⟩ = some z) (hB : Below n w w1) (hs : n < w1.heap.size) (hg : Glo w1) :
    w2.cell? ⟨n, 0, none⟩ = some x ∧ w2.cell? ⟨n, 1, none⟩ = some y ∧ w2.cell? ⟨n, 2, none⟩ = some z ∧ Below n w w2 ∧ n < w2.heap.size ∧ Glo w2 := by
  obtain ⟨a, b, c, d, e⟩ := hold3 c0 c1 c2 hB hs hb
  exact ⟨a, b, c, d, e, hg.keep' hb⟩

set_option maxRecDepth 100000 in
set_option maxHeartbeats 3200000 in
theorem awake2 (w : World) (hg : Glo w) :
    Calls Tryd.prog 7 #[] w fun e w' => e = .returned (.bool true) ∧ Below w.heap.size w w' := by
  have hA := hg.alloc (.cells #[.bool true, .int .i64 1, .int .i64 2] 23)
  clear hg
  go_enter Tryd.func7, Tryd.ntmps7
  go_wp2_with fail
  refine (aw_to12 _ hA).mono ?_
  rintro e w1 ⟨rfl, hb⟩
  obtain ⟨c0, c1, c2, hB, hs, hG⟩ := hold3g (n := w.heap.size) (w := w) (x := .bool true) (y := .int .i64 1) (z := .int .i64 2) hb (by simp) (by simp) (by simp) ((Below.refl _ _).alloc (Nat.le_refl _) _) (by simp) hA
  clear hb hA
  go_wp2_with fail
  refine (aw_next _ hG).mono ?_
  rintro e w2 ⟨rfl, hb⟩
  obtain ⟨d0, d1, d2, hB2, hs2, hG2⟩ := hold3g hb c0 c1 c2 hB hs hG
  clear hb c0 c1 c2 hB hs hG
  go_wp2_with fail
  refine (aw_toMax _ hG2).mono ?_
  rintro e w3 ⟨rfl, hb⟩
  obtain ⟨c0, c1, c2, hB, hs, hG⟩ := hold3g hb d0 d1 d2 hB2 hs2 hG2
  clear hb d0 d1 d2 hB2 hs2 hG2
  go_wp2_with fail
  refine (aw_nextE _ hG).mono ?_
  rintro e w4 ⟨rfl, hb⟩
  obtain ⟨d0, d1, d2, hB2, hs2, hG2⟩ := hold3g hb c0 c1 c2 hB hs hG
  clear hb c0 c1 c2 hB hs hG
  go_wp2_with fail
  refine wp_text (S := fun w' => w'.cell? ⟨w.heap.size, 0, none⟩ = some (.bool true) ∧ w'.cell? ⟨w.heap.size, 1, none⟩ = some (.int .i64 1) ∧ w'.cell? ⟨w.heap.size, 2, none⟩ = some (.int .i64 2) ∧ Below w.heap.size w w' ∧ w.heap.size < w'.heap.size ∧ Glo w') (by kernel_rfl) (by kernel_rfl) ?hS (fun hT => ?_)
  case hS => exact ⟨d0, d1, d2, hB2.drew, hs2, hG2⟩
  have HT := Lib.hid hT
  clear hT d0 d1 d2 hB2 hs2 hG2
  repeat (first
    | (refine text_value (v := ?_) HT.out (by rfl) ?_ ?_; rotate_left; (focus (intro w5 hS; go_simp <;> with_reducible rfl)); (try simp only [Act.put, List.setIfInBounds_toArray, List.set_cons_zero, List.set_cons_succ]))
    | (refine text_off HT.out (by rfl) ?_; (try simp only [Act.put, List.setIfInBounds_toArray, List.set_cons_zero, List.set_cons_succ]))
    | (refine text_call (v := ?_) (f := ?_) (args := ?_) HT.out (by rfl) ?_ ?_ ?_; rotate_left 3; (focus (intro w5 hS; go_simp; constructor <;> with_reducible rfl)); (focus (intro w5 hS; obtain ⟨s0, s1, s2, s3, s4, s5⟩ := hS; (first | refine (aw_is12 _).mono ?_ | refine (aw_word _ s5).mono ?_ | refine (aw_to12 _ s5).mono ?_ | refine (aw_of _ s5).mono ?_ | refine (aw_to33 _ s5).mono ?_ | refine (aw_newer _ s5).mono ?_); rintro e w6 ⟨rfl, hb5⟩; constructor; with_reducible rfl; exact hold3g hb5 s0 s1 s2 s3 s4 s5)); (try simp only [Act.put, List.setIfInBounds_toArray, List.set_cons_zero, List.set_cons_succ])))
  refine InText.nil fun w5 hS => ?_
  obtain ⟨-, -, -, hB, -, -⟩ := hS
  go_wp2_with fail
  go_ret
  exact ⟨rfl, hB⟩
end Go.Proofs.YtbkdacbpapedgaaDoor
