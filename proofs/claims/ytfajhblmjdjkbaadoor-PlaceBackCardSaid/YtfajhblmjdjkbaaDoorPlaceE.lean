/- Contracts of layer 5: the reference's next place. -/
import Derived.Test.YtfajhblmjdjkbaaDoorPlaceD
import Derived.Test.YtfajhblmjdjkbaaDoorTurn
namespace Go.Proofs.YtfajhblmjdjkbaaDoor
open Go.RowKit

set_option maxRecDepth 100000 in
set_option maxHeartbeats 3200000 in
theorem refAfter_any (k s b h l x y z : Int) (hp : placeB k s b h l x y z = true) (w : World) : Calls Tryd.prog 24 #[.agg #[.int .i64 k, .int .i64 s, .int .i64 b, .int .i64 h, .int .i64 l], .agg #[.int .i64 x, .int .i64 y, .int .i64 z]] w fun e w' => e = .returned (.tuple #[.agg #[.int .i64 (nextP (rootsI k s b h l) (cellsI k s b h l) x y z).1, .int .i64 (nextP (rootsI k s b h l) (cellsI k s b h l) x y z).2.1, .int .i64 (nextP (rootsI k s b h l) (cellsI k s b h l) x y z).2.2], .bool (moreB (cellsI k s b h l) s x y z)]) ∧ Below w.heap.size w w' := by
  have hF := (((Fr.start w).push w.heap.size rfl [.int .i64 k, .int .i64 s, .int .i64 b, .int .i64 h, .int .i64 l] 23).push (w.heap.size + 1) (by simp) [.int .i64 x, .int .i64 y, .int .i64 z] 25).push (w.heap.size + 1 + 1) (by simp) [.int .i64 0, .int .i64 0, .int .i64 0] 25
  have hc : chkI k s b h l = 0 := by
    by_cases hc : chkI k s b h l = 0
    · exact hc
    · rw [(placeB_no hc).1] at hp; cases hp
  obtain ⟨d, hC, h0, h1⟩ := dim_of hc
  rw [placeB_ok hc, isB_iff] at hp
  have c1 : Hid (∀ v, Calls Tryd.prog 14 #[.agg #[.int .i64 k, .int .i64 s, .int .i64 b, .int .i64 h, .int .i64 l]] v fun e w' => e = .returned (.int .i64 (rootsI k s b h l)) ∧ Below v.heap.size v w') := Lib.hid fun v => refRoots_any k s b h l v
  clear hc
  generalize rootsI k s b h l = R at *
  rw [hC] at hp d ⊢
  clear hC
  have hne : ∀ p ∈ [(w.heap.size + 1, [Value.int .i64 x, .int .i64 y, .int .i64 z]), (w.heap.size, [Value.int .i64 k, .int .i64 s, .int .i64 b, .int .i64 h, .int .i64 l])], p.1 ≠ w.heap.size + 1 + 1 := by simp; omega
  have hle : w.heap.size ≤ w.heap.size + 1 + 1 := by omega
  have r := hF.rule 0 rfl
  have r1 := hF.rule 1 rfl
  have r2 := hF.rule 2 rfl
  rcases hp with ⟨h2, h3, rfl, rfl⟩ | ⟨rfl, rfl, h2, h3⟩ | ⟨rfl, h2, h3, h4, h5⟩
  · clear c1 d
    by_cases hx : x < 3
    · have hd : decide (x < 3) = true := by simpa using hx
      have hm : moreB (7 + h) s x 0 0 = true := by unfold moreB; rw [decide_eq_true_iff]; omega
      have hn : nextP R (7 + h) x 0 0 = (x + 1, 0, 0) := by unfold nextP; rw [if_pos hx]
      have HM := Lib.hid hm
      have HN := Lib.hid hn
      clear hm hn
      go_enter Tryd.func24, Tryd.ntmps24
      go_wp2
      exact bodyPost_ret (v := .tuple #[.agg #[.int .i64 (x + 1), .int .i64 0, .int .i64 0], .bool true]) (by simp [results, Tryd.results24, go_sem]) rfl ⟨by rw [HN.out, HM.out], (((Below.refl _ _).alloc (Nat.le_refl _) _).alloc (by simp) _).alloc (by simp; omega) _⟩
    · obtain rfl : x = 3 := by omega
      have HM := Lib.hid (show moreB (7 + h) s 3 0 0 = true by unfold moreB; rw [decide_eq_true_iff]; omega)
      go_enter Tryd.func24, Tryd.ntmps24
      go_wp2
      exact bodyPost_ret (v := .tuple #[.agg #[.int .i64 4, .int .i64 0, .int .i64 0], .bool true]) (by simp [results, Tryd.results24, go_sem]) rfl ⟨by rw [HM.out]; rfl, (((Below.refl _ _).alloc (Nat.le_refl _) _).alloc (by simp) _).alloc (by simp; omega) _⟩
  · have HM := Lib.hid (show moreB (7 + h) s 4 0 z = true by unfold moreB; rw [decide_eq_true_iff]; omega)
    have hR : IntKind.i64.wrap (R - 1) = R - 1 := by rw [wrap_i]; exact w64 _ (by have := d.r0; have := d.r1; omega)
    have hz1 : z ≤ 64 := by have := d.r1; omega
    have HR := Lib.hid hR
    clear hR d
    go_enter Tryd.func24, Tryd.ntmps24
    go_wp2_with fail
    clear r r1 r2
    refine wp_text (S := Fr w [(w.heap.size + 1 + 1, [.int .i64 0, .int .i64 0, .int .i64 0]), (w.heap.size + 1, [.int .i64 4, .int .i64 0, .int .i64 z]), (w.heap.size, [.int .i64 k, .int .i64 s, .int .i64 b, .int .i64 h, .int .i64 l])]) (by kernel_rfl) (by kernel_rfl) ?hS (fun hT => ?_)
    case hS => exact Fr.drew hF
    have hT9 := Lib.hid hT
    clear hT hF
    repeat (first
      | (refine text_value (v := ?_) hT9.out (by rfl) ?_ ?_; rotate_left; (focus (intro w5 hS; have r1 := hS.rule 1 rfl; have r2 := hS.rule 2 rfl; go_simp <;> with_reducible rfl)); (try simp only [Act.put, List.setIfInBounds_toArray, List.set_cons_zero, List.set_cons_succ]))
      | (refine text_off hT9.out (by rfl) ?_; (try simp only [Act.put, List.setIfInBounds_toArray, List.set_cons_zero, List.set_cons_succ]))
      | (refine text_call (v := ?_) (f := ?_) (args := ?_) hT9.out (by rfl) ?_ ?_ ?_; rotate_left 3; (focus (intro w5 hS; have r1 := hS.rule 1 rfl; have r2 := hS.rule 2 rfl; go_simp; constructor <;> with_reducible rfl)); (focus (intro w5 hS; (first | (with_reducible refine (c1.out _).mono ?_; rintro e w6 ⟨rfl, hb5⟩; constructor; with_reducible rfl; exact hS.over hb5)))); (try simp only [Act.put, List.setIfInBounds_toArray, List.set_cons_zero, List.set_cons_succ])))
    refine InText.nil fun w5 hF => ?_
    clear hT9
    have r := hF.rule 0 rfl
    have r1 := hF.rule 1 rfl
    have r2 := hF.rule 2 rfl
    have f := hF.thaw 0 rfl hle
    clear c1
    by_cases hz : z < R - 1
    · have HN := Lib.hid (show nextP R (7 + h) 4 0 z = (4, 0, z + 1) by unfold nextP; rw [if_neg (by omega), if_neg (by omega), if_pos rfl, if_pos hz])
      have hd : decide (z < IntKind.i64.wrap (R - 1)) = true := by rw [HR.out]; simpa using hz
      have hlt : z < IntKind.i64.wrap (R - 1) := by rw [HR.out]; exact hz
      clear HR
      go_wp2
      have hP := hF.put3 hle hne (.int .i64 4) (.int .i64 0) (.int .i64 (z + 1))
      have q := hP.rule 0 rfl
      exact bodyPost_ret (v := .tuple #[.agg #[.int .i64 4, .int .i64 0, .int .i64 (z + 1)], .bool true]) (by simp [results, Tryd.results24, go_sem, q]) rfl ⟨by rw [HN.out, HM.out], hP.below⟩
    · have HN := Lib.hid (show nextP R (7 + h) 4 0 z = (5, 1, 0) by unfold nextP; rw [if_neg (by omega), if_neg (by omega), if_pos rfl, if_neg hz])
      have hd : decide (z < IntKind.i64.wrap (R - 1)) = false := by rw [HR.out]; simpa using hz
      have hlt : ¬ z < IntKind.i64.wrap (R - 1) := by rw [HR.out]; exact hz
      clear HR
      go_wp2
      have hP := hF.put3 hle hne (.int .i64 5) (.int .i64 1) (.int .i64 0)
      have q := hP.rule 0 rfl
      exact bodyPost_ret (v := .tuple #[.agg #[.int .i64 5, .int .i64 1, .int .i64 0], .bool true]) (by simp [results, Tryd.results24, go_sem, q]) rfl ⟨by rw [HN.out, HM.out], hP.below⟩
  · have hs1 := d.s1
    clear c1 d
    by_cases hz : z < 6 + h
    · have HN := Lib.hid (show nextP R (7 + h) 5 y z = (5, y, z + 1) by unfold nextP; rw [if_neg (by omega), if_neg (by omega), if_neg (by omega), if_pos (by omega)])
      have HM := Lib.hid (show moreB (7 + h) s 5 y z = true by unfold moreB; rw [decide_eq_true_iff]; omega)
      go_enter Tryd.func24, Tryd.ntmps24
      go_wp2_with fail
      clear r r1 r2
      refine wp_text (S := Fr w [(w.heap.size + 1 + 1, [.int .i64 0, .int .i64 0, .int .i64 0]), (w.heap.size + 1, [.int .i64 5, .int .i64 y, .int .i64 z]), (w.heap.size, [.int .i64 k, .int .i64 s, .int .i64 b, .int .i64 h, .int .i64 l])]) (by kernel_rfl) (by kernel_rfl) ?hS (fun hT => ?_)
      case hS => exact Fr.drew hF
      have hT9 := Lib.hid hT
      clear hT hF
      repeat (first
        | (refine text_value (v := ?_) hT9.out (by rfl) ?_ ?_; rotate_left; (focus (intro w5 hS; have r1 := hS.rule 1 rfl; have r2 := hS.rule 2 rfl; go_simp <;> with_reducible rfl)); (try simp only [Act.put, List.setIfInBounds_toArray, List.set_cons_zero, List.set_cons_succ]))
        | (refine text_off hT9.out (by rfl) ?_; (try simp only [Act.put, List.setIfInBounds_toArray, List.set_cons_zero, List.set_cons_succ]))
        | (refine text_call (v := ?_) (f := ?_) (args := ?_) hT9.out (by rfl) ?_ ?_ ?_; rotate_left 3; (focus (intro w5 hS; have r1 := hS.rule 1 rfl; have r2 := hS.rule 2 rfl; go_simp; constructor <;> with_reducible rfl)); (focus (intro w5 hS; (first | fail))); (try simp only [Act.put, List.setIfInBounds_toArray, List.set_cons_zero, List.set_cons_succ])))
      refine InText.nil fun w5 hF => ?_
      clear hT9
      have r := hF.rule 0 rfl
      have r1 := hF.rule 1 rfl
      have r2 := hF.rule 2 rfl
      have f := hF.thaw 0 rfl hle
      go_wp2
      have hP := hF.put3 hle hne (.int .i64 5) (.int .i64 y) (.int .i64 (z + 1))
      have q := hP.rule 0 rfl
      exact bodyPost_ret (v := .tuple #[.agg #[.int .i64 5, .int .i64 y, .int .i64 (z + 1)], .bool true]) (by simp [results, Tryd.results24, go_sem, q]) rfl ⟨by rw [HN.out, HM.out], hP.below⟩
    · have HN := Lib.hid (show nextP R (7 + h) 5 y z = (5, y + 1, 0) by unfold nextP; rw [if_neg (by omega), if_neg (by omega), if_neg (by omega), if_neg (by omega)])
      have HM := Lib.hid (show moreB (7 + h) s 5 y z = decide (y < s) by unfold moreB; rw [Bool.eq_iff_iff, decide_eq_true_iff, decide_eq_true_iff]; omega)
      have HW := Lib.hid (show IntKind.i64.wrap (y + 1) = y + 1 by rw [wrap_i]; exact w64 _ (by omega))
      go_enter Tryd.func24, Tryd.ntmps24
      go_wp2_with fail
      clear r r1 r2
      refine wp_text (S := Fr w [(w.heap.size + 1 + 1, [.int .i64 0, .int .i64 0, .int .i64 0]), (w.heap.size + 1, [.int .i64 5, .int .i64 y, .int .i64 z]), (w.heap.size, [.int .i64 k, .int .i64 s, .int .i64 b, .int .i64 h, .int .i64 l])]) (by kernel_rfl) (by kernel_rfl) ?hS (fun hT => ?_)
      case hS => exact Fr.drew hF
      have hT9 := Lib.hid hT
      clear hT hF
      repeat (first
        | (refine text_value (v := ?_) hT9.out (by rfl) ?_ ?_; rotate_left; (focus (intro w5 hS; have r1 := hS.rule 1 rfl; have r2 := hS.rule 2 rfl; go_simp <;> with_reducible rfl)); (try simp only [Act.put, List.setIfInBounds_toArray, List.set_cons_zero, List.set_cons_succ]))
        | (refine text_off hT9.out (by rfl) ?_; (try simp only [Act.put, List.setIfInBounds_toArray, List.set_cons_zero, List.set_cons_succ]))
        | (refine text_call (v := ?_) (f := ?_) (args := ?_) hT9.out (by rfl) ?_ ?_ ?_; rotate_left 3; (focus (intro w5 hS; have r1 := hS.rule 1 rfl; have r2 := hS.rule 2 rfl; go_simp; constructor <;> with_reducible rfl)); (focus (intro w5 hS; (first | fail))); (try simp only [Act.put, List.setIfInBounds_toArray, List.set_cons_zero, List.set_cons_succ])))
      refine InText.nil fun w5 hF => ?_
      clear hT9
      have r1 := hF.rule 1 rfl
      have r2 := hF.rule 2 rfl
      go_wp2_with fail
      clear r1 r2
      refine Ord.wp_chain [9] (fun w' => Blk 0 w' (w.heap.size + 1) [.int .i64 5, .int .i64 y, .int .i64 z] ∧ Blk 0 w' w.heap.size [.int .i64 k, .int .i64 s, .int .i64 b, .int .i64 h, .int .i64 l]) (fun j w' => Fr w [(w.heap.size + 1 + 1, if j = 0 then [.int .i64 0, .int .i64 0, .int .i64 0] else [.int .i64 5, .int .i64 (y + 1), .int .i64 0]), (w.heap.size + 1, [.int .i64 5, .int .i64 y, .int .i64 z]), (w.heap.size, [.int .i64 k, .int .i64 s, .int .i64 b, .int .i64 h, .int .i64 l])] w') (by kernel_rfl) (by kernel_rfl) (by kernel_rfl) ⟨hF.drew.blk 1 rfl (by omega), hF.drew.blk 2 rfl (by omega)⟩ hF.drew (fun hT => ?_)
      have hT9 := Lib.hid hT
      clear hT
      repeat (first
        | (refine Ord.ch_value (v := ?_) hT9.out (by decide) (by rfl) ?_ ?_; rotate_left; (focus (intro w5 hS; have r1 := Blk.rule hS.1; have r2 := Blk.rule hS.2; go_simp <;> with_reducible rfl)); (try simp only [Act.put, List.setIfInBounds_toArray, List.set_cons_zero, List.set_cons_succ]))
        | (refine Ord.ch_off hT9.out (by decide) (by rfl) ?_; (try simp only [Act.put, List.setIfInBounds_toArray, List.set_cons_zero, List.set_cons_succ])))
      refine Ord.ch_turn (v := undef) 0 hT9.out rfl (by decide) (Or.inl rfl) (by rfl) ?_ ?_
      · intro w5 hC5 hA5
        simp only [if_true] at hA5
        have r := hA5.rule 0 rfl
        have f := hA5.thaw 0 rfl (by omega)
        have hP := hA5.put3 (by omega) hne (.int .i64 5) (.int .i64 (y + 1)) (.int .i64 0)
        have hX := hP.blk 1 rfl (by omega)
        have hY := hP.blk 2 rfl (by omega)
        clear hC5
        go_simp
        rw [HW.out]
        exact ⟨rfl, ⟨hX, hY⟩, hP⟩
      (try simp only [Act.put, List.setIfInBounds_toArray, List.set_cons_zero, List.set_cons_succ])
      repeat (first
        | (refine Ord.ch_value (v := ?_) hT9.out (by decide) (by rfl) ?_ ?_; rotate_left; (focus (intro w5 hS; have r1 := Blk.rule hS.1; have r2 := Blk.rule hS.2; go_simp <;> with_reducible rfl)); (try simp only [Act.put, List.setIfInBounds_toArray, List.set_cons_zero, List.set_cons_succ]))
        | (refine Ord.ch_off hT9.out (by decide) (by rfl) ?_; (try simp only [Act.put, List.setIfInBounds_toArray, List.set_cons_zero, List.set_cons_succ])))
      refine Ord.InText.nil fun w5 hS => ?_
      clear hT9
      obtain ⟨hC9, hA9⟩ := Ord.chain_end hS
      clear hS
      clear hC9
      simp only [List.length_cons, List.length_nil, Nat.zero_add, Nat.one_ne_zero, if_false] at hA9
      have q := hA9.rule 0 rfl
      go_wp2
      exact bodyPost_ret (v := .tuple #[.agg #[.int .i64 5, .int .i64 (y + 1), .int .i64 0], .bool (decide (y < s))]) (by simp [results, Tryd.results24, go_sem, q]) rfl ⟨by rw [HN.out, HM.out], hA9.below⟩
end Go.Proofs.YtfajhblmjdjkbaaDoor
