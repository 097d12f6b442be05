/- Contracts of layer 5: the place of a number. -/
import Derived.Test.YtfajhblmjdjkbaaDoorPlaceB
import Derived.Test.YtfajhblmjdjkbaaDoorOrd
namespace Go.Proofs.YtfajhblmjdjkbaaDoor
open Go.RowKit

set_option maxRecDepth 100000 in
set_option maxHeartbeats 1600000 in
theorem at_any (k s b h l n : Int) (w : World) : Calls Tryd.prog 15 #[.agg #[.int .i64 k, .int .i64 s, .int .i64 b, .int .i64 h, .int .i64 l], .int .i64 n] w fun e w' => e = .returned (.tuple #[.agg #[.int .i64 (atI k s b h l n).1, .int .i64 (atI k s b h l n).2.1, .int .i64 (atI k s b h l n).2.2], .bool (hasB k s b h l n)]) ∧ Below w.heap.size w w' := by
  have hF := ((Fr.start w).push w.heap.size rfl [.int .i64 k, .int .i64 s, .int .i64 b, .int .i64 h, .int .i64 l] 23).push (w.heap.size + 1) (by simp) [.int .i64 0, .int .i64 0, .int .i64 0] 25
  have r := hF.rule 0 rfl
  have q := hF.rule 1 rfl
  have f := hF.thaw 0 rfl (by omega)
  have c0 : Hid (∀ v, Calls Tryd.prog 16 #[.agg #[.int .i64 k, .int .i64 s, .int .i64 b, .int .i64 h, .int .i64 l]] v fun e w' => e = .returned (.int .i64 (countI k s b h l)) ∧ Below v.heap.size v w') := Lib.hid fun v => count_any k s b h l v
  cases hh : hasB k s b h l n
  · have hA : atI k s b h l n = (0, 0, 0) := by unfold atI; rw [hh]; rfl
    rw [hA]
    unfold hasB at hh
    rw [decide_eq_false_iff_not] at hh
    clear hA
    generalize countI k s b h l = N at *
    go_enter Tryd.func15, Tryd.ntmps15
    by_cases h0 : n < 0
    · clear c0
      go_wp2
      have hP := hF.put3 (by omega) (fun x hx => by simp at hx; subst hx; simp) (.int .i64 0) (.int .i64 0) (.int .i64 0)
      have q := hP.rule 0 rfl
      exact bodyPost_ret (v := .tuple #[.agg #[.int .i64 0, .int .i64 0, .int .i64 0], .bool false]) (by simp [results, Tryd.results15, go_sem]) rfl ⟨rfl, hF.below⟩
    · have h1 : N ≤ n := by omega
      have hd : decide (n < 0) = false := by simpa using h0
      go_wp2_with fail
      refine (c0.out _).mono ?_
      rintro e w1 ⟨rfl, hb⟩
      replace hF := hF.over hb
      clear hb r q f c0
      have r := hF.rule 0 rfl
      have q := hF.rule 1 rfl
      have f := hF.thaw 0 rfl (by omega)
      go_wp2
      have hP := hF.put3 (by omega) (fun x hx => by simp at hx; subst hx; simp) (.int .i64 0) (.int .i64 0) (.int .i64 0)
      have q := hP.rule 0 rfl
      exact bodyPost_ret (v := .tuple #[.agg #[.int .i64 0, .int .i64 0, .int .i64 0], .bool false]) (by simp [results, Tryd.results15, go_sem, q]) rfl ⟨rfl, hP.below⟩
  · have hA : atI k s b h l n = atP (rootsI k s b h l) (cellsI k s b h l) n := by unfold atI; rw [hh]; rfl
    rw [hA]
    unfold hasB at hh
    rw [decide_eq_true_iff] at hh
    have hc : chkI k s b h l = 0 := by
      by_cases hc : chkI k s b h l = 0
      · exact hc
      · have : countI k s b h l = 0 := by simp [countI, hc]
        omega
    obtain ⟨d, -, -, -⟩ := dim_of hc
    have hN : countI k s b h l = 3 + rootsI k s b h l + s * cellsI k s b h l := by unfold countI; rw [if_pos hc]
    have c1 : Hid (∀ v, Calls Tryd.prog 26 #[.agg #[.int .i64 k, .int .i64 s, .int .i64 b, .int .i64 h, .int .i64 l]] v fun e w' => e = .returned (.int .i64 (rootsI k s b h l)) ∧ Below v.heap.size v w') := Lib.hid fun v => roots_any k s b h l v
    have c2 : Hid (∀ v, Calls Tryd.prog 27 #[.agg #[.int .i64 k, .int .i64 s, .int .i64 b, .int .i64 h, .int .i64 l]] v fun e w' => e = .returned (.int .i64 (cellsI k s b h l)) ∧ Below v.heap.size v w') := Lib.hid fun v => cells_any k s b h l v
    have HD := Lib.hid d
    have HN := Lib.hid hN
    clear hA hc d hN
    obtain ⟨h0, h1⟩ := hh
    generalize countI k s b h l = N at *
    generalize rootsI k s b h l = R at *
    generalize cellsI k s b h l = C at *
    have hd : decide (n < 0) = false := by simp; omega
    go_enter Tryd.func15, Tryd.ntmps15
    go_wp2_with fail
    refine (c0.out _).mono ?_
    rintro e w1 ⟨rfl, hb⟩
    replace hF := hF.over hb
    clear hb r q f c0
    by_cases h3 : n < 3
    · clear c1 c2 HD HN
      have e3 : atP R C n = (1 + n, 0, 0) := by unfold atP; rw [if_pos h3, Int.add_comm]
      have E3 := Lib.hid e3
      clear e3
      have r := hF.rule 0 rfl
      have f := hF.thaw 0 rfl (by omega)
      go_wp2
      have hP := hF.put3 (by omega) (fun x hx => by simp at hx; subst hx; simp) (.int .i64 (1 + n)) (.int .i64 0) (.int .i64 0)
      have q := hP.rule 0 rfl
      exact bodyPost_ret (v := .tuple #[.agg #[.int .i64 (1 + n), .int .i64 0, .int .i64 0], .bool true]) (by simp [results, Tryd.results15, go_sem, q]) rfl ⟨by rw [E3.out], hP.below⟩
    · have hd3 : decide (n < 3) = false := by simp; omega
      go_wp2_with fail
      refine wp_text (S := Fr w [(w.heap.size + 1, [.int .i64 0, .int .i64 0, .int .i64 0]), (w.heap.size, [.int .i64 k, .int .i64 s, .int .i64 b, .int .i64 h, .int .i64 l])]) (by kernel_rfl) (by kernel_rfl) ?hS (fun hT => ?_)
      case hS => exact Fr.drew hF
      have hT9 := Lib.hid hT
      clear hT hF
      repeat (first
        | (refine text_value (v := ?_) hT9.out (by rfl) ?_ ?_; rotate_left; (focus (intro w5 hS; have r := hS.rule 1 rfl; go_simp <;> with_reducible rfl)); (try simp only [Act.put, List.setIfInBounds_toArray, List.set_cons_zero, List.set_cons_succ]))
        | (refine text_off hT9.out (by rfl) ?_; (try simp only [Act.put, List.setIfInBounds_toArray, List.set_cons_zero, List.set_cons_succ]))
        | (refine text_call (v := ?_) (f := ?_) (args := ?_) hT9.out (by rfl) ?_ ?_ ?_; rotate_left 3; (focus (intro w5 hS; have r := hS.rule 1 rfl; go_simp; constructor <;> with_reducible rfl)); (focus (intro w5 hS; (first | (with_reducible refine (c1.out _).mono ?_; rintro e w6 ⟨rfl, hb5⟩; constructor; with_reducible rfl; exact hS.over hb5) | (with_reducible refine (c2.out _).mono ?_; rintro e w6 ⟨rfl, hb5⟩; constructor; with_reducible rfl; exact hS.over hb5)))); (try simp only [Act.put, List.setIfInBounds_toArray, List.set_cons_zero, List.set_cons_succ])))
      refine InText.nil fun w5 hF => ?_
      clear hT9
      clear c1 c2
      by_cases hR : n < 3 + R
      · have E3 := Lib.hid (show atP R C n = (4, 0, n - 3) by unfold atP; rw [if_neg (by omega), if_pos hR])
        rw [w64 (n - 3) (by have := HD.out.r1; omega)]
        have hdR : decide (n - 3 < R) = true := by simp; omega
        have hlt : n - 3 < R := by omega
        clear HD HN
        go_wp2_with fail
        refine (root_any _ _).mono ?_
        rintro e w6 ⟨rfl, hb⟩
        replace hF := hF.over hb
        have f := hF.thaw 0 rfl (by omega)
        have r := hF.rule 0 rfl
        go_wp2
        have hP := hF.put3 (by omega) (fun x hx => by simp at hx; subst hx; simp) (.int .i64 4) (.int .i64 0) (.int .i64 (n - 3))
        have q := hP.rule 0 rfl
        exact bodyPost_ret (v := .tuple #[.agg #[.int .i64 4, .int .i64 0, .int .i64 (n - 3)], .bool true]) (by simp [results, Tryd.results15, go_sem, q]) rfl ⟨by rw [E3.out], hP.below⟩
      · have E3 := Lib.hid (show atP R C n = (5, (n - 3 - R) / C + 1, (n - 3 - R) % C) by unfold atP; rw [if_neg (by omega), if_neg hR])
        obtain ⟨W1, W2, W3⟩ := at_wrap HD.out (show 3 + R ≤ n by omega) (by have := HN.out; omega)
        have hC0 : ¬ C = 0 := by have := HD.out.c0; omega
        rw [w64 (n - 3) (by have := HD.out.r0; have := HD.out.r1; have := sc_in HD.out; have := HN.out; omega)] at W1 ⊢
        have hdR : decide (n - 3 < R) = false := by simp; omega
        have hlt : R ≤ n - 3 := by omega
        have HW1 := Lib.hid W1
        have HW2 := Lib.hid W2
        have HW3 := Lib.hid W3
        clear HD HN W1 W2 W3
        go_wp2_with fail
        rw [HW1.out]
        refine Ord.wp_chain [8] (fun _ => True) (fun j w' => Fr w [(w.heap.size + 1, if j = 0 then [.int .i64 0, .int .i64 0, .int .i64 0] else [.int .i64 5, .int .i64 ((n - 3 - R) / C + 1), .int .i64 ((n - 3 - R) % C)]), (w.heap.size, [.int .i64 k, .int .i64 s, .int .i64 b, .int .i64 h, .int .i64 l])] w') (by kernel_rfl) (by kernel_rfl) (by kernel_rfl) trivial hF.drew (fun hT => ?_)
        have hT9 := Lib.hid hT
        clear hT
        have c3 : Hid (∀ v, Calls Tryd.prog 21 #[.int .i64 (IntKind.i64.wrap (IntKind.i64.wrap ((n - 3 - R).tdiv C) + 1)), .int .i64 ((n - 3 - R).tmod C)] v fun e w' => e = .returned (.agg #[.int .i64 5, .int .i64 ((n - 3 - R) / C + 1), .int .i64 ((n - 3 - R) % C)]) ∧ Below v.heap.size v w') := Lib.hid fun v => by rw [wrap_i, wrap_i, HW2.out, HW3.out]; exact of_any _ _ _
        repeat (first
          | (refine Ord.ch_value (v := ?_) hT9.out (by decide) (by rfl) ?_ ?_; rotate_left; (focus (intro w5 hS; skip; go_simp <;> with_reducible rfl)); (try simp only [Act.put, List.setIfInBounds_toArray, List.set_cons_zero, List.set_cons_succ]))
          | (refine Ord.ch_off hT9.out (by decide) (by rfl) ?_; (try simp only [Act.put, List.setIfInBounds_toArray, List.set_cons_zero, List.set_cons_succ]))
          | (refine Ord.ch_call (v := ?_) (f := ?_) (args := ?_) hT9.out (by decide) (by rfl) ?_ ?_ ?_; rotate_left 3; (focus (intro w5 hS; skip; go_simp; constructor <;> with_reducible rfl)); (focus (intro w5 hS; (first | (with_reducible refine (c3.out _).mono ?_; rintro e w6 ⟨rfl, hb5⟩; constructor; with_reducible rfl; exact ⟨trivial, fun j h => h.over hb5⟩)))); (try simp only [Act.put, List.setIfInBounds_toArray, List.set_cons_zero, List.set_cons_succ])))
        refine Ord.ch_turn (v := undef) 0 hT9.out rfl (by decide) (Or.inl rfl) (by rfl) ?_ ?_
        · intro w5 _ hA5
          simp only [if_true] at hA5
          have r := hA5.rule 0 rfl
          have f := hA5.thaw 0 rfl (by omega)
          go_simp
          exact ⟨rfl, hA5.put3 (by omega) (fun x hx => by simp at hx; subst hx; simp) _ _ _⟩
        (try simp only [Act.put, List.setIfInBounds_toArray, List.set_cons_zero, List.set_cons_succ])
        repeat (first
          | (refine Ord.ch_value (v := ?_) hT9.out (by decide) (by rfl) ?_ ?_; rotate_left; (focus (intro w5 hS; skip; go_simp <;> with_reducible rfl)); (try simp only [Act.put, List.setIfInBounds_toArray, List.set_cons_zero, List.set_cons_succ]))
          | (refine Ord.ch_off hT9.out (by decide) (by rfl) ?_; (try simp only [Act.put, List.setIfInBounds_toArray, List.set_cons_zero, List.set_cons_succ])))
        refine Ord.InText.nil fun w5 hS => ?_
        clear hT9
        obtain ⟨hC9, hA9⟩ := Ord.chain_end hS
        clear hS
        clear hC9 c3
        simp only [List.length_cons, List.length_nil, Nat.zero_add, Nat.one_ne_zero, if_false] at hA9
        have q := hA9.rule 0 rfl
        go_wp2
        exact bodyPost_ret (v := .tuple #[.agg #[.int .i64 5, .int .i64 ((n - 3 - R) / C + 1), .int .i64 ((n - 3 - R) % C)], .bool true]) (by simp [results, Tryd.results15, go_sem, q]) rfl ⟨by rw [E3.out], hA9.below⟩
end Go.Proofs.YtfajhblmjdjkbaaDoor
