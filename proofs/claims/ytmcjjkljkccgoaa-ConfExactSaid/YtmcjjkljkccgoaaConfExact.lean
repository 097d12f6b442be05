/- ConfExact: of every structure, raw ones too, and every op, the errors, how many roots and cells there are, and what is within a number of steps, are the document's: so the law answers true, for every input. -/
import Derived.Test.YtmcjjkljkccgoaaConfW
import Derived.Test.YtmcjjkljkccgoaaConfR
import Derived.Test.YtmcjjkljkccgoaaLaw
import Derived.Test.YtmcjjkljkccgoaaOpenFlat
import Derived.Test.YtmcjjkljkccgoaaRows
namespace Go.Proofs.Ytmcjjkljkccgoaa.confExact
open Go.ChangeShapes Go.WideShapes Go.ChangeAt Go.RowKit

set_option maxRecDepth 100000 in
set_option maxHeartbeats 3200000 in
theorem walk (k s b h l o x v y t : Int) (w : World) :
    Calls Try.prog 3 #[.agg #[.int .i64 k, .int .i64 s, .int .i64 b, .int .i64 h, .int .i64 l], .agg #[.int .i64 o, .int .u64 x, .int .u64 v, .int .i64 y], .int .i64 t] w fun e w' => e = .returned (.bool true) ∧ Below w.heap.size w w' := by
  have hF := ((Fr.start w).push w.heap.size rfl [.int .i64 k, .int .i64 s, .int .i64 b, .int .i64 h, .int .i64 l] 23).push (w.heap.size + 1) (by simp) [.int .i64 o, .int .u64 x, .int .u64 v, .int .i64 y] 26
  have r := hF.rule 0 rfl
  have q := hF.rule 1 rfl
  have c1 : Hid (∀ w', Calls Try.prog 7 #[.agg #[.int .i64 k, .int .i64 s, .int .i64 b, .int .i64 h, .int .i64 l]] w' fun e w'' => e = .returned (.int .i64 (chkI k s b h l)) ∧ Below w'.heap.size w' w'') := Lib.hid fun w' => refCheck_any k s b h l w'
  have c2 : Hid (∀ w', Calls Try.prog 8 #[.agg #[.int .i64 k, .int .i64 s, .int .i64 b, .int .i64 h, .int .i64 l]] w' fun e w'' => e = .returned (.int .i64 (chkI k s b h l)) ∧ Below w'.heap.size w' w'') := Lib.hid fun w' => check_any k s b h l w'
  have c3 : Hid (∀ w', Calls Try.prog 9 #[.agg #[.int .i64 k, .int .i64 s, .int .i64 b, .int .i64 h, .int .i64 l]] w' fun e w'' => e = .returned (.int .i64 (rootsI k s b h l)) ∧ Below w'.heap.size w' w'') := Lib.hid fun w' => roots_any k s b h l w'
  have c4 : Hid (∀ w', Calls Try.prog 10 #[.agg #[.int .i64 k, .int .i64 s, .int .i64 b, .int .i64 h, .int .i64 l]] w' fun e w'' => e = .returned (.int .i64 (rootsI k s b h l)) ∧ Below w'.heap.size w' w'') := Lib.hid fun w' => refRoots_any k s b h l w'
  have c5 : Hid (∀ w', Calls Try.prog 11 #[.agg #[.int .i64 k, .int .i64 s, .int .i64 b, .int .i64 h, .int .i64 l], .agg #[.int .i64 o, .int .u64 x, .int .u64 v, .int .i64 y]] w' fun e w'' => e = .returned (.int .i64 (opI k s b h l o x v y)) ∧ Below w'.heap.size w' w'') := Lib.hid fun w' => isOp_any k s b h l o x v y w'
  have c6 : Hid (∀ w', Calls Try.prog 12 #[.agg #[.int .i64 k, .int .i64 s, .int .i64 b, .int .i64 h, .int .i64 l], .agg #[.int .i64 o, .int .u64 x, .int .u64 v, .int .i64 y]] w' fun e w'' => e = .returned (.int .i64 (opI k s b h l o x v y)) ∧ Below w'.heap.size w' w'') := Lib.hid fun w' => refOp_any k s b h l o x v y w'
  have c7 : Hid (∀ w', Calls Try.prog 13 #[.agg #[.int .i64 k, .int .i64 s, .int .i64 b, .int .i64 h, .int .i64 l], .int .i64 t] w' fun e w'' => e = .returned (.tuple #[.int .i64 (winI k s b h l t), .bool (winB k s b h l t)]) ∧ Below w'.heap.size w' w'') := Lib.hid fun w' => window_any k s b h l t w'
  have c8 : Hid (∀ w', Calls Try.prog 14 #[.agg #[.int .i64 k, .int .i64 s, .int .i64 b, .int .i64 h, .int .i64 l]] w' fun e w'' => e = .returned (.int .i64 (cellsI k s b h l)) ∧ Below w'.heap.size w' w'') := Lib.hid fun w' => cells_any k s b h l w'
  have c9 : Hid (∀ w', Calls Try.prog 15 #[.agg #[.int .i64 k, .int .i64 s, .int .i64 b, .int .i64 h, .int .i64 l]] w' fun e w'' => e = .returned (.int .i64 (aloneI k s b h l)) ∧ Below w'.heap.size w' w'') := Lib.hid fun w' => alone_any k s b h l w'
  have hno : Hid (chkI k s b h l ≠ 0 → cellsI k s b h l = 0 ∧ aloneI k s b h l = 0 ∧ winI k s b h l t = 0 ∧ winB k s b h l t = false) := Lib.hid fun hc => by simp [cellsI, aloneI, winI, winB, hc]
  have hyes : Hid (chkI k s b h l = 0 → cellsI k s b h l = IntKind.i64.wrap (7 + h) ∧ aloneI k s b h l = IntKind.i64.wrap (IntKind.i64.wrap (64 * IntKind.i64.wrap (s + 4)) * IntKind.i64.wrap (h + 1))) := Lib.hid fun hc => by
    have hy := chk_yes hc
    simp only [wrap_i, cellsI, aloneI, hc, if_true]
    exact ⟨(cell_wrap (by omega)).symm, (alone_wrap (by omega) (by omega)).symm⟩
  have hout : Hid (¬ (1 ≤ t ∧ t ≤ 64) → winI k s b h l t = 0 ∧ winB k s b h l t = false) := Lib.hid fun ht => by
    have : inB t 1 64 = false := by simp [inB]; omega
    simp [winI, winB, this]
  have hin : Hid (chkI k s b h l = 0 → 1 ≤ t ∧ t ≤ 64 → winB k s b h l t = true ∧ winI k s b h l t = wrap64 (wrap64 (wrap64 (wrap64 (wrap64 (wrap64 (64 * wrap64 (t + 1)) * wrap64 (t + 1)) * wrap64 (t + 1)) * wrap64 (s + 2)) * wrap64 (h + 1)) * wrap64 (h + 1))) := Lib.hid fun hc ht => by
    have hy := chk_yes hc
    rw [win_wrap' (by omega) (by omega) ht]
    have h1 : winB k s b h l t = true := by simp [winB, hc, inB, ht.1, ht.2]
    exact ⟨h1, by simp [winI, h1]⟩
  generalize chkI k s b h l = E at *
  generalize rootsI k s b h l = R at *
  generalize opI k s b h l o x v y = O at *
  generalize winI k s b h l t = X at *
  generalize winB k s b h l t = Z at *
  generalize cellsI k s b h l = C at *
  generalize aloneI k s b h l = A at *
  go_enter Try.func3, Try.ntmps3
  go_wp2_with (first
    |
      (with_reducible refine (awake3 _).mono ?_; rintro e w1 ⟨rfl, hb⟩; replace hF := hF.over hb; clear hb r q; have r := hF.rule 0 rfl; have q := hF.rule 1 rfl)
    |
      (with_reducible refine (c1.out _).mono ?_; rintro e w1 ⟨rfl, hb⟩; replace hF := hF.over hb; clear hb r q; have r := hF.rule 0 rfl; have q := hF.rule 1 rfl)
    )
  clear r q
  refine wp_text (S := Fr w [(w.heap.size + 1, [.int .i64 o, .int .u64 x, .int .u64 v, .int .i64 y]), (w.heap.size, [.int .i64 k, .int .i64 s, .int .i64 b, .int .i64 h, .int .i64 l])]) (by kernel_rfl) (by kernel_rfl) ?hS (fun hT => ?_)
  case hS => exact Fr.drew hF
  have hT9 := Lib.hid hT
  clear hT hF
  repeat (first
    | (refine text_value (v := ?_) hT9.out (by rfl) ?_ ?_; rotate_left; (focus (intro w5 hS; have r := hS.rule 0 rfl; have q := hS.rule 1 rfl; go_simp <;> with_reducible rfl)); (try simp only [Act.put, List.setIfInBounds_toArray, List.set_cons_zero, List.set_cons_succ]))
    | (refine text_off hT9.out (by rfl) ?_; (try simp only [Act.put, List.setIfInBounds_toArray, List.set_cons_zero, List.set_cons_succ]))
    | (refine text_call (v := ?_) (f := ?_) (args := ?_) hT9.out (by rfl) ?_ ?_ ?_; rotate_left 3; (focus (intro w5 hS; have r := hS.rule 0 rfl; have q := hS.rule 1 rfl; go_simp; constructor <;> with_reducible rfl)); (focus (intro w5 hS; (first | (with_reducible refine (c2.out _).mono ?_; rintro e w6 ⟨rfl, hb5⟩; constructor; with_reducible rfl; exact hS.over hb5) | (with_reducible refine (c3.out _).mono ?_; rintro e w6 ⟨rfl, hb5⟩; constructor; with_reducible rfl; exact hS.over hb5) | (with_reducible refine (c4.out _).mono ?_; rintro e w6 ⟨rfl, hb5⟩; constructor; with_reducible rfl; exact hS.over hb5) | (with_reducible refine (c5.out _).mono ?_; rintro e w6 ⟨rfl, hb5⟩; constructor; with_reducible rfl; exact hS.over hb5) | (with_reducible refine (c6.out _).mono ?_; rintro e w6 ⟨rfl, hb5⟩; constructor; with_reducible rfl; exact hS.over hb5)))); (try simp only [Act.put, List.setIfInBounds_toArray, List.set_cons_zero, List.set_cons_succ])))
  refine InText.nil fun w5 hF => ?_
  clear hT9
  have r := hF.rule 0 rfl
  have q := hF.rule 1 rfl
  by_cases hE : E = 0
  · obtain ⟨e1, e2⟩ := hyes.out hE
    subst e1 e2 hE
    go_wp2_with (first
      |
        (with_reducible refine (c7.out _).mono ?_; rintro e w1 ⟨rfl, hb⟩; replace hF := hF.over hb; clear hb r q; have r := hF.rule 0 rfl; have q := hF.rule 1 rfl)
      )
    clear r q
    refine wp_text (S := Fr w [(w.heap.size + 1, [.int .i64 o, .int .u64 x, .int .u64 v, .int .i64 y]), (w.heap.size, [.int .i64 k, .int .i64 s, .int .i64 b, .int .i64 h, .int .i64 l])]) (by kernel_rfl) (by kernel_rfl) ?hS (fun hT => ?_)
    case hS => exact Fr.drew hF
    have hT9 := Lib.hid hT
    clear hT hF
    repeat (first
      | (refine text_value (v := ?_) hT9.out (by rfl) ?_ ?_; rotate_left; (focus (intro w5 hS; have r := hS.rule 0 rfl; have q := hS.rule 1 rfl; go_simp <;> with_reducible rfl)); (try simp only [Act.put, List.setIfInBounds_toArray, List.set_cons_zero, List.set_cons_succ]))
      | (refine text_off hT9.out (by rfl) ?_; (try simp only [Act.put, List.setIfInBounds_toArray, List.set_cons_zero, List.set_cons_succ]))
      | (refine text_call (v := ?_) (f := ?_) (args := ?_) hT9.out (by rfl) ?_ ?_ ?_; rotate_left 3; (focus (intro w5 hS; have r := hS.rule 0 rfl; have q := hS.rule 1 rfl; go_simp; constructor <;> with_reducible rfl)); (focus (intro w5 hS; (first | (with_reducible refine (c8.out _).mono ?_; rintro e w6 ⟨rfl, hb5⟩; constructor; with_reducible rfl; exact hS.over hb5) | (with_reducible refine (c9.out _).mono ?_; rintro e w6 ⟨rfl, hb5⟩; constructor; with_reducible rfl; exact hS.over hb5)))); (try simp only [Act.put, List.setIfInBounds_toArray, List.set_cons_zero, List.set_cons_succ])))
    refine InText.nil fun w5 hF => ?_
    clear hT9
    have r := hF.rule 0 rfl
    have q := hF.rule 1 rfl
    clear c1 c2 c3 c4 c5 c6 c7 c8 c9
    by_cases ht : 1 ≤ t ∧ t ≤ 64
    · obtain ⟨e1, e2⟩ := hin.out (by first | rfl | trivial) ht
      subst e1 e2
      obtain ⟨t1, t2⟩ := ht
      have b1 : decide (t < 1) = false := by simp; omega
      have b2 : decide (64 < t) = false := by simp; omega
      go_wp2
      go_ret
      have f1 := w64 (t + 1) (by omega)
      have f2 := w64 (64 * (t + 1)) (by omega)
      exact ⟨ret_bool (by simp [f1, f2]), hF.below⟩
    · obtain ⟨e1, e2⟩ := hout.out ht
      subst e1 e2
      by_cases t1 : t < 1
      · have b1 : decide (t < 1) = true := by simpa using t1
        go_wp2
        go_ret
        exact ⟨rfl, hF.below⟩
      · have b1 : decide (t < 1) = false := by simpa using t1
        have b2 : decide (64 < t) = true := by simp; omega
        go_wp2
        go_ret
        exact ⟨rfl, hF.below⟩
  · obtain ⟨e1, e2, e3, e4⟩ := hno.out hE
    subst e1 e2 e3 e4
    have hEb : (E != 0) = true := by simpa using hE
    go_wp2_with (first
      |
        (with_reducible refine (c7.out _).mono ?_; rintro e w1 ⟨rfl, hb⟩; replace hF := hF.over hb; clear hb r q; have r := hF.rule 0 rfl; have q := hF.rule 1 rfl)
      |
        (with_reducible refine (c8.out _).mono ?_; rintro e w1 ⟨rfl, hb⟩; replace hF := hF.over hb; clear hb r q; have r := hF.rule 0 rfl; have q := hF.rule 1 rfl)
      |
        (with_reducible refine (c9.out _).mono ?_; rintro e w1 ⟨rfl, hb⟩; replace hF := hF.over hb; clear hb r q; have r := hF.rule 0 rfl; have q := hF.rule 1 rfl)
      )
    go_ret
    exact ⟨rfl, hF.below⟩

theorem own : ownKnob Try.prog.godebug = none := by kernel_rfl
theorem laidOut : laidOutB Try.prog = true := by kernel_rfl

set_option maxRecDepth 100000 in
theorem lifted (os : Os) (started : os.Started) (H : Type) (enc : TypeId × Value → H) :
    ReturnsInHanded {} Try.checked os 3 .any (Rows.confExactSpec.pre6 enc Try.prog Try.f3 Rows.confExactRow.domain false) (Rows.confExactSpec.post enc Try.prog Try.f3 false true false false) := by
  refine returnsInHanded_of_change (C := Try.checked) own started (by kernel_rfl) Try.func3
    (ChangeSpec.witness6 (enc := enc) (C := Try.checked) false ⟨#[], #[.agg #[.int .i64 0, .int .i64 0, .int .i64 0, .int .i64 0, .int .i64 0], .agg #[.int .i64 0, .int .u64 0, .int .u64 0, .int .i64 0], .int .i64 0], []⟩ 8 (by kernel_rfl) (by kernel_rfl) (by kernel_rfl) (by kernel_rfl)) ?_
  intro W base args ds gs before hval0 hW hcnd _
  have hval : ∀ (j : Nat) t v, Try.f3.params[j]? = some t → args[j]? = some v → Value.okWide Try.prog W .any base t v := hval0
  have hW' := hW
  obtain ⟨p, q, hA0, hV, rfl, hfz, hnd⟩ := hW
  have hA : DataW.TrodAll enc Try.prog W 0 (fun _ => true) true Try.f3.params.toList args.toList ds p := hA0
  rw [Try.params3] at hA hval
  obtain ⟨v0, vs0, d0, ds0, p0, q0, hargs, rfl, rfl, g0, r0⟩ := trodAll_cons hA
  obtain ⟨v1, vs1, d1, ds1, p1, q1, rfl, rfl, rfl, g1, r1⟩ := trodAll_cons r0
  obtain ⟨v2, vs2, d2, ds2, p2, q2, rfl, rfl, rfl, g2, r2⟩ := trodAll_cons r1
  obtain ⟨rfl, rfl, rfl⟩ := trodAll_nil r2
  obtain rfl : args = #[v0, v1, v2] := by cases args; simp_all
  obtain ⟨rfl, rfl⟩ := trodVars_none hV
  obtain ⟨cs0, rfl, z0, H0⟩ := open_flat (ss := [.num .i64, .num .i64, .num .i64, .num .i64, .num .i64]) Try.underlying23 (by kernel_rfl) (by kernel_rfl) ⟨Try.underlying3, Try.underlying3, Try.underlying3, Try.underlying3, Try.underlying3, trivial⟩ (hval 0 23 v0 rfl rfl) g0
  obtain ⟨l0, rfl, z0⟩ := list_of z0
  obtain ⟨x0_0, x0_1, x0_2, x0_3, x0_4, rfl⟩ := list5 z0
  obtain ⟨_, e, a0_0, rfl, w0_0⟩ := H0 0 _ rfl
  obtain rfl : x0_0 = .int .i64 a0_0 := by simpa using e
  clear e
  have h0_0 := i64_in w0_0
  obtain ⟨_, e, a0_1, rfl, w0_1⟩ := H0 1 _ rfl
  obtain rfl : x0_1 = .int .i64 a0_1 := by simpa using e
  clear e
  have h0_1 := i64_in w0_1
  obtain ⟨_, e, a0_2, rfl, w0_2⟩ := H0 2 _ rfl
  obtain rfl : x0_2 = .int .i64 a0_2 := by simpa using e
  clear e
  have h0_2 := i64_in w0_2
  obtain ⟨_, e, a0_3, rfl, w0_3⟩ := H0 3 _ rfl
  obtain rfl : x0_3 = .int .i64 a0_3 := by simpa using e
  clear e
  have h0_3 := i64_in w0_3
  obtain ⟨_, e, a0_4, rfl, w0_4⟩ := H0 4 _ rfl
  obtain rfl : x0_4 = .int .i64 a0_4 := by simpa using e
  clear e
  have h0_4 := i64_in w0_4
  clear H0
  obtain ⟨cs1, rfl, z1, H1⟩ := open_flat (ss := [.num .i64, .num .u64, .num .u64, .num .i64]) Try.underlying26 (by kernel_rfl) (by kernel_rfl) ⟨Try.underlying3, Try.underlying24, Try.underlying24, Try.underlying3, trivial⟩ (hval 1 26 v1 rfl rfl) g1
  obtain ⟨l1, rfl, z1⟩ := list_of z1
  obtain ⟨x1_0, x1_1, x1_2, x1_3, rfl⟩ := list4 z1
  obtain ⟨_, e, a1_0, rfl, w1_0⟩ := H1 0 _ rfl
  obtain rfl : x1_0 = .int .i64 a1_0 := by simpa using e
  clear e
  have h1_0 := i64_in w1_0
  obtain ⟨_, e, a1_1, rfl, w1_1⟩ := H1 1 _ rfl
  obtain rfl : x1_1 = .int .u64 a1_1 := by simpa using e
  clear e
  have h1_1 := u64_in w1_1
  obtain ⟨_, e, a1_2, rfl, w1_2⟩ := H1 2 _ rfl
  obtain rfl : x1_2 = .int .u64 a1_2 := by simpa using e
  clear e
  have h1_2 := u64_in w1_2
  obtain ⟨_, e, a1_3, rfl, w1_3⟩ := H1 3 _ rfl
  obtain rfl : x1_3 = .int .i64 a1_3 := by simpa using e
  clear e
  have h1_3 := i64_in w1_3
  clear H1
  obtain ⟨a2, rfl, rfl, rfl, w2⟩ := open_int Try.underlying3 (hval 2 3 v2 rfl rfl) g2
  have h2 := i64_in w2
  clear hA0 hval0
  refine (walk a0_0 a0_1 a0_2 a0_3 a0_4 a1_0 a1_1 a1_2 a1_3 a2 W).mono fun e W' ⟨he, hg⟩ => ?_
  subst he
  exact ⟨_, rfl, law_post laidOut (by kernel_rfl) (by kernel_rfl) Try.underlying4 rfl rfl hW' hg⟩

theorem over : Rows.confExactRow.holds Try.pinned (OpenSpec.ofChange Rows.confExactSpec) :=
  OpenClaim.holds_of_wide 3 Try.f3 rfl rfl rfl rfl rfl rfl rfl ⟨rfl, rfl, rfl, rfl, rfl⟩ rfl rfl rfl rfl rfl (by kernel_rfl) Try.func3 (by kernel_rfl)
    (of_decide_eq_true (by kernel_rfl)) (by unfold Func.isWrapper; first | (rw [if_pos (by decide +kernel)]; kernel_rfl) | (rw [if_neg (by decide +kernel)]; exact ⟨rfl, rfl⟩))
    (fun os started H enc _ => lifted os started H enc)

/-- THE STATEMENT. -/
theorem proved : Rows.ConfExactSaid := over
#print axioms proved
end Go.Proofs.Ytmcjjkljkccgoaa.confExact
