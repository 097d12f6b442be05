/- ConfGrows: more slots, levels and threads are given more time; what a thread alone has is less than any window: so the law answers true, for every input. -/
import Derived.Test.YtmcjjkljkccgoaaConfW
import Derived.Test.YtmcjjkljkccgoaaLaw
import Derived.Test.YtmcjjkljkccgoaaRows
namespace Go.Proofs.Ytmcjjkljkccgoaa.confGrows
open Go.ChangeShapes Go.WideShapes Go.ChangeAt Go.RowKit

theorem win_pos {s h t : Int} (hs : 1 ≤ s ∧ s ≤ 8388606) (hh : 1 ≤ h ∧ h ≤ 15) (ht : 1 ≤ t ∧ t ≤ 63) :
    (winB 3 s 0 h 5 t = true ∧ winB 3 (s + 1) 0 h 5 t = true ∧ winB 3 s 0 (h + 1) 5 t = true ∧ winB 3 s 0 h 5 (t + 1) = true) ∧ 0 < winI 3 s 0 h 5 t ∧ winI 3 s 0 h 5 t < winI 3 (s + 1) 0 h 5 t ∧ winI 3 s 0 h 5 t < winI 3 s 0 (h + 1) 5 t ∧ winI 3 s 0 h 5 t < winI 3 s 0 h 5 (t + 1) ∧
      0 < aloneI 3 s 0 h 5 ∧ aloneI 3 s 0 h 5 < winI 3 s 0 h 5 t ∧ aloneI 3 s 0 h 5 < aloneI 3 (s + 1) 0 h 5 ∧ aloneI 3 s 0 h 5 < aloneI 3 s 0 (h + 1) 5 := by
  have k1 : chkI 3 s 0 h 5 = 0 := chk_zero (by omega) (by unfold Cfg; omega)
  have k2 : chkI 3 (s + 1) 0 h 5 = 0 := chk_zero (by omega) (by unfold Cfg; omega)
  have k3 : chkI 3 s 0 (h + 1) 5 = 0 := chk_zero (by omega) (by unfold Cfg; omega)
  have t1 : inB t 1 64 = true := by rw [inB_iff]; omega
  have t2 : inB (t + 1) 1 64 = true := by rw [inB_iff]; omega
  have w1 : winB 3 s 0 h 5 t = true := by simp [winB, k1, t1]
  have w2 : winB 3 (s + 1) 0 h 5 t = true := by simp [winB, k2, t1]
  have w3 : winB 3 s 0 (h + 1) 5 t = true := by simp [winB, k3, t1]
  have w4 : winB 3 s 0 h 5 (t + 1) = true := by simp [winB, k1, t2]
  refine ⟨⟨w1, w2, w3, w4⟩, ?_⟩
  simp only [winI, aloneI, w1, w2, w3, w4, k1, k2, k3, if_true]
  obtain ⟨S, rfl⟩ := Int.eq_ofNat_of_zero_le (show 0 ≤ s by omega)
  obtain ⟨H, rfl⟩ := Int.eq_ofNat_of_zero_le (show 0 ≤ h by omega)
  obtain ⟨T, rfl⟩ := Int.eq_ofNat_of_zero_le (show 0 ≤ t by omega)
  have hc : 8 ≤ (T + 1) * (T + 1) * (T + 1) := by
    have := Nat.mul_le_mul (Nat.mul_le_mul (show 2 ≤ T + 1 by omega) (show 2 ≤ T + 1 by omega)) (show 2 ≤ T + 1 by omega)
    omega
  have hc2 : (T + 1) * (T + 1) * (T + 1) < (T + 1 + 1) * (T + 1 + 1) * (T + 1 + 1) := by
    have h1 := Nat.mul_lt_mul'' (show T + 1 < T + 1 + 1 by omega) (show T + 1 < T + 1 + 1 by omega)
    exact Nat.mul_lt_mul'' h1 (by omega)
  have e1 : (64 : Int) * (T + 1) * (T + 1) * (T + 1) * (S + 2) * (H + 1) * (H + 1) = ((64 * ((T + 1) * (T + 1) * (T + 1)) * ((S + 2) * ((H + 1) * (H + 1))) : Nat) : Int) := by simp only [Int.natCast_mul, Int.natCast_add, Int.mul_assoc]; rfl
  have e2 : (64 : Int) * (T + 1) * (T + 1) * (T + 1) * (S + 1 + 2) * (H + 1) * (H + 1) = ((64 * ((T + 1) * (T + 1) * (T + 1)) * ((S + 1 + 2) * ((H + 1) * (H + 1))) : Nat) : Int) := by simp only [Int.natCast_mul, Int.natCast_add, Int.mul_assoc]; rfl
  have e3 : (64 : Int) * (T + 1) * (T + 1) * (T + 1) * (S + 2) * (H + 1 + 1) * (H + 1 + 1) = ((64 * ((T + 1) * (T + 1) * (T + 1)) * ((S + 2) * ((H + 1 + 1) * (H + 1 + 1))) : Nat) : Int) := by simp only [Int.natCast_mul, Int.natCast_add, Int.mul_assoc]; rfl
  have e4 : (64 : Int) * (T + 1 + 1) * (T + 1 + 1) * (T + 1 + 1) * (S + 2) * (H + 1) * (H + 1) = ((64 * ((T + 1 + 1) * (T + 1 + 1) * (T + 1 + 1)) * ((S + 2) * ((H + 1) * (H + 1))) : Nat) : Int) := by simp only [Int.natCast_mul, Int.natCast_add, Int.mul_assoc]; rfl
  have e5 : (64 : Int) * (S + 4) * (H + 1) = ((64 * ((S + 4) * (H + 1)) : Nat) : Int) := by simp only [Int.natCast_mul, Int.natCast_add, Int.mul_assoc]; rfl
  have e6 : (64 : Int) * (S + 1 + 4) * (H + 1) = ((64 * ((S + 1 + 4) * (H + 1)) : Nat) : Int) := by simp only [Int.natCast_mul, Int.natCast_add, Int.mul_assoc]; rfl
  have e7 : (64 : Int) * (S + 4) * (H + 1 + 1) = ((64 * ((S + 4) * (H + 1 + 1)) : Nat) : Int) := by simp only [Int.natCast_mul, Int.natCast_add, Int.mul_assoc]; rfl
  rw [e1, e2, e3, e4, e5, e6, e7]
  have hH : 0 < (H + 1) * (H + 1) := Nat.mul_pos (by omega) (by omega)
  have hH2 : (H + 1) * (H + 1) < (H + 1 + 1) * (H + 1 + 1) := Nat.mul_lt_mul'' (by omega) (by omega)
  have hH3 : H + 1 ≤ (H + 1) * (H + 1) := Nat.le_mul_of_pos_left _ (by omega)
  have hX : 0 < (S + 2) * ((H + 1) * (H + 1)) := Nat.mul_pos (by omega) hH
  have hY : 0 < (S + 4) * (H + 1) := Nat.mul_pos (by omega) (by omega)
  generalize (T + 1) * (T + 1) * (T + 1) = C at *
  generalize (T + 1 + 1) * (T + 1 + 1) * (T + 1 + 1) = C2 at *
  generalize (H + 1) * (H + 1) = D at *
  generalize (H + 1 + 1) * (H + 1 + 1) = D2 at *
  refine ⟨?_, ?_, ?_, ?_, ?_, ?_, ?_, ?_⟩
  · exact Int.ofNat_lt.2 (Nat.mul_pos (by omega) hX)
  · exact Int.ofNat_lt.2 (Nat.mul_lt_mul_of_pos_left (Nat.mul_lt_mul_of_pos_right (by omega) hH) (by omega))
  · exact Int.ofNat_lt.2 (Nat.mul_lt_mul_of_pos_left (Nat.mul_lt_mul_of_pos_left hH2 (by omega)) (by omega))
  · exact Int.ofNat_lt.2 (Nat.mul_lt_mul_of_pos_right (Nat.mul_lt_mul_of_pos_left hc2 (by omega)) hX)
  · exact Int.ofNat_lt.2 (Nat.mul_pos (by omega) hY)
  · refine Int.ofNat_lt.2 ?_
    have h1 : (S + 4) * (H + 1) ≤ (S + 4) * D := Nat.mul_le_mul_left _ hH3
    have h2 : (S + 4) * D < 8 * ((S + 2) * D) := by
      rw [← Nat.mul_assoc]
      exact Nat.mul_lt_mul_of_pos_right (by omega) hH
    have h3 : 8 * ((S + 2) * D) ≤ C * ((S + 2) * D) := Nat.mul_le_mul_right _ hc
    rw [Nat.mul_assoc]
    omega
  · exact Int.ofNat_lt.2 (Nat.mul_lt_mul_of_pos_left (Nat.mul_lt_mul_of_pos_right (by omega) (by omega)) (by omega))
  · exact Int.ofNat_lt.2 (Nat.mul_lt_mul_of_pos_left (Nat.mul_lt_mul_of_pos_left (by omega) (by omega)) (by omega))

set_option maxRecDepth 100000 in
set_option maxHeartbeats 3200000 in
theorem walk (a b c : Int) (w : World) :
    Calls Try.prog 5 #[.int .i64 a, .int .i64 b, .int .i64 c] w fun e w' => e = .returned (.bool true) ∧ Below w.heap.size w w' := by
  have hF := Fr.start w
  go_enter Try.func5, Try.ntmps5
  go_wp2_with
    (with_reducible refine (awake3 _).mono ?_; rintro e w1 ⟨rfl, hb⟩; replace hF := hF.over hb; clear hb)
  obtain ⟨n, hn, n0, n1⟩ := cut_u1 a 8388606 (by decide) (by decide)
  obtain ⟨m, hm, m0, m1⟩ := cut_u1 b 15 (by decide) (by decide)
  obtain ⟨t, ht, t0, t1⟩ := cut_u1 c 63 (by decide) (by decide)
  rw [hn, hm, ht, w64 (n + 1) (by omega), w64 (m + 1) (by omega)]
  clear hn hm ht
  have hq := win_pos (s := n) (h := m) (t := t) (by omega) (by omega) (by omega)
  obtain ⟨⟨q1, q2, q3, q4⟩, p1, p2, p3, p4, p5, p6, p7, p8⟩ := hq
  have c1 : Hid (∀ w', Calls Try.prog 13 #[.agg #[.int .i64 3, .int .i64 n, .int .i64 0, .int .i64 m, .int .i64 5], .int .i64 t] w' fun e w'' => e = .returned (.tuple #[.int .i64 (winI 3 n 0 m 5 t), .bool true]) ∧ Below w'.heap.size w' w'') := Lib.hid fun w' => by have := window_any 3 n 0 m 5 t w'; rwa [q1] at this
  have c2 : Hid (∀ w', Calls Try.prog 13 #[.agg #[.int .i64 3, .int .i64 (n + 1), .int .i64 0, .int .i64 m, .int .i64 5], .int .i64 t] w' fun e w'' => e = .returned (.tuple #[.int .i64 (winI 3 (n + 1) 0 m 5 t), .bool true]) ∧ Below w'.heap.size w' w'') := Lib.hid fun w' => by have := window_any 3 (n + 1) 0 m 5 t w'; rwa [q2] at this
  have c3 : Hid (∀ w', Calls Try.prog 13 #[.agg #[.int .i64 3, .int .i64 n, .int .i64 0, .int .i64 (m + 1), .int .i64 5], .int .i64 t] w' fun e w'' => e = .returned (.tuple #[.int .i64 (winI 3 n 0 (m + 1) 5 t), .bool true]) ∧ Below w'.heap.size w' w'') := Lib.hid fun w' => by have := window_any 3 n 0 (m + 1) 5 t w'; rwa [q3] at this
  have c4 : Hid (∀ w', Calls Try.prog 13 #[.agg #[.int .i64 3, .int .i64 n, .int .i64 0, .int .i64 m, .int .i64 5], .int .i64 (t + 1)] w' fun e w'' => e = .returned (.tuple #[.int .i64 (winI 3 n 0 m 5 (t + 1)), .bool true]) ∧ Below w'.heap.size w' w'') := Lib.hid fun w' => by have := window_any 3 n 0 m 5 (t + 1) w'; rwa [q4] at this
  have c5 : Hid (∀ w', Calls Try.prog 15 #[.agg #[.int .i64 3, .int .i64 n, .int .i64 0, .int .i64 m, .int .i64 5]] w' fun e w'' => e = .returned (.int .i64 (aloneI 3 n 0 m 5)) ∧ Below w'.heap.size w' w'') := Lib.hid fun w' => alone_any 3 n 0 m 5 w'
  have c6 : Hid (∀ w', Calls Try.prog 15 #[.agg #[.int .i64 3, .int .i64 (n + 1), .int .i64 0, .int .i64 m, .int .i64 5]] w' fun e w'' => e = .returned (.int .i64 (aloneI 3 (n + 1) 0 m 5)) ∧ Below w'.heap.size w' w'') := Lib.hid fun w' => alone_any 3 (n + 1) 0 m 5 w'
  have c7 : Hid (∀ w', Calls Try.prog 15 #[.agg #[.int .i64 3, .int .i64 n, .int .i64 0, .int .i64 (m + 1), .int .i64 5]] w' fun e w'' => e = .returned (.int .i64 (aloneI 3 n 0 (m + 1) 5)) ∧ Below w'.heap.size w' w'') := Lib.hid fun w' => alone_any 3 n 0 (m + 1) 5 w'
  clear q1 q2 q3 q4
  generalize winI 3 n 0 m 5 t = A1 at *
  generalize winI 3 (n + 1) 0 m 5 t = A2 at *
  generalize winI 3 n 0 (m + 1) 5 t = A3 at *
  generalize winI 3 n 0 m 5 (t + 1) = A4 at *
  generalize aloneI 3 n 0 m 5 = A5 at *
  generalize aloneI 3 (n + 1) 0 m 5 = A6 at *
  generalize aloneI 3 n 0 (m + 1) 5 = A7 at *
  replace hF := ((hF.push w1.heap.size rfl [.int .i64 3, .int .i64 n, .int .i64 0, .int .i64 m, .int .i64 5] 23).push (w1.heap.size + 1) (by simp) [.int .i64 3, .int .i64 (n + 1), .int .i64 0, .int .i64 m, .int .i64 5] 23).push (w1.heap.size + 1 + 1) (by simp) [.int .i64 3, .int .i64 n, .int .i64 0, .int .i64 (m + 1), .int .i64 5] 23
  generalize w1.heap.size = N at *
  have r := hF.rule 0 rfl
  have r1 := hF.rule 1 rfl
  have r2 := hF.rule 2 rfl
  refine (c1.out _).mono ?_
  rintro e w2 ⟨rfl, hb⟩
  replace hF := hF.over hb
  clear hb r r1 r2
  have r := hF.rule 0 rfl
  have r1 := hF.rule 1 rfl
  have r2 := hF.rule 2 rfl
  go_wp2_with (first
    |
      (with_reducible refine (c2.out _).mono ?_; rintro e w1 ⟨rfl, hb⟩; replace hF := hF.over hb; clear hb r r1 r2; have r := hF.rule 0 rfl; have r1 := hF.rule 1 rfl; have r2 := hF.rule 2 rfl)
    |
      (with_reducible refine (c3.out _).mono ?_; rintro e w1 ⟨rfl, hb⟩; replace hF := hF.over hb; clear hb r r1 r2; have r := hF.rule 0 rfl; have r1 := hF.rule 1 rfl; have r2 := hF.rule 2 rfl)
    |
      (with_reducible refine (c4.out _).mono ?_; rintro e w1 ⟨rfl, hb⟩; replace hF := hF.over hb; clear hb r r1 r2; have r := hF.rule 0 rfl; have r1 := hF.rule 1 rfl; have r2 := hF.rule 2 rfl)
    )
  clear r r1 r2 c1 c2 c3 c4
  refine wp_text (S := Fr w [(N + 1 + 1, [.int .i64 3, .int .i64 n, .int .i64 0, .int .i64 (m + 1), .int .i64 5]), (N + 1, [.int .i64 3, .int .i64 (n + 1), .int .i64 0, .int .i64 m, .int .i64 5]), (N, [.int .i64 3, .int .i64 n, .int .i64 0, .int .i64 m, .int .i64 5])]) (by kernel_rfl) (by kernel_rfl) ?hS (fun hT => ?_)
  case hS => exact Fr.drew hF
  have hT9 := Lib.hid hT
  clear hT hF
  repeat (first
    | (refine text_value (v := ?_) hT9.out (by rfl) ?_ ?_; rotate_left; (focus (intro w5 hS; have r := hS.rule 0 rfl; have r1 := hS.rule 1 rfl; have r2 := hS.rule 2 rfl; go_simp <;> with_reducible rfl)); (try simp only [Act.put, List.setIfInBounds_toArray, List.set_cons_zero, List.set_cons_succ]))
    | (refine text_off hT9.out (by rfl) ?_; (try simp only [Act.put, List.setIfInBounds_toArray, List.set_cons_zero, List.set_cons_succ]))
    | (refine text_call (v := ?_) (f := ?_) (args := ?_) hT9.out (by rfl) ?_ ?_ ?_; rotate_left 3; (focus (intro w5 hS; have r := hS.rule 0 rfl; have r1 := hS.rule 1 rfl; have r2 := hS.rule 2 rfl; go_simp; constructor <;> with_reducible rfl)); (focus (intro w5 hS; (first | (with_reducible refine (c5.out _).mono ?_; rintro e w6 ⟨rfl, hb5⟩; constructor; with_reducible rfl; exact hS.over hb5) | (with_reducible refine (c6.out _).mono ?_; rintro e w6 ⟨rfl, hb5⟩; constructor; with_reducible rfl; exact hS.over hb5) | (with_reducible refine (c7.out _).mono ?_; rintro e w6 ⟨rfl, hb5⟩; constructor; with_reducible rfl; exact hS.over hb5)))); (try simp only [Act.put, List.setIfInBounds_toArray, List.set_cons_zero, List.set_cons_succ])))
  refine InText.nil fun w5 hF => ?_
  clear hT9
  go_wp2_with fail
  go_ret
  exact ⟨rfl, hF.below⟩

theorem own : ownKnob Try.prog.godebug = none := by kernel_rfl
theorem laidOut : laidOutB Try.prog = true := by kernel_rfl

set_option maxRecDepth 100000 in
theorem lifted (os : Os) (started : os.Started) (H : Type) (enc : TypeId × Value → H) :
    ReturnsInHanded {} Try.checked os 5 .any (Rows.confGrowsSpec.pre6 enc Try.prog Try.f5 Rows.confGrowsRow.domain false) (Rows.confGrowsSpec.post enc Try.prog Try.f5 false true false false) := by
  refine returnsInHanded_of_change (C := Try.checked) own started (by kernel_rfl) Try.func5
    (ChangeSpec.witness6 (enc := enc) (C := Try.checked) false ⟨#[], #[.int .i64 0, .int .i64 0, .int .i64 0], []⟩ 8 (by kernel_rfl) (by kernel_rfl) (by kernel_rfl) (by kernel_rfl)) ?_
  intro W base args ds gs before hval0 hW hcnd _
  have hval : ∀ (j : Nat) t v, Try.f5.params[j]? = some t → args[j]? = some v → Value.okWide Try.prog W .any base t v := hval0
  have hW' := hW
  obtain ⟨p, q, hA0, hV, rfl, hfz, hnd⟩ := hW
  have hA : DataW.TrodAll enc Try.prog W 0 (fun _ => true) true Try.f5.params.toList args.toList ds p := hA0
  rw [Try.params5] at hA hval
  obtain ⟨v0, vs0, d0, ds0, p0, q0, hargs, rfl, rfl, g0, r0⟩ := trodAll_cons hA
  obtain ⟨v1, vs1, d1, ds1, p1, q1, rfl, rfl, rfl, g1, r1⟩ := trodAll_cons r0
  obtain ⟨v2, vs2, d2, ds2, p2, q2, rfl, rfl, rfl, g2, r2⟩ := trodAll_cons r1
  obtain ⟨rfl, rfl, rfl⟩ := trodAll_nil r2
  obtain rfl : args = #[v0, v1, v2] := by cases args; simp_all
  obtain ⟨rfl, rfl⟩ := trodVars_none hV
  obtain ⟨a0, rfl, rfl, rfl, w0⟩ := open_int Try.underlying3 (hval 0 3 v0 rfl rfl) g0
  have h0 := i64_in w0
  obtain ⟨a1, rfl, rfl, rfl, w1⟩ := open_int Try.underlying3 (hval 1 3 v1 rfl rfl) g1
  have h1 := i64_in w1
  obtain ⟨a2, rfl, rfl, rfl, w2⟩ := open_int Try.underlying3 (hval 2 3 v2 rfl rfl) g2
  have h2 := i64_in w2
  clear hA0 hval0
  refine (walk a0 a1 a2 W).mono fun e W' ⟨he, hg⟩ => ?_
  subst he
  exact ⟨_, rfl, law_post laidOut (by kernel_rfl) (by kernel_rfl) Try.underlying4 rfl rfl hW' hg⟩

theorem over : Rows.confGrowsRow.holds Try.pinned (OpenSpec.ofChange Rows.confGrowsSpec) :=
  OpenClaim.holds_of_wide 5 Try.f5 rfl rfl rfl rfl rfl rfl rfl ⟨rfl, rfl, rfl, rfl, rfl⟩ rfl rfl rfl rfl rfl (by kernel_rfl) Try.func5 (by kernel_rfl)
    (of_decide_eq_true (by kernel_rfl)) (by unfold Func.isWrapper; first | (rw [if_pos (by decide +kernel)]; kernel_rfl) | (rw [if_neg (by decide +kernel)]; exact ⟨rfl, rfl⟩))
    (fun os started H enc _ => lifted os started H enc)

/-- THE STATEMENT. -/
theorem proved : Rows.ConfGrowsSaid := over
#print axioms proved
end Go.Proofs.Ytmcjjkljkccgoaa.confGrows
