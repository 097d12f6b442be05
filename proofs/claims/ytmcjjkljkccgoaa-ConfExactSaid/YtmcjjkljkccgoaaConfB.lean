/- Contracts of layer 3: how long things may take. -/
import Derived.Test.YtmcjjkljkccgoaaConfA
import Derived.Test.YtmcjjkljkccgoaaSeq
namespace Go.Proofs.Ytmcjjkljkccgoaa
open Go.RowKit

theorem power_facts (a : Int) (N : Nat) (h0 : 0 ≤ a) (hm : ∀ j, j ≤ N → a ^ j ≤ 9223372036854775807) (j : Nat) (hj : j < N) : wrap64 (a ^ j * a) = a ^ (j + 1) := by
  have h1 := hm (j + 1) hj
  have h2 : 0 ≤ a ^ (j + 1) := Int.pow_nonneg h0
  rw [Int.pow_succ] at *
  exact w64 _ (by omega)

set_option maxHeartbeats 400000 in
theorem power_any (a : Int) (N : Nat) (hN : N ≤ 1000) (h0 : 0 ≤ a) (hm : ∀ j, j ≤ N → a ^ j ≤ 9223372036854775807) (w : World) : Calls Try.prog 24 #[.int .i64 a, .int .i64 N] w fun e w' => e = .returned (.int .i64 (a ^ N)) ∧ w = w' := by
  have HM : Hid (∀ j, j < N → wrap64 (a ^ j * a) = a ^ (j + 1)) := Lib.hid fun j hj => power_facts a N h0 hm j hj
  clear hm
  go_enter Try.func24, Try.ntmps24
  go_wp2
  go_loop [5, 7] (fun p i => ∃ j : Nat, j ≤ N ∧ i = .int .i64 j ∧ p = .int .i64 (a ^ j)) (fun _ i => N - (intOf i).toNat)
  case atStart => exact ⟨0, Nat.zero_le _, rfl, by simp⟩
  case round =>
    obtain ⟨j, hj, rfl, rfl⟩ := hrel
    have hs := HM.out j
    have hz : j = N → a ^ j = a ^ N := fun h => by rw [h]
    clear HM
    have HS := Lib.hid hs
    have HZ := Lib.hid hz
    clear hs hz
    generalize hP : a ^ j = P at *
    have HP := Lib.hid hP
    clear hP
    by_cases hlt : j < N
    · go_wp2
      go_round
      case rel => exact ⟨j + 1, by omega, by go_num, by rw [← HS.out hlt]⟩
      case measure => simp [intOf]; omega
    · go_wp2
      go_ret
      exact ⟨ret_int (HZ.out (by omega)), rfl⟩
theorem cube_any (t : Int) (ht : 1 ≤ t ∧ t ≤ 64) (w : World) : Calls Try.prog 24 #[.int .i64 (t + 1), .int .i64 3] w fun e w' => e = .returned (.int .i64 ((t + 1) * (t + 1) * (t + 1))) ∧ w = w' := by
  have h2 := mul_in (a := t + 1) (b := t + 1) (A := 65) (B := 65) (by omega) (by omega)
  have h3 := mul_in (b := t + 1) (B := 65) h2 (by omega)
  have e : ∀ a : Int, a ^ 3 = a * a * a := fun a => by rw [Int.pow_succ, Int.pow_succ, Int.pow_succ, Int.pow_zero, Int.one_mul]
  have h := power_any (t + 1) 3 (by decide) (by omega) (fun j hj => by
    match j, hj with
    | 0, _ => simp
    | 1, _ => rw [Int.pow_succ, Int.pow_zero, Int.one_mul]; omega
    | 2, _ => rw [Int.pow_succ, Int.pow_succ, Int.pow_zero, Int.one_mul]; omega
    | 3, _ => rw [e]; omega
    | n + 4, h => omega) w
  rw [e] at h
  exact h
theorem square_any (t : Int) (ht : 1 ≤ t ∧ t ≤ 16) (w : World) : Calls Try.prog 24 #[.int .i64 (t + 1), .int .i64 2] w fun e w' => e = .returned (.int .i64 ((t + 1) * (t + 1))) ∧ w = w' := by
  have h2 := mul_in (a := t + 1) (b := t + 1) (A := 17) (B := 17) (by omega) (by omega)
  have e : ∀ a : Int, a ^ 2 = a * a := fun a => by rw [Int.pow_succ, Int.pow_succ, Int.pow_zero, Int.one_mul]
  have h := power_any (t + 1) 2 (by decide) (by omega) (fun j hj => by
    match j, hj with
    | 0, _ => simp
    | 1, _ => rw [Int.pow_succ, Int.pow_zero, Int.one_mul]; omega
    | 2, _ => rw [e]; omega
    | n + 3, h => omega) w
  rw [e] at h
  exact h

set_option maxHeartbeats 800000 in
theorem window_any (k s b h l t : Int) (w : World) : Calls Try.prog 13 #[.agg #[.int .i64 k, .int .i64 s, .int .i64 b, .int .i64 h, .int .i64 l], .int .i64 t] w fun e w' => e = .returned (.tuple #[.int .i64 (winI k s b h l t), .bool (winB k s b h l t)]) ∧ Below w.heap.size w w' := by
  have hF := (Fr.start w).push w.heap.size rfl [.int .i64 k, .int .i64 s, .int .i64 b, .int .i64 h, .int .i64 l] 23
  have r := hF.rule 0 rfl
  cases hw : winB k s b h l t
  · have HI := Lib.hid (show winI k s b h l t = 0 by simp [winI, hw])
    have HW := Lib.hid hw
    clear hw
    go_enter Try.func13, Try.ntmps13
    go_wp2_with (first
      |
        (with_reducible refine (check_any _ _ _ _ _ _).mono ?_; rintro e w1 ⟨rfl, hb⟩; replace hF := hF.over hb; clear hb r; have r := hF.rule 0 rfl)
      |
        (with_reducible refine (within_any _ _ _ _).mono ?_; rintro e w1 ⟨rfl, rfl⟩)
      )
    all_goals first
      | (go_ret2; exact ⟨by rw [HI.out]; rfl, hF.below⟩)
      | (exfalso; have hw := HW.out; clear HW HI hF r; (try go_light); (try simp only [Bool.not_eq_true', Bool.not_eq_false'] at *); simp [winB, *] at hw)
  · have hy : chkI k s b h l = 0 ∧ inB t 1 64 = true := by simpa [winB] using hw
    obtain ⟨hc, ht⟩ := hy
    have hy := chk_yes hc
    have ht' := inB_yes ht
    have h3 : Hid (∀ v, Calls Try.prog 24 #[.int .i64 (IntKind.i64.wrap (t + 1)), .int .i64 3] v fun e w' => e = .returned (.int .i64 ((t + 1) * (t + 1) * (t + 1))) ∧ v = w') := Lib.hid fun v => by rw [wrap_i, w64 (t + 1) (by omega)]; exact cube_any t ht' v
    have h2 : Hid (∀ v, Calls Try.prog 24 #[.int .i64 (IntKind.i64.wrap (h + 1)), .int .i64 2] v fun e w' => e = .returned (.int .i64 ((h + 1) * (h + 1))) ∧ v = w') := Lib.hid fun v => by rw [wrap_i, w64 (h + 1) (by omega)]; exact square_any h (by omega) v
    have HI := Lib.hid (show IntKind.i64.wrap (IntKind.i64.wrap (IntKind.i64.wrap (64 * ((t + 1) * (t + 1) * (t + 1))) * IntKind.i64.wrap (s + 2)) * ((h + 1) * (h + 1))) = winI k s b h l t by simp only [wrap_i]; rw [w64 (s + 2) (by omega), win_wrap hy.2.1 (by omega) ht']; simp [winI, hw])
    have HC := Lib.hid hc
    have HT := Lib.hid ht
    clear hc ht hy ht' hw
    generalize (t + 1) * (t + 1) * (t + 1) = C at *
    generalize (h + 1) * (h + 1) = D at *
    generalize winI k s b h l t = E at *
    go_enter Try.func13, Try.ntmps13
    go_wp2_with (first
      | (with_reducible refine (check_any _ _ _ _ _ _).mono ?_; rintro e w1 ⟨rfl, hb⟩; rw [HC.out]; replace hF := hF.over hb; clear hb r; have r := hF.rule 0 rfl)
      | (with_reducible refine (within_any _ _ _ _).mono ?_; rintro e w1 ⟨rfl, rfl⟩; rw [HT.out]))
    clear r
    refine wp_text (S := Fr w [(w.heap.size, [.int .i64 k, .int .i64 s, .int .i64 b, .int .i64 h, .int .i64 l])]) (by kernel_rfl) (by kernel_rfl) ?hS (fun hT => ?_)
    case hS => exact Fr.drew hF
    have hT9 := Lib.hid hT
    clear hT hF
    repeat (first
      | (refine text_value (v := ?_) hT9.out (by rfl) ?_ ?_; rotate_left; (focus (intro w5 hS; have r := hS.rule 0 rfl; go_simp <;> with_reducible rfl)); (try simp only [Act.put, List.setIfInBounds_toArray, List.set_cons_zero, List.set_cons_succ]))
      | (refine text_off hT9.out (by rfl) ?_; (try simp only [Act.put, List.setIfInBounds_toArray, List.set_cons_zero, List.set_cons_succ]))
      | (refine text_call (v := ?_) (f := ?_) (args := ?_) hT9.out (by rfl) ?_ ?_ ?_; rotate_left 3; (focus (intro w5 hS; have r := hS.rule 0 rfl; go_simp; constructor <;> with_reducible rfl)); (focus (intro w5 hS; (first | (with_reducible refine (h3.out _).mono ?_; rintro e w6 ⟨rfl, rfl⟩; constructor; with_reducible rfl; exact hS) | (with_reducible refine (h2.out _).mono ?_; rintro e w6 ⟨rfl, rfl⟩; constructor; with_reducible rfl; exact hS)))); (try simp only [Act.put, List.setIfInBounds_toArray, List.set_cons_zero, List.set_cons_succ])))
    refine InText.nil fun w5 hF => ?_
    clear hT9
    have r := hF.rule 0 rfl
    go_wp2_with fail
    go_ret2
    exact ⟨by rw [HI.out]; rfl, hF.below⟩
end Go.Proofs.Ytmcjjkljkccgoaa
