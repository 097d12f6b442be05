/- ConfOps: of every structure that can be each op is asked of just one of lists and hash maps, but a Give, that is asked of both; a skip list is asked what a list is, with a level: so the law answers true, for every input. -/
import Derived.Test.YtmcjjkljkccgoaaConfW
import Derived.Test.YtmcjjkljkccgoaaLaw
import Derived.Test.YtmcjjkljkccgoaaOpenFlat
import Derived.Test.YtmcjjkljkccgoaaRows
namespace Go.Proofs.Ytmcjjkljkccgoaa.confOps
open Go.ChangeShapes Go.WideShapes Go.ChangeAt Go.RowKit

/-- What is asked of which. -/
theorem ops_facts (n m t o x v y z : Int) (hn : 1 ≤ n ∧ n ≤ 8388607) (hm : 1 ≤ m ∧ m ≤ 64) (ht : 1 ≤ t ∧ t ≤ 16) (hz : z = if o = 1 then 1 else y) :
    (chkI 1 n 0 1 100 = 0 ∧ chkI 2 n m 1 2 = 0 ∧ chkI 3 n 0 t 2 = 0) ∧
    (o = 8 → opI 2 n m 1 2 o x v y = opI 1 n 0 1 100 o x v y ∧ opI 3 n 0 t 2 o x v y = opI 1 n 0 1 100 o x v y) ∧
    (o ≠ 8 → opI 1 n 0 1 100 o x v y = 8 ∨ opI 2 n m 1 2 o x v y = 8) ∧ (opI 3 n 0 t 2 o x v z = 8 ↔ opI 1 n 0 1 100 o x v y = 8) ∧ (opI 1 n 0 1 100 o x v y = 0 → opI 3 n 0 t 2 o x v z = 0) := by
  have k1 : chkI 1 n 0 1 100 = 0 := chk_zero (by omega) (by unfold Cfg; omega)
  have k2 : chkI 2 n m 1 2 = 0 := chk_zero (by omega) (by unfold Cfg; omega)
  have k3 : chkI 3 n 0 t 2 = 0 := chk_zero (by omega) (by unfold Cfg; omega)
  refine ⟨⟨k1, k2, k3⟩, ?_⟩
  have b1 : inB 1 1 t = true := by rw [inB_iff]; omega
  simp only [opI, k1, k2, k3, if_true]
  refine ⟨fun h => ?_, fun h => ?_, ?_, ?_⟩
  · subst h
    simp [askB, lvlB]
  · by_cases ha : o = 1 ∨ o = 2 ∨ o = 3
    · right
      simp [askB, ha]
    · left
      by_cases hb : o = 4 ∨ o = 5 ∨ o = 6 ∨ o = 7
      · simp [askB, ha, hb]
      · simp [askB, ha, hb, h]
  · have e : askB 3 o = askB 1 o := by simp [askB]
    rw [e]
    cases askB 1 o
    · simp
    · simp only [if_true]
      constructor <;> (intro h; revert h; repeat' (first | omega | (intro h; omega) | split))
  · have e : askB 3 o = askB 1 o := by simp [askB]
    rw [e]
    cases askB 1 o
    · simp
    · simp only [if_true]
      subst hz
      by_cases h1 : o = 1
      · subst h1
        simp only [lvlB, b1, if_true, and_self]
        cases hy : decide (y = 0)
        · simp
        · simp
      · simp [lvlB, h1]

set_option maxRecDepth 100000 in
set_option maxHeartbeats 3200000 in
theorem walk (a b c o x v y : Int) (w : World) :
    Calls Try.prog 4 #[.int .i64 a, .int .i64 b, .int .i64 c, .agg #[.int .i64 o, .int .u64 x, .int .u64 v, .int .i64 y]] w fun e w' => e = .returned (.bool true) ∧ Below w.heap.size w w' := by
  have hF := (Fr.start w).push w.heap.size rfl [.int .i64 o, .int .u64 x, .int .u64 v, .int .i64 y] 26
  go_enter Try.func4, Try.ntmps4
  go_wp2_with
    (with_reducible refine (awake3 _).mono ?_; rintro e w1 ⟨rfl, hb⟩; replace hF := hF.over hb; clear hb)
  obtain ⟨n, hn, n0, n1⟩ := cut_u1 a 8388607 (by decide) (by decide)
  rw [hn]
  clear hn
  refine (list_any n _).mono ?_
  rintro e w2 ⟨rfl, hb⟩
  replace hF := hF.over hb
  clear hb
  go_wp2_with fail
  obtain ⟨m, hm, m0, m1⟩ := cut_u1 b 64 (by decide) (by decide)
  obtain ⟨t, ht, t0, t1⟩ := cut_u1 c 16 (by decide) (by decide)
  rw [hm, ht]
  clear hm ht
  obtain ⟨z, hz⟩ : ∃ z, z = if o = 1 then 1 else y := ⟨_, rfl⟩
  obtain ⟨⟨k1, k2, k3⟩, f1, f2, f3, f4⟩ := ops_facts n m t o x v y z ⟨n0, n1⟩ ⟨m0, m1⟩ ⟨t0, t1⟩ hz
  have c1 : Hid (∀ w', Calls Try.prog 8 #[.agg #[.int .i64 1, .int .i64 n, .int .i64 0, .int .i64 1, .int .i64 100]] w' fun e w'' => e = .returned (.int .i64 0) ∧ Below w'.heap.size w' w'') := Lib.hid fun w' => by have := check_any 1 n 0 1 100 w'; rwa [k1] at this
  have c2 : Hid (∀ w', Calls Try.prog 8 #[.agg #[.int .i64 2, .int .i64 n, .int .i64 m, .int .i64 1, .int .i64 2]] w' fun e w'' => e = .returned (.int .i64 0) ∧ Below w'.heap.size w' w'') := Lib.hid fun w' => by have := check_any 2 n m 1 2 w'; rwa [k2] at this
  have c3 : Hid (∀ w', Calls Try.prog 8 #[.agg #[.int .i64 3, .int .i64 n, .int .i64 0, .int .i64 t, .int .i64 2]] w' fun e w'' => e = .returned (.int .i64 0) ∧ Below w'.heap.size w' w'') := Lib.hid fun w' => by have := check_any 3 n 0 t 2 w'; rwa [k3] at this
  have d1 : Hid (∀ w', Calls Try.prog 11 #[.agg #[.int .i64 1, .int .i64 n, .int .i64 0, .int .i64 1, .int .i64 100], .agg #[.int .i64 o, .int .u64 x, .int .u64 v, .int .i64 y]] w' fun e w'' => e = .returned (.int .i64 (opI 1 n 0 1 100 o x v y)) ∧ Below w'.heap.size w' w'') := Lib.hid fun w' => isOp_any 1 n 0 1 100 o x v y w'
  have d2 : Hid (∀ w', Calls Try.prog 11 #[.agg #[.int .i64 2, .int .i64 n, .int .i64 m, .int .i64 1, .int .i64 2], .agg #[.int .i64 o, .int .u64 x, .int .u64 v, .int .i64 y]] w' fun e w'' => e = .returned (.int .i64 (opI 2 n m 1 2 o x v y)) ∧ Below w'.heap.size w' w'') := Lib.hid fun w' => isOp_any 2 n m 1 2 o x v y w'
  have d3 : Hid (∀ w', Calls Try.prog 11 #[.agg #[.int .i64 3, .int .i64 n, .int .i64 0, .int .i64 t, .int .i64 2], .agg #[.int .i64 o, .int .u64 x, .int .u64 v, .int .i64 y]] w' fun e w'' => e = .returned (.int .i64 (opI 3 n 0 t 2 o x v y)) ∧ Below w'.heap.size w' w'') := Lib.hid fun w' => isOp_any 3 n 0 t 2 o x v y w'
  have d4 : Hid (∀ w', Calls Try.prog 11 #[.agg #[.int .i64 3, .int .i64 n, .int .i64 0, .int .i64 t, .int .i64 2], .agg #[.int .i64 o, .int .u64 x, .int .u64 v, .int .i64 z]] w' fun e w'' => e = .returned (.int .i64 (opI 3 n 0 t 2 o x v z)) ∧ Below w'.heap.size w' w'') := Lib.hid fun w' => isOp_any 3 n 0 t 2 o x v z w'
  replace hF := ((hF.push w2.heap.size rfl [.int .i64 1, .int .i64 n, .int .i64 0, .int .i64 1, .int .i64 100] 23).push (w2.heap.size + 1) (by simp) [.int .i64 2, .int .i64 n, .int .i64 m, .int .i64 1, .int .i64 2] 23).push (w2.heap.size + 1 + 1) (by simp) [.int .i64 3, .int .i64 n, .int .i64 0, .int .i64 t, .int .i64 2] 23
  clear k1 k2 k3 n0 n1 m0 m1 t0 t1
  generalize opI 1 n 0 1 100 o x v y = E1 at *
  generalize opI 2 n m 1 2 o x v y = E2 at *
  generalize opI 3 n 0 t 2 o x v y = E3 at *
  generalize opI 3 n 0 t 2 o x v z = E4 at *
  have F1 := Lib.hid f1
  have F2 := Lib.hid f2
  have F3 := Lib.hid f3
  have F4 := Lib.hid f4
  have HZ := Lib.hid hz
  clear f1 f2 f3 f4 hz
  have hlt := hF.lt 3 rfl
  generalize w2.heap.size = N at *
  have r := hF.rule 0 rfl
  have r1 := hF.rule 1 rfl
  have r2 := hF.rule 2 rfl
  have r3 := hF.rule 3 rfl
  refine (c1.out _).mono ?_
  rintro e w3 ⟨rfl, hb⟩
  replace hF := hF.over hb
  clear hb r r1 r2 r3 hlt
  have r := hF.rule 0 rfl
  have r1 := hF.rule 1 rfl
  have r2 := hF.rule 2 rfl
  have r3 := hF.rule 3 rfl
  go_wp2_with (first
    |
      (with_reducible refine (c2.out _).mono ?_; rintro e w1 ⟨rfl, hb⟩; replace hF := hF.over hb; clear hb r r1 r2 r3; have r := hF.rule 0 rfl; have r1 := hF.rule 1 rfl; have r2 := hF.rule 2 rfl; have r3 := hF.rule 3 rfl)
    |
      (with_reducible refine (c3.out _).mono ?_; rintro e w1 ⟨rfl, hb⟩; replace hF := hF.over hb; clear hb r r1 r2 r3; have r := hF.rule 0 rfl; have r1 := hF.rule 1 rfl; have r2 := hF.rule 2 rfl; have r3 := hF.rule 3 rfl)
    |
      (with_reducible refine (d1.out _).mono ?_; rintro e w1 ⟨rfl, hb⟩; replace hF := hF.over hb; clear hb r r1 r2 r3; have r := hF.rule 0 rfl; have r1 := hF.rule 1 rfl; have r2 := hF.rule 2 rfl; have r3 := hF.rule 3 rfl)
    )
  refine (d2.out _).mono ?_
  rintro e w4 ⟨rfl, hb⟩
  replace hF := hF.over hb
  clear hb r r1 r2 r3 c1 c2 c3 d1 d2
  have r := hF.rule 0 rfl
  have r1 := hF.rule 1 rfl
  have r2 := hF.rule 2 rfl
  have r3 := hF.rule 3 rfl
  by_cases h8 : o = 8
  · obtain ⟨e1, e2⟩ := F1.out h8
    subst e1 e2 h8
    go_wp2_with
      (with_reducible refine (d3.out _).mono ?_; rintro e w1 ⟨rfl, hb⟩; replace hF := hF.over hb; clear hb r r1 r2 r3; have r := hF.rule 0 rfl; have r1 := hF.rule 1 rfl; have r2 := hF.rule 2 rfl; have r3 := hF.rule 3 rfl)
    go_ret
    exact ⟨ret_bool (by simp), hF.below⟩
  · have h8b : (o == 8) = false := by simpa using h8
    by_cases h1 : o = 1
    · have hz := HZ.out
      rw [if_pos h1] at hz
      subst hz h1
      by_cases hE : E1 = 8
      · have hE4 := F3.out.2 hE
        subst hE hE4
        clear F1 F2 F3 F4
        have l0 := hF.lt 0 rfl
        have l1 := hF.lt 1 rfl
        have l2 := hF.lt 2 rfl
        have l3 := hF.lt 3 rfl
        go_wp2_with fail
        replace hF := hF.push w4.heap.size rfl [.int .i64 1, .int .u64 x, .int .u64 v, .int .i64 1] 26
        clear r r1 r2 r3 l0 l1 l2 l3
        have r := hF.rule 0 rfl
        have r1 := hF.rule 3 rfl
        refine (d4.out _).mono ?_
        rintro e w5 ⟨rfl, hb⟩
        replace hF := hF.over hb
        clear hb r r1
        have r := hF.rule 0 rfl
        have r1 := hF.rule 1 rfl
        have r2 := hF.rule 2 rfl
        have r3 := hF.rule 3 rfl
        go_wp2_with
          (with_reducible refine (d4.out _).mono ?_; rintro e w1 ⟨rfl, hb⟩; replace hF := hF.over hb; clear hb r r1 r2 r3; have r := hF.rule 0 rfl; have r1 := hF.rule 1 rfl; have r2 := hF.rule 2 rfl; have r3 := hF.rule 3 rfl)
        go_ret
        exact ⟨ret_bool (by simp), hF.below⟩
      · have hE4 : ¬ E4 = 8 := fun h => hE (F3.out.1 h)
        have hE2 : E2 = 8 := (F2.out h8).resolve_left hE
        have b1 : (E1 == 8) = false := by simpa using hE
        have b2 : (E4 == 8) = false := by simpa using hE4
        have b3 : (E1 != 8) = true := by simpa using hE
        subst hE2
        by_cases hz : E1 = 0
        · have hz4 := F4.out hz
          subst hz hz4
          clear F1 F2 F3 F4
          have l0 := hF.lt 0 rfl
          have l1 := hF.lt 1 rfl
          have l2 := hF.lt 2 rfl
          have l3 := hF.lt 3 rfl
          go_wp2_with fail
          replace hF := hF.push w4.heap.size rfl [.int .i64 1, .int .u64 x, .int .u64 v, .int .i64 1] 26
          clear r r1 r2 r3 l0 l1 l2 l3
          have r := hF.rule 0 rfl
          have r1 := hF.rule 3 rfl
          refine (d4.out _).mono ?_
          rintro e w5 ⟨rfl, hb⟩
          replace hF := hF.over hb
          clear hb r r1
          have r := hF.rule 0 rfl
          have r1 := hF.rule 1 rfl
          have r2 := hF.rule 2 rfl
          have r3 := hF.rule 3 rfl
          go_wp2_with
            (with_reducible refine (d4.out _).mono ?_; rintro e w1 ⟨rfl, hb⟩; replace hF := hF.over hb; clear hb r r1 r2 r3; have r := hF.rule 0 rfl; have r1 := hF.rule 1 rfl; have r2 := hF.rule 2 rfl; have r3 := hF.rule 3 rfl)
          go_ret
          exact ⟨ret_bool (by simp), hF.below⟩
        · have b4 : (E1 != 0) = true := by simpa using hz
          clear F1 F2 F3 F4
          have l0 := hF.lt 0 rfl
          have l1 := hF.lt 1 rfl
          have l2 := hF.lt 2 rfl
          have l3 := hF.lt 3 rfl
          go_wp2_with fail
          replace hF := hF.push w4.heap.size rfl [.int .i64 1, .int .u64 x, .int .u64 v, .int .i64 1] 26
          clear r r1 r2 r3 l0 l1 l2 l3
          have r := hF.rule 0 rfl
          have r1 := hF.rule 3 rfl
          refine (d4.out _).mono ?_
          rintro e w5 ⟨rfl, hb⟩
          replace hF := hF.over hb
          clear hb r r1
          have r := hF.rule 0 rfl
          have r1 := hF.rule 1 rfl
          have r2 := hF.rule 2 rfl
          have r3 := hF.rule 3 rfl
          go_wp2_with
            (with_reducible refine (d4.out _).mono ?_; rintro e w1 ⟨rfl, hb⟩; replace hF := hF.over hb; clear hb r r1 r2 r3; have r := hF.rule 0 rfl; have r1 := hF.rule 1 rfl; have r2 := hF.rule 2 rfl; have r3 := hF.rule 3 rfl)
          go_ret
          exact ⟨ret_bool (by simp), hF.below⟩
    · have hz := HZ.out
      rw [if_neg h1] at hz
      subst hz
      have h1b : (o == 1) = false := by simpa using h1
      by_cases hE : E1 = 8
      · have hE4 := F3.out.2 hE
        subst hE hE4
        clear F1 F2 F3 F4
        have l0 := hF.lt 0 rfl
        have l1 := hF.lt 1 rfl
        have l2 := hF.lt 2 rfl
        have l3 := hF.lt 3 rfl
        go_wp2_with fail
        replace hF := hF.push w4.heap.size rfl [.int .i64 o, .int .u64 x, .int .u64 v, .int .i64 z] 26
        clear r r1 r2 r3 l0 l1 l2 l3
        have r := hF.rule 0 rfl
        have r1 := hF.rule 3 rfl
        refine (d4.out _).mono ?_
        rintro e w5 ⟨rfl, hb⟩
        replace hF := hF.over hb
        clear hb r r1
        have r := hF.rule 0 rfl
        have r1 := hF.rule 1 rfl
        have r2 := hF.rule 2 rfl
        have r3 := hF.rule 3 rfl
        go_wp2_with
          (with_reducible refine (d4.out _).mono ?_; rintro e w1 ⟨rfl, hb⟩; replace hF := hF.over hb; clear hb r r1 r2 r3; have r := hF.rule 0 rfl; have r1 := hF.rule 1 rfl; have r2 := hF.rule 2 rfl; have r3 := hF.rule 3 rfl)
        go_ret
        exact ⟨ret_bool (by simp), hF.below⟩
      · have hE4 : ¬ E4 = 8 := fun h => hE (F3.out.1 h)
        have hE2 : E2 = 8 := (F2.out h8).resolve_left hE
        have b1 : (E1 == 8) = false := by simpa using hE
        have b2 : (E4 == 8) = false := by simpa using hE4
        have b3 : (E1 != 8) = true := by simpa using hE
        subst hE2
        by_cases hz : E1 = 0
        · have hz4 := F4.out hz
          subst hz hz4
          clear F1 F2 F3 F4
          have l0 := hF.lt 0 rfl
          have l1 := hF.lt 1 rfl
          have l2 := hF.lt 2 rfl
          have l3 := hF.lt 3 rfl
          go_wp2_with fail
          replace hF := hF.push w4.heap.size rfl [.int .i64 o, .int .u64 x, .int .u64 v, .int .i64 z] 26
          clear r r1 r2 r3 l0 l1 l2 l3
          have r := hF.rule 0 rfl
          have r1 := hF.rule 3 rfl
          refine (d4.out _).mono ?_
          rintro e w5 ⟨rfl, hb⟩
          replace hF := hF.over hb
          clear hb r r1
          have r := hF.rule 0 rfl
          have r1 := hF.rule 1 rfl
          have r2 := hF.rule 2 rfl
          have r3 := hF.rule 3 rfl
          go_wp2_with
            (with_reducible refine (d4.out _).mono ?_; rintro e w1 ⟨rfl, hb⟩; replace hF := hF.over hb; clear hb r r1 r2 r3; have r := hF.rule 0 rfl; have r1 := hF.rule 1 rfl; have r2 := hF.rule 2 rfl; have r3 := hF.rule 3 rfl)
          go_ret
          exact ⟨ret_bool (by simp), hF.below⟩
        · have b4 : (E1 != 0) = true := by simpa using hz
          clear F1 F2 F3 F4
          have l0 := hF.lt 0 rfl
          have l1 := hF.lt 1 rfl
          have l2 := hF.lt 2 rfl
          have l3 := hF.lt 3 rfl
          go_wp2_with fail
          replace hF := hF.push w4.heap.size rfl [.int .i64 o, .int .u64 x, .int .u64 v, .int .i64 z] 26
          clear r r1 r2 r3 l0 l1 l2 l3
          have r := hF.rule 0 rfl
          have r1 := hF.rule 3 rfl
          refine (d4.out _).mono ?_
          rintro e w5 ⟨rfl, hb⟩
          replace hF := hF.over hb
          clear hb r r1
          have r := hF.rule 0 rfl
          have r1 := hF.rule 1 rfl
          have r2 := hF.rule 2 rfl
          have r3 := hF.rule 3 rfl
          go_wp2_with
            (with_reducible refine (d4.out _).mono ?_; rintro e w1 ⟨rfl, hb⟩; replace hF := hF.over hb; clear hb r r1 r2 r3; have r := hF.rule 0 rfl; have r1 := hF.rule 1 rfl; have r2 := hF.rule 2 rfl; have r3 := hF.rule 3 rfl)
          go_ret
          exact ⟨ret_bool (by simp), hF.below⟩

theorem own : ownKnob Try.prog.godebug = none := by kernel_rfl
theorem laidOut : laidOutB Try.prog = true := by kernel_rfl

set_option maxRecDepth 100000 in
theorem lifted (os : Os) (started : os.Started) (H : Type) (enc : TypeId × Value → H) :
    ReturnsInHanded {} Try.checked os 4 .any (Rows.confOpsSpec.pre6 enc Try.prog Try.f4 Rows.confOpsRow.domain false) (Rows.confOpsSpec.post enc Try.prog Try.f4 false true false false) := by
  refine returnsInHanded_of_change (C := Try.checked) own started (by kernel_rfl) Try.func4
    (ChangeSpec.witness6 (enc := enc) (C := Try.checked) false ⟨#[], #[.int .i64 0, .int .i64 0, .int .i64 0, .agg #[.int .i64 0, .int .u64 0, .int .u64 0, .int .i64 0]], []⟩ 8 (by kernel_rfl) (by kernel_rfl) (by kernel_rfl) (by kernel_rfl)) ?_
  intro W base args ds gs before hval0 hW hcnd _
  have hval : ∀ (j : Nat) t v, Try.f4.params[j]? = some t → args[j]? = some v → Value.okWide Try.prog W .any base t v := hval0
  have hW' := hW
  obtain ⟨p, q, hA0, hV, rfl, hfz, hnd⟩ := hW
  have hA : DataW.TrodAll enc Try.prog W 0 (fun _ => true) true Try.f4.params.toList args.toList ds p := hA0
  rw [Try.params4] at hA hval
  obtain ⟨v0, vs0, d0, ds0, p0, q0, hargs, rfl, rfl, g0, r0⟩ := trodAll_cons hA
  obtain ⟨v1, vs1, d1, ds1, p1, q1, rfl, rfl, rfl, g1, r1⟩ := trodAll_cons r0
  obtain ⟨v2, vs2, d2, ds2, p2, q2, rfl, rfl, rfl, g2, r2⟩ := trodAll_cons r1
  obtain ⟨v3, vs3, d3, ds3, p3, q3, rfl, rfl, rfl, g3, r3⟩ := trodAll_cons r2
  obtain ⟨rfl, rfl, rfl⟩ := trodAll_nil r3
  obtain rfl : args = #[v0, v1, v2, v3] := by cases args; simp_all
  obtain ⟨rfl, rfl⟩ := trodVars_none hV
  obtain ⟨a0, rfl, rfl, rfl, w0⟩ := open_int Try.underlying3 (hval 0 3 v0 rfl rfl) g0
  have h0 := i64_in w0
  obtain ⟨a1, rfl, rfl, rfl, w1⟩ := open_int Try.underlying3 (hval 1 3 v1 rfl rfl) g1
  have h1 := i64_in w1
  obtain ⟨a2, rfl, rfl, rfl, w2⟩ := open_int Try.underlying3 (hval 2 3 v2 rfl rfl) g2
  have h2 := i64_in w2
  obtain ⟨cs3, rfl, z3, H3⟩ := open_flat (ss := [.num .i64, .num .u64, .num .u64, .num .i64]) Try.underlying26 (by kernel_rfl) (by kernel_rfl) ⟨Try.underlying3, Try.underlying24, Try.underlying24, Try.underlying3, trivial⟩ (hval 3 26 v3 rfl rfl) g3
  obtain ⟨l3, rfl, z3⟩ := list_of z3
  obtain ⟨x3_0, x3_1, x3_2, x3_3, rfl⟩ := list4 z3
  obtain ⟨_, e, a3_0, rfl, w3_0⟩ := H3 0 _ rfl
  obtain rfl : x3_0 = .int .i64 a3_0 := by simpa using e
  clear e
  have h3_0 := i64_in w3_0
  obtain ⟨_, e, a3_1, rfl, w3_1⟩ := H3 1 _ rfl
  obtain rfl : x3_1 = .int .u64 a3_1 := by simpa using e
  clear e
  have h3_1 := u64_in w3_1
  obtain ⟨_, e, a3_2, rfl, w3_2⟩ := H3 2 _ rfl
  obtain rfl : x3_2 = .int .u64 a3_2 := by simpa using e
  clear e
  have h3_2 := u64_in w3_2
  obtain ⟨_, e, a3_3, rfl, w3_3⟩ := H3 3 _ rfl
  obtain rfl : x3_3 = .int .i64 a3_3 := by simpa using e
  clear e
  have h3_3 := i64_in w3_3
  clear H3
  clear hA0 hval0
  refine (walk a0 a1 a2 a3_0 a3_1 a3_2 a3_3 W).mono fun e W' ⟨he, hg⟩ => ?_
  subst he
  exact ⟨_, rfl, law_post laidOut (by kernel_rfl) (by kernel_rfl) Try.underlying4 rfl rfl hW' hg⟩

theorem over : Rows.confOpsRow.holds Try.pinned (OpenSpec.ofChange Rows.confOpsSpec) :=
  OpenClaim.holds_of_wide 4 Try.f4 rfl rfl rfl rfl rfl rfl rfl ⟨rfl, rfl, rfl, rfl, rfl⟩ rfl rfl rfl rfl rfl (by kernel_rfl) Try.func4 (by kernel_rfl)
    (of_decide_eq_true (by kernel_rfl)) (by unfold Func.isWrapper; first | (rw [if_pos (by decide +kernel)]; kernel_rfl) | (rw [if_neg (by decide +kernel)]; exact ⟨rfl, rfl⟩))
    (fun os started H enc _ => lifted os started H enc)

/-- THE STATEMENT. -/
theorem proved : Rows.ConfOpsSaid := over
#print axioms proved
end Go.Proofs.Ytmcjjkljkccgoaa.confOps
