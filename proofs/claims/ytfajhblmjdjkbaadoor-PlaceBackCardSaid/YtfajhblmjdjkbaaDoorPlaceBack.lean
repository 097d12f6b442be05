/- PlaceBack: each number is one place's, each place has one number, and the next number is the next place's: so the law answers true, for every input. -/
import Derived.Test.YtfajhblmjdjkbaaDoorPlaceE
import Derived.Test.YtfajhblmjdjkbaaDoorPlaceW
import Derived.Test.YtfajhblmjdjkbaaDoorPlaceG
import Derived.Test.YtfajhblmjdjkbaaDoorOpenFlat
import Derived.Test.YtfajhblmjdjkbaaDoorCards
namespace Go.Proofs.YtfajhblmjdjkbaaDoor.placeBack
open Go.ChangeShapes Go.WideShapes Go.ChangeAt Go.RowKit

/-- What the place of a number comes to, of a structure that can be. -/
theorem facts {k s b h l n : Int} (hn : hasB k s b h l n = true) : placeB k s b h l (atI k s b h l n).1 (atI k s b h l n).2.1 (atI k s b h l n).2.2 = true ∧ placeI k s b h l (atI k s b h l n).1 (atI k s b h l n).2.1 (atI k s b h l n).2.2 = n ∧
    moreB (cellsI k s b h l) s (atI k s b h l n).1 (atI k s b h l n).2.1 (atI k s b h l n).2.2 = hasB k s b h l (n + 1) ∧
    (hasB k s b h l (n + 1) = true → atI k s b h l (n + 1) = nextP (rootsI k s b h l) (cellsI k s b h l) (atI k s b h l n).1 (atI k s b h l n).2.1 (atI k s b h l n).2.2) := by
  have hA : atI k s b h l n = atP (rootsI k s b h l) (cellsI k s b h l) n := by unfold atI; rw [hn]; rfl
  have hn' := hn
  unfold hasB at hn'
  rw [decide_eq_true_iff] at hn'
  have hc : chkI k s b h l = 0 := by
    by_cases hc : chkI k s b h l = 0
    · exact hc
    · have : countI k s b h l = 0 := by simp [countI, hc]
      omega
  obtain ⟨d, -, -, -⟩ := dim_of hc
  have hN : countI k s b h l = 3 + rootsI k s b h l + s * cellsI k s b h l := by unfold countI; rw [if_pos hc]
  obtain ⟨h1, h2⟩ := at_is d hn'.1 (by omega)
  obtain ⟨h3, h4⟩ := next_at d h1
  rw [hA, placeB_ok hc]
  have e : placeI k s b h l (atP (rootsI k s b h l) (cellsI k s b h l) n).1 (atP (rootsI k s b h l) (cellsI k s b h l) n).2.1 (atP (rootsI k s b h l) (cellsI k s b h l) n).2.2 = n := by
    unfold placeI
    rw [placeB_ok hc, h1, if_pos rfl, h2]
  have e2 : moreB (cellsI k s b h l) s (atP (rootsI k s b h l) (cellsI k s b h l) n).1 (atP (rootsI k s b h l) (cellsI k s b h l) n).2.1 (atP (rootsI k s b h l) (cellsI k s b h l) n).2.2 = hasB k s b h l (n + 1) := by
    rw [h3, h2]
    unfold hasB
    rw [hN]
  refine ⟨h1, e, e2, fun hh => ?_⟩
  have hA2 : atI k s b h l (n + 1) = atP (rootsI k s b h l) (cellsI k s b h l) (n + 1) := by unfold atI; rw [hh]; rfl
  rw [hA2]
  rw [e2, h2] at h4
  exact h4 hh
/-- A place's number leads back to it. -/
theorem back {k s b h l x y z : Int} (hp : placeB k s b h l x y z = true) : hasB k s b h l (placeI k s b h l x y z) = true ∧ atI k s b h l (placeI k s b h l x y z) = (x, y, z) := by
  have hc : chkI k s b h l = 0 := by
    by_cases hc : chkI k s b h l = 0
    · exact hc
    · rw [(placeB_no hc).1] at hp; cases hp
  obtain ⟨d, -, -, -⟩ := dim_of hc
  have hN : countI k s b h l = 3 + rootsI k s b h l + s * cellsI k s b h l := by unfold countI; rw [if_pos hc]
  have hI : placeI k s b h l x y z = numI (rootsI k s b h l) (cellsI k s b h l) x y z := by unfold placeI; rw [hp]; rfl
  rw [placeB_ok hc] at hp
  have hn := num_in d hp
  have hh : hasB k s b h l (placeI k s b h l x y z) = true := by
    unfold hasB
    rw [decide_eq_true_iff, hI, hN]
    exact hn
  refine ⟨hh, ?_⟩
  unfold atI
  rw [hh, hI, if_pos rfl]
  exact at_num d hp

/-- What the calls of one round come to. -/
theorem steps {k s b h l n : Int} (hn : hasB k s b h l n = true) : ∃ (q1 q2 q3 p1 p2 p3 r1 r2 r3 : Int) (m : Bool),
    (∀ v, Calls Tryd.prog 15 #[.agg #[.int .i64 k, .int .i64 s, .int .i64 b, .int .i64 h, .int .i64 l], .int .i64 n] v fun e w' => e = .returned (.tuple #[.agg #[.int .i64 q1, .int .i64 q2, .int .i64 q3], .bool true]) ∧ Below v.heap.size v w') ∧
    (∀ v, Calls Tryd.prog 9 #[.agg #[.int .i64 k, .int .i64 s, .int .i64 b, .int .i64 h, .int .i64 l], .agg #[.int .i64 q1, .int .i64 q2, .int .i64 q3]] v fun e w' => e = .returned (.tuple #[.int .i64 n, .bool true]) ∧ Below v.heap.size v w') ∧
    (∀ v, Calls Tryd.prog 24 #[.agg #[.int .i64 k, .int .i64 s, .int .i64 b, .int .i64 h, .int .i64 l], .agg #[.int .i64 q1, .int .i64 q2, .int .i64 q3]] v fun e w' => e = .returned (.tuple #[.agg #[.int .i64 p1, .int .i64 p2, .int .i64 p3], .bool m]) ∧ Below v.heap.size v w') ∧
    (∀ v, Calls Tryd.prog 15 #[.agg #[.int .i64 k, .int .i64 s, .int .i64 b, .int .i64 h, .int .i64 l], .int .i64 (n + 1)] v fun e w' => e = .returned (.tuple #[.agg #[.int .i64 r1, .int .i64 r2, .int .i64 r3], .bool m]) ∧ Below v.heap.size v w') ∧
    (m = true → r1 = p1 ∧ r2 = p2 ∧ r3 = p3) := by
  obtain ⟨f1, f2, f3, f4⟩ := facts hn
  refine ⟨(atI k s b h l n).1, (atI k s b h l n).2.1, (atI k s b h l n).2.2, (nextP (rootsI k s b h l) (cellsI k s b h l) (atI k s b h l n).1 (atI k s b h l n).2.1 (atI k s b h l n).2.2).1, (nextP (rootsI k s b h l) (cellsI k s b h l) (atI k s b h l n).1 (atI k s b h l n).2.1 (atI k s b h l n).2.2).2.1, (nextP (rootsI k s b h l) (cellsI k s b h l) (atI k s b h l n).1 (atI k s b h l n).2.1 (atI k s b h l n).2.2).2.2, (atI k s b h l (n + 1)).1, (atI k s b h l (n + 1)).2.1, (atI k s b h l (n + 1)).2.2, hasB k s b h l (n + 1), fun v => ?_, fun v => ?_, fun v => ?_, fun v => at_any k s b h l (n + 1) v, fun hm => ?_⟩
  · have := at_any k s b h l n v
    rwa [hn] at this
  · have := number_any k s b h l (atI k s b h l n).1 (atI k s b h l n).2.1 (atI k s b h l n).2.2 v
    rwa [f1, f2] at this
  · have := refAfter_any k s b h l (atI k s b h l n).1 (atI k s b h l n).2.1 (atI k s b h l n).2.2 f1 v
    rwa [f3] at this
  · rw [f4 hm]
    exact ⟨rfl, rfl, rfl⟩
theorem has_in {k s b h l n : Int} (hn : hasB k s b h l n = true) : 0 ≤ n ∧ n < countI k s b h l := by
  unfold hasB at hn
  rwa [decide_eq_true_iff] at hn
theorem count_in (k s b h l : Int) : 0 ≤ countI k s b h l ∧ countI k s b h l ≤ 1099511627776 := by
  unfold countI
  split
  · next hc =>
    obtain ⟨d, -, -, -⟩ := dim_of hc
    have := sc_in d
    have := d.r0
    have := d.r1
    omega
  · omega

set_option maxRecDepth 100000 in
set_option maxHeartbeats 6400000 in
theorem walk (k s b h l n x y z : Int) (w : World) (hg : Glo w) :
    Calls Tryd.prog 5 #[.agg #[.int .i64 k, .int .i64 s, .int .i64 b, .int .i64 h, .int .i64 l], .int .i64 n, .agg #[.int .i64 x, .int .i64 y, .int .i64 z]] w fun e w' => e = .returned (.bool true) ∧ Below w.heap.size w w' := by
  have hF := ((Fr.start w).push w.heap.size rfl [.int .i64 k, .int .i64 s, .int .i64 b, .int .i64 h, .int .i64 l] 23).push (w.heap.size + 1) (by simp) [.int .i64 x, .int .i64 y, .int .i64 z] 25
  have r := hF.rule 0 rfl
  have r1 := hF.rule 1 rfl
  have HG := Lib.hid hg
  obtain ⟨hN0, hN1⟩ := count_in k s b h l
  have c0 : Hid (∀ v, Calls Tryd.prog 16 #[.agg #[.int .i64 k, .int .i64 s, .int .i64 b, .int .i64 h, .int .i64 l]] v fun e w' => e = .returned (.int .i64 (countI k s b h l)) ∧ Below v.heap.size v w') := Lib.hid fun v => count_any k s b h l v
  have HH : Hid (∀ i, 0 ≤ i → i < countI k s b h l → hasB k s b h l i = true) := Lib.hid fun i h0 h1 => by unfold hasB; rw [decide_eq_true_iff]; exact ⟨h0, h1⟩
  have hP := @back k s b h l x y z
  have HL : Hid (placeB k s b h l x y z = true → countI k s b h l ≠ 0) := Lib.hid fun hp => by have := has_in (hP hp).1; omega
  clear hg
  generalize countI k s b h l = N at *
  go_enter Tryd.func5, Tryd.ntmps5
  go_wp2_with fail
  refine (awake5 _ (HG.out.keep hF.below (Nat.le_refl _))).mono ?_
  rintro e w1 ⟨rfl, hb⟩
  replace hF := hF.over hb
  clear hb r r1
  have r := hF.rule 0 rfl
  have r1 := hF.rule 1 rfl
  go_wp2_with fail
  refine (number_any _ _ _ _ _ _ _ _ _).mono ?_
  rintro e w2 ⟨rfl, hb⟩
  replace hF := hF.over hb
  clear hb r r1
  cases hp : placeB k s b h l x y z
  · clear hP HL
    have r := hF.rule 0 rfl
    have r1 := hF.rule 1 rfl
    by_cases hn : N = 0
    · subst hn
      go_wp2_with fail
      refine (c0.out _).mono ?_
      rintro e w3 ⟨rfl, hb⟩
      replace hF := hF.over hb
      clear hb r r1
      have r := hF.rule 0 rfl
      go_wp2_with fail
      go_ret
      exact ⟨rfl, hF.below⟩
    · clear r r1
      replace hF := hF.tail
      have r := hF.rule 0 rfl
      go_wp2_with fail
      refine (c0.out _).mono ?_
      rintro e w4 ⟨rfl, hb⟩
      replace hF := hF.over hb
      clear hb r
      have r := hF.rule 0 rfl
      have hn' : (N == 0) = false := by simpa using hn
      go_wp2_with fail
      refine (c0.out _).mono ?_
      rintro e w5 ⟨rfl, hb⟩
      replace hF := hF.over hb
      clear hb r
      have r := hF.rule 0 rfl
      go_wp2_with fail
      obtain ⟨i, hi, i0, i1⟩ := cut_u n N (by omega) (by omega)
      rw [hi]
      obtain ⟨q1, q2, q3, p1, p2, p3, r1, r2, r3, m, d1, d2, d3, d4, hm⟩ := steps (HH.out i i0 i1)
      have e1 : i + 1 ≤ 1099511627776 := by omega
      have HM := Lib.hid hm
      have k1 := Lib.hid d1
      have k2 := Lib.hid d2
      have k3 := Lib.hid d3
      have k4 := Lib.hid d4
      clear hi d1 d2 d3 d4 hm c0 HH hN1 hn' hn i1
      refine (k1.out _).mono ?_
      rintro e w6 ⟨rfl, hb⟩
      replace hF := (hF.over hb).push w6.heap.size rfl [.int .i64 q1, .int .i64 q2, .int .i64 q3] 25
      clear hb r
      have r := hF.rule 0 rfl
      have rc := hF.rule 1 rfl
      go_wp2_with fail
      refine (k2.out _).mono ?_
      rintro e w7 ⟨rfl, hb⟩
      replace hF := hF.over hb
      clear hb r rc
      have r := hF.rule 0 rfl
      have rc := hF.rule 1 rfl
      go_wp2_with fail
      refine (k3.out _).mono ?_
      rintro e w8 ⟨rfl, hb⟩
      replace hF := (hF.over hb).push w8.heap.size rfl [.int .i64 p1, .int .i64 p2, .int .i64 p3] 25
      clear hb r rc
      have r := hF.rule 0 rfl
      have rc := hF.rule 2 rfl
      go_wp2_with fail
      refine (k4.out _).mono ?_
      rintro e w9 ⟨rfl, hb⟩
      replace hF := (hF.over hb).push w9.heap.size rfl [.int .i64 r1, .int .i64 r2, .int .i64 r3] 25
      clear hb r rc
      have r := hF.rule 0 rfl
      have r1 := hF.rule 1 rfl
      cases m
      · go_wp2_with fail
        go_ret
        exact ⟨rfl, hF.below⟩
      · obtain ⟨rfl, rfl, rfl⟩ := HM.out rfl
        go_wp2_with fail
        go_ret
        exact ⟨ret_bool (by simp), hF.below⟩
  · have hn := HL.out hp
    obtain ⟨h1, h2⟩ := hP hp
    have kb : Hid (∀ v, Calls Tryd.prog 15 #[.agg #[.int .i64 k, .int .i64 s, .int .i64 b, .int .i64 h, .int .i64 l], .int .i64 (placeI k s b h l x y z)] v fun e w' => e = .returned (.tuple #[.agg #[.int .i64 x, .int .i64 y, .int .i64 z], .bool true]) ∧ Below v.heap.size v w') := Lib.hid fun v => by
      have := at_any k s b h l (placeI k s b h l x y z) v
      rwa [h1, h2] at this
    clear hP HL hp h1 h2
    generalize placeI k s b h l x y z = PI at *
    have r := hF.rule 0 rfl
    have r1 := hF.rule 1 rfl
    go_wp2_with fail
    refine (kb.out _).mono ?_
    rintro e w3 ⟨rfl, hb⟩
    replace hF := (hF.over hb).push w3.heap.size rfl [.int .i64 x, .int .i64 y, .int .i64 z] 25
    clear hb r r1 kb
    have r := hF.rule 0 rfl
    have r1 := hF.rule 1 rfl
    have r2 := hF.rule 2 rfl
    go_wp2_with fail
    clear r r1 r2
    replace hF := hF.tail.tail
    have r := hF.rule 0 rfl
    refine (c0.out _).mono ?_
    rintro e w4 ⟨rfl, hb⟩
    replace hF := hF.over hb
    clear hb r
    have r := hF.rule 0 rfl
    have hn' : (N == 0) = false := by simpa using hn
    go_wp2_with fail
    refine (c0.out _).mono ?_
    rintro e w5 ⟨rfl, hb⟩
    replace hF := hF.over hb
    clear hb r
    have r := hF.rule 0 rfl
    go_wp2_with fail
    obtain ⟨i, hi, i0, i1⟩ := cut_u n N (by omega) (by omega)
    rw [hi]
    obtain ⟨q1, q2, q3, p1, p2, p3, r1, r2, r3, m, d1, d2, d3, d4, hm⟩ := steps (HH.out i i0 i1)
    have e1 : i + 1 ≤ 1099511627776 := by omega
    have HM := Lib.hid hm
    have k1 := Lib.hid d1
    have k2 := Lib.hid d2
    have k3 := Lib.hid d3
    have k4 := Lib.hid d4
    clear hi d1 d2 d3 d4 hm c0 HH hN1 hn' hn i1
    refine (k1.out _).mono ?_
    rintro e w6 ⟨rfl, hb⟩
    replace hF := (hF.over hb).push w6.heap.size rfl [.int .i64 q1, .int .i64 q2, .int .i64 q3] 25
    clear hb r
    have r := hF.rule 0 rfl
    have rc := hF.rule 1 rfl
    go_wp2_with fail
    refine (k2.out _).mono ?_
    rintro e w7 ⟨rfl, hb⟩
    replace hF := hF.over hb
    clear hb r rc
    have r := hF.rule 0 rfl
    have rc := hF.rule 1 rfl
    go_wp2_with fail
    refine (k3.out _).mono ?_
    rintro e w8 ⟨rfl, hb⟩
    replace hF := (hF.over hb).push w8.heap.size rfl [.int .i64 p1, .int .i64 p2, .int .i64 p3] 25
    clear hb r rc
    have r := hF.rule 0 rfl
    have rc := hF.rule 2 rfl
    go_wp2_with fail
    refine (k4.out _).mono ?_
    rintro e w9 ⟨rfl, hb⟩
    replace hF := (hF.over hb).push w9.heap.size rfl [.int .i64 r1, .int .i64 r2, .int .i64 r3] 25
    clear hb r rc
    have r := hF.rule 0 rfl
    have r1 := hF.rule 1 rfl
    cases m
    · go_wp2_with fail
      go_ret
      exact ⟨rfl, hF.below⟩
    · obtain ⟨rfl, rfl, rfl⟩ := HM.out rfl
      go_wp2_with fail
      go_ret
      exact ⟨ret_bool (by simp), hF.below⟩

theorem own : ownKnob Tryd.prog.godebug = none := by kernel_rfl
theorem laidOut : laidOutB Tryd.prog = true := by kernel_rfl

set_option maxRecDepth 100000 in
theorem lifted (os : Os) (started : os.Started) (H : Type) (enc : TypeId × Value → H) :
    ReturnsInHanded {} Tryd.checked os 5 .any (fun w args => (Rows.placeBackSpec.pre enc Tryd.prog Tryd.f5 [] false w args ∧ laidMetH Tryd.prog laid4 w) ∧ sizedMet enc Tryd.prog Tryd.f5 (OpenSpec.ofChange Rows.placeBackSpec) false w args)
      (Rows.placeBackSpec.post enc Tryd.prog Tryd.f5 false true false false) := by
  refine returnsInHanded_of_change_and (C := Tryd.checked) (X := fun w _ => laidMetH Tryd.prog laid4 w) (fun _ _ _ hh h => h.of_heap hh) own started (by kernel_rfl) Tryd.func5
    (ChangeSpec.witness_shaped (enc := enc) (C := Tryd.checked) (os := os) (X := fun w _ => laidMetH Tryd.prog laid4 w) false (World.doorLaid Tryd.prog 65 os) #[.agg #[.int .i64 0, .int .i64 0, .int .i64 0, .int .i64 0, .int .i64 0], .int .i64 0, .agg #[.int .i64 0, .int .i64 0, .int .i64 0]] 8 rfl (World.shaped_of_RefB (by kernel_rfl) (by kernel_rfl)) (by kernel_rfl) (by kernel_rfl) (by kernel_rfl) (door_met os _)) ?_
  intro W base args ds gs before hval0 hW _ _ hL _
  have hval : ∀ (j : Nat) t v, Tryd.f5.params[j]? = some t → args[j]? = some v → Value.okWide Tryd.prog W .any base t v := hval0
  have hW' := hW
  obtain ⟨p, q, hA0, hV, rfl, hfz, hnd⟩ := hW
  have hA : DataW.TrodAll enc Tryd.prog W 0 (fun _ => true) true Tryd.f5.params.toList args.toList ds p := hA0
  rw [Tryd.params5] at hA hval
  obtain ⟨v0, vs0, d0, ds0, p0, q0, hargs, rfl, rfl, g0, r0⟩ := trodAll_cons hA
  obtain ⟨v1, vs1, d1, ds1, p1, q1, rfl, rfl, rfl, g1, r1⟩ := trodAll_cons r0
  obtain ⟨v2, vs2, d2, ds2, p2, q2, rfl, rfl, rfl, g2, r2⟩ := trodAll_cons r1
  obtain ⟨rfl, rfl, rfl⟩ := trodAll_nil r2
  obtain rfl : args = #[v0, v1, v2] := by cases args; simp_all
  obtain ⟨rfl, rfl⟩ := trodVars_none hV
  obtain ⟨a1, rfl, rfl, rfl, w1⟩ := open_int Tryd.underlying3 (hval 1 3 v1 rfl rfl) g1
  have h1 := i64_in w1
  obtain ⟨cs0, rfl, z0, H0⟩ := open_flat (ss := [.num .i64, .num .i64, .num .i64, .num .i64, .num .i64]) Tryd.underlying23 (by kernel_rfl) (by kernel_rfl) ⟨Tryd.underlying3, Tryd.underlying3, Tryd.underlying3, Tryd.underlying3, Tryd.underlying3, trivial⟩ (hval 0 23 v0 rfl rfl) g0
  obtain ⟨l0, rfl, z0⟩ := list_of z0
  obtain ⟨x0_0, x0_1, x0_2, x0_3, x0_4, rfl⟩ := list5 z0
  obtain ⟨_, e, a0_0, rfl, w0_0⟩ := H0 0 _ rfl
  obtain rfl : x0_0 = .int .i64 a0_0 := by simpa using e
  clear e
  have h0_0 := i64_in w0_0
  obtain ⟨_, e, a0_1, rfl, w0_1⟩ := H0 1 _ rfl
  obtain rfl : x0_1 = .int .i64 a0_1 := by simpa using e
  clear e
  have h0_1 := i64_in w0_1
  obtain ⟨_, e, a0_2, rfl, w0_2⟩ := H0 2 _ rfl
  obtain rfl : x0_2 = .int .i64 a0_2 := by simpa using e
  clear e
  have h0_2 := i64_in w0_2
  obtain ⟨_, e, a0_3, rfl, w0_3⟩ := H0 3 _ rfl
  obtain rfl : x0_3 = .int .i64 a0_3 := by simpa using e
  clear e
  have h0_3 := i64_in w0_3
  obtain ⟨_, e, a0_4, rfl, w0_4⟩ := H0 4 _ rfl
  obtain rfl : x0_4 = .int .i64 a0_4 := by simpa using e
  clear e
  have h0_4 := i64_in w0_4
  clear H0
  obtain ⟨cs2, rfl, z2, H2⟩ := open_flat (ss := [.num .i64, .num .i64, .num .i64]) Tryd.underlying25 (by kernel_rfl) (by kernel_rfl) ⟨Tryd.underlying3, Tryd.underlying3, Tryd.underlying3, trivial⟩ (hval 2 25 v2 rfl rfl) g2
  obtain ⟨l2, rfl, z2⟩ := list_of z2
  obtain ⟨x2_0, x2_1, x2_2, rfl⟩ := list3 z2
  obtain ⟨_, e, a2_0, rfl, w2_0⟩ := H2 0 _ rfl
  obtain rfl : x2_0 = .int .i64 a2_0 := by simpa using e
  clear e
  have h2_0 := i64_in w2_0
  obtain ⟨_, e, a2_1, rfl, w2_1⟩ := H2 1 _ rfl
  obtain rfl : x2_1 = .int .i64 a2_1 := by simpa using e
  clear e
  have h2_1 := i64_in w2_1
  obtain ⟨_, e, a2_2, rfl, w2_2⟩ := H2 2 _ rfl
  obtain rfl : x2_2 = .int .i64 a2_2 := by simpa using e
  clear e
  have h2_2 := i64_in w2_2
  clear H2
  clear hA0 hval0
  have hG := glo_of_laid hL
  refine (walk a0_0 a0_1 a0_2 a0_3 a0_4 a1 a2_0 a2_1 a2_2 W hG).mono fun e W' ⟨he, hg⟩ => ?_
  subst he
  exact ⟨_, rfl, law_post laidOut (by kernel_rfl) (by kernel_rfl) Tryd.underlying4 rfl rfl hW' hg⟩

theorem over : Rows.placeBackRow.holds Tryd.pinned (OpenSpec.ofChange Rows.placeBackSpec) :=
  OpenClaim.holds_of_wide 5 Tryd.f5 rfl rfl rfl rfl rfl rfl rfl ⟨rfl, rfl, rfl, rfl, rfl⟩ rfl rfl rfl rfl rfl (by kernel_rfl) Tryd.func5 (by kernel_rfl)
    (of_decide_eq_true (by kernel_rfl)) (by unfold Func.isWrapper; first | (rw [if_pos (by decide +kernel)]; kernel_rfl) | (rw [if_neg (by decide +kernel)]; exact ⟨rfl, rfl⟩))
    (fun os started H enc _ => lifted os started H enc)

/-- THE STATEMENT. -/
theorem proved : Rows.PlaceBackCardSaid :=
  Claim7.holds_tied_plain_at .later [] [.data, .data, .data, .data] true _ false
    over (fun _ h => by cases h) (by kernel_rfl) (fun _ h => by cases h) placeBack_row_tie rfl ⟨rfl, rfl⟩ (by kernel_rfl) rfl
    (fun f fn hf hfn => by
      obtain rfl : f = 5 := Option.some.inj ((show Tryd.prog.funcNamed "revenant/revenantlaw05.PlaceBack" = some 5 by kernel_rfl).symm.trans hf) |>.symm
      obtain rfl : fn = Tryd.f5 := (Option.some.inj (Tryd.func5.symm.trans hfn)).symm
      exact ⟨by kernel_rfl, fun j t ht => by
        rw [Tryd.params5] at ht
        have hm : t ∈ [23, 3, 25] := by simpa using Array.mem_of_getElem? ht
        have hall : ([23, 3, 25].all fun u => !Tryd.prog.wantsStandIn u) = true := by kernel_rfl
        exact (show Tryd.prog.wantsStandIn t = false by simpa using List.all_eq_true.1 hall t hm)⟩)
    (by kernel_rfl)
#print axioms proved
end Go.Proofs.YtfajhblmjdjkbaaDoor.placeBack
