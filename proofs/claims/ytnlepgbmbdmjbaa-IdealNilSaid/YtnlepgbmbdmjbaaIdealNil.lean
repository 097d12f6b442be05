/- IdealNil: of an ideal world that isn't there each answer is nothing: so the law answers true, for every input. -/
import Derived.Test.YtnlepgbmbdmjbaaIdealW
import Derived.Test.YtnlepgbmbdmjbaaIdealN
import Derived.Test.YtnlepgbmbdmjbaaLaw
import Derived.Test.YtnlepgbmbdmjbaaOpenDeep
import Derived.Test.YtnlepgbmbdmjbaaRows
namespace Go.Proofs.Ytnlepgbmbdmjbaa.idealNil
open Go.ChangeShapes Go.WideShapes Go.ChangeAt Go.RowKit Go.Maps
set_option maxRecDepth 100000

set_option maxHeartbeats 1600000 in
theorem walk (x y z d v e : Int) (b : Bool) (w : World) :
    Calls Try.prog 4 #[.agg #[.int .i64 x, .int .i64 y, .int .i64 z, .int .i64 d], .agg #[.int .u64 v, .int .i64 e, .bool b]] w fun e w' => e = .returned (.bool true) ∧ Below w.heap.size w w' := by
  have hE := ((Env.start w).box w.heap.size rfl [.int .i64 x, .int .i64 y, .int .i64 z, .int .i64 d] 41).box (w.heap.size + 1) (by simp) [.int .u64 v, .int .i64 e, .bool b] 37
  go_enter Try.func4, Try.ntmps4
  go_wp2_with fail
  refine (awake9 _).mono ?_
  rintro e w1 ⟨rfl, hb⟩
  replace hE := hE.over hb
  clear hb
  obtain ⟨P, hPw⟩ : ∃ P, P = w.heap.size := ⟨_, rfl⟩
  rw [← hPw] at hE ⊢
  have HPW := Lib.hid hPw
  clear hPw
  have r0 := hE.rule 0 rfl
  have r1 := hE.rule 1 rfl
  go_wp2_with (first | (with_reducible refine (storeNil_i _ _ _ _ _ _ _ _).mono ?_; rintro e w1 ⟨rfl, hb⟩; replace hE := hE.over hb; clear hb r0 r1; have r0 := hE.rule 0 rfl; have r1 := hE.rule 1 rfl) | (with_reducible refine (loadNil_i _ _ _ _ _).mono ?_; rintro e w1 ⟨rfl, hb⟩; replace hE := hE.over hb; clear hb r0 r1; have r0 := hE.rule 0 rfl; have r1 := hE.rule 1 rfl) | (with_reducible refine (swapNil_i _ _ _ _ _ _ _ _ _ _ _).mono ?_; rintro e w1 ⟨rfl, hb⟩; replace hE := hE.over hb; clear hb r0 r1; have r0 := hE.rule 0 rfl; have r1 := hE.rule 1 rfl) | (with_reducible refine (addNil_i _ _ _ _ _ _).mono ?_; rintro e w1 ⟨rfl, hb⟩; replace hE := hE.over hb; clear hb r0 r1; have r0 := hE.rule 0 rfl; have r1 := hE.rule 1 rfl) | (with_reducible refine (bornNil_i _ _).mono ?_; rintro e w1 ⟨rfl, rfl⟩) | (with_reducible refine (peekNil_i _ _ _ _).mono ?_; rintro e w1 ⟨rfl, hb⟩; replace hE := hE.over hb; clear hb r0 r1; have r0 := hE.rule 0 rfl; have r1 := hE.rule 1 rfl) | (with_reducible refine (countNil_i _).mono ?_; rintro e w1 ⟨rfl, hb⟩; replace hE := hE.over hb; clear hb r0 r1; have r0 := hE.rule 0 rfl; have r1 := hE.rule 1 rfl) | (with_reducible refine (soulsNil_i _).mono ?_; rintro e w1 ⟨rfl, rfl⟩) | (with_reducible refine (contentNil_i _ _ _).mono ?_; rintro e w1 ⟨rfl, hb⟩; replace hE := hE.over hb; clear hb r0 r1; have r0 := hE.rule 0 rfl; have r1 := hE.rule 1 rfl))
  go_ret
  exact ⟨rfl, hE.below⟩

theorem own : ownKnob Try.prog.godebug = none := by kernel_rfl
theorem laidOut : laidOutB Try.prog = true := by kernel_rfl

set_option maxRecDepth 100000 in
theorem lifted (os : Os) (started : os.Started) (H : Type) (enc : TypeId × Value → H) :
    ReturnsInHanded {} Try.checked os 4 .any (Rows.idealNilSpec.pre6 enc Try.prog Try.f4 Rows.idealNilRow.domain false) (Rows.idealNilSpec.post enc Try.prog Try.f4 false true false false) := by
  refine returnsInHanded_of_change (C := Try.checked) own started (by kernel_rfl) Try.func4
    (ChangeSpec.witness6 (enc := enc) (C := Try.checked) false ⟨#[], #[.agg #[.int .i64 0, .int .i64 0, .int .i64 0, .int .i64 0], .agg #[.int .u64 0, .int .i64 0, .bool false]], []⟩ 8 (by kernel_rfl) (by kernel_rfl) (by kernel_rfl) (by kernel_rfl)) ?_
  intro W base args ds gs before hval0 hW hcnd _
  have hval : ∀ (j : Nat) t v, Try.f4.params[j]? = some t → args[j]? = some v → Value.okWide Try.prog W .any base t v := hval0
  have hW' := hW
  obtain ⟨p, q, hA0, hV, rfl, hfz, hnd⟩ := hW
  have hA : DataW.TrodAll enc Try.prog W 0 (fun _ => true) true Try.f4.params.toList args.toList ds p := hA0
  rw [Try.params4] at hA hval
  obtain ⟨v0, vs0, d0, ds0, p0, q0, hargs, rfl, rfl, g0, r0⟩ := trodAll_cons hA
  obtain ⟨v1, vs1, d1, ds1, p1, q1, rfl, rfl, rfl, g1, r1⟩ := trodAll_cons r0
  obtain ⟨rfl, rfl, rfl⟩ := trodAll_nil r1
  obtain rfl : args = #[v0, v1] := by cases args; simp_all
  obtain ⟨rfl, rfl⟩ := trodVars_none hV
  obtain ⟨cs0, rfl, z0, H0⟩ := open_deep (d := 6) (ss := [.num .i64, .num .i64, .num .i64, .num .i64]) Try.underlying41 (by kernel_rfl) (by kernel_rfl) (hval 0 41 v0 rfl rfl) g0
  obtain ⟨l0, rfl, z0⟩ := list_of z0
  obtain ⟨x0_0, x0_1, x0_2, x0_3, rfl⟩ := list4 z0
  obtain ⟨_, e, a0_0, rfl, w0_0⟩ := H0 0 _ rfl
  obtain rfl : x0_0 = .int .i64 a0_0 := by simpa using e
  clear e
  have h0_0 := i64_in w0_0
  obtain ⟨_, e, a0_1, rfl, w0_1⟩ := H0 1 _ rfl
  obtain rfl : x0_1 = .int .i64 a0_1 := by simpa using e
  clear e
  have h0_1 := i64_in w0_1
  obtain ⟨_, e, a0_2, rfl, w0_2⟩ := H0 2 _ rfl
  obtain rfl : x0_2 = .int .i64 a0_2 := by simpa using e
  clear e
  have h0_2 := i64_in w0_2
  obtain ⟨_, e, a0_3, rfl, w0_3⟩ := H0 3 _ rfl
  obtain rfl : x0_3 = .int .i64 a0_3 := by simpa using e
  clear e
  have h0_3 := i64_in w0_3
  clear H0
  obtain ⟨cs1, rfl, z1, H1⟩ := open_deep (d := 6) (ss := [.num .u64, .num .i64, .boo]) Try.underlying37 (by kernel_rfl) (by kernel_rfl) (hval 1 37 v1 rfl rfl) g1
  obtain ⟨l1, rfl, z1⟩ := list_of z1
  obtain ⟨x1_0, x1_1, x1_2, rfl⟩ := list3 z1
  obtain ⟨_, e, a1_0, rfl, w1_0⟩ := H1 0 _ rfl
  obtain rfl : x1_0 = .int .u64 a1_0 := by simpa using e
  clear e
  have h1_0 := u64_in w1_0
  obtain ⟨_, e, a1_1, rfl, w1_1⟩ := H1 1 _ rfl
  obtain rfl : x1_1 = .int .i64 a1_1 := by simpa using e
  clear e
  have h1_1 := i64_in w1_1
  obtain ⟨_, e, a1_2, rfl⟩ := H1 2 _ rfl
  obtain rfl : x1_2 = .bool a1_2 := by simpa using e
  clear e
  clear H1
  clear hA0 hval0
  refine (walk a0_0 a0_1 a0_2 a0_3 a1_0 a1_1 a1_2 W).mono fun e W' ⟨he, hg⟩ => ?_
  subst he
  exact ⟨_, rfl, law_post laidOut (by kernel_rfl) (by kernel_rfl) Try.underlying4 rfl rfl hW' hg⟩

theorem over : Rows.idealNilRow.holds Try.pinned (OpenSpec.ofChange Rows.idealNilSpec) :=
  OpenClaim.holds_of_wide 4 Try.f4 rfl rfl rfl rfl rfl rfl rfl ⟨rfl, rfl, rfl, rfl, rfl⟩ rfl rfl rfl rfl rfl (by kernel_rfl) Try.func4 (by kernel_rfl)
    (of_decide_eq_true (by kernel_rfl)) (by unfold Func.isWrapper; first | (rw [if_pos (by decide +kernel)]; kernel_rfl) | (rw [if_neg (by decide +kernel)]; exact ⟨rfl, rfl⟩))
    (fun os started H enc _ => lifted os started H enc)

/-- THE STATEMENT. -/
theorem proved : Rows.IdealNilSaid := over
#print axioms proved
end Go.Proofs.Ytnlepgbmbdmjbaa.idealNil
