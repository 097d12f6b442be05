/- FieldExact: of every field, raw ones too, every word and number, field.Is, Max, Get, Signed and Put answer what the document's answers are, so the law answers true, for every input, without a condition. -/
import Derived.Test.YtlfklajfhjcfnaaFieldC
import Derived.Test.YtlfklajfhjcfnaaLaw
import Derived.Lib.SmallJoins
namespace Go.Proofs.Ytlfklajfhjcfnaa.fieldExact
open Go.ChangeShapes Go.WideShapes Go.ChangeAt Go.RowKit Go.Joins

theorem own : ownKnob Try.prog.godebug = none := by kernel_rfl
theorem laidOut : laidOutB Try.prog = true := by kernel_rfl

/-- Put's two answers, whatever the field and the number. -/
def okB (a b y : Int) : Bool := isB a b && decide (y ≤ maxI a b)
def putR (a b x y : Int) : Int := if okB a b y then putI a b x y else 0
theorem put_all (a b x y : Int) (w : World) (ha : a ≤ 9223372036854775807) (hb : -9223372036854775808 ≤ b) (hx0 : 0 ≤ x) (hx1 : x ≤ 18446744073709551615) (hy0 : 0 ≤ y) :
    Calls Try.prog 10 #[.agg #[.int .i64 a, .int .i64 b], .int .u64 x, .int .u64 y] w fun e w' => e = .returned (.tuple #[.int .u64 (putR a b x y), .bool (okB a b y)]) ∧ Below w.heap.size w w' := by
  cases h : isB a b
  · have e1 : okB a b y = false := by simp [okB, h]
    have e2 : putR a b x y = 0 := by simp [putR, e1]
    rw [e1, e2]
    exact put_no a b x y w ha hb h
  · by_cases hy : y ≤ maxI a b
    · have e1 : okB a b y = true := by simp [okB, h, hy]
      have e2 : putR a b x y = putI a b x y := by simp [putR, e1]
      rw [e1, e2]
      exact put_yes a b x y w ha hb h hx0 hx1 hy0 hy
    · have e1 : okB a b y = false := by simp [okB, hy]
      have e2 : putR a b x y = 0 := by simp [putR, e1]
      rw [e1, e2]
      exact put_above a b x y w ha hb h (by omega)
theorem refPut_all (a b x y : Int) (w : World) (ha : a ≤ 9223372036854775807) (hb : -9223372036854775808 ≤ b) (hx0 : 0 ≤ x) (hx1 : x ≤ 18446744073709551615) (hy0 : 0 ≤ y) (hy1 : y ≤ 18446744073709551615) :
    Calls Try.prog 11 #[.agg #[.int .i64 a, .int .i64 b], .int .u64 x, .int .u64 y] w fun e w' => e = .returned (.tuple #[.int .u64 (putR a b x y), .bool (okB a b y)]) ∧ Below w.heap.size w w' := by
  cases h : isB a b
  · have e1 : okB a b y = false := by simp [okB, h]
    have e2 : putR a b x y = 0 := by simp [putR, e1]
    rw [e1, e2]
    exact refPut_no a b x y w ha hb h
  · by_cases hy : y ≤ maxI a b
    · have e1 : okB a b y = true := by simp [okB, h, hy]
      have e2 : putR a b x y = putI a b x y := by simp [putR, e1]
      rw [e1, e2]
      exact refPut_yes a b x y w ha hb h hx0 hx1 hy0 hy1 hy
    · have e1 : okB a b y = false := by simp [okB, hy]
      have e2 : putR a b x y = 0 := by simp [putR, e1]
      rw [e1, e2]
      exact refPut_above a b x y w ha hb h (by omega)

/-- Two blocks of the law's own, carried over a call. -/
theorem hold2 {n m : Nat} {w w1 w2 : World} {x y u v : Value} (hb : Below w1.heap.size w1 w2) (c0 : w1.cell? ⟨n, 0, none⟩ = some x) (c1 : w1.cell? ⟨n, 1, none⟩ = some y) (d0 : w1.cell? ⟨m, 0, none⟩ = some u) (d1 : w1.cell? ⟨m, 1, none⟩ = some v)
    (hB : Below n w w1) (hn : n < w1.heap.size) (hm : m < w1.heap.size) :
    w2.cell? ⟨n, 0, none⟩ = some x ∧ w2.cell? ⟨n, 1, none⟩ = some y ∧ w2.cell? ⟨m, 0, none⟩ = some u ∧ w2.cell? ⟨m, 1, none⟩ = some v ∧ Below n w w2 ∧ n < w2.heap.size ∧ m < w2.heap.size :=
  ⟨by rw [hb.cell (p := ⟨n, 0, none⟩) hn]; exact c0, by rw [hb.cell (p := ⟨n, 1, none⟩) hn]; exact c1, by rw [hb.cell (p := ⟨m, 0, none⟩) hm]; exact d0, by rw [hb.cell (p := ⟨m, 1, none⟩) hm]; exact d1,
    hB.trans (hb.mono (by omega)), by have := hb.size; omega, by have := hb.size; omega⟩

set_option maxRecDepth 100000 in
set_option maxHeartbeats 3200000 in
theorem walk (a b x y : Int) (ha : a ≤ 9223372036854775807) (hb : -9223372036854775808 ≤ b) (hx0 : 0 ≤ x) (hx1 : x ≤ 18446744073709551615) (hy0 : 0 ≤ y) (hy1 : y ≤ 18446744073709551615) (w : World) :
    Calls Try.prog 3 #[.agg #[.int .i64 a, .int .i64 b], .int .u64 x, .int .u64 y] w fun e w' => e = .returned (.bool true) ∧ Below w.heap.size w w' := by
  go_enter Try.func3, Try.ntmps3
  go_wp2_with fail
  refine (awake_any _).mono ?_
  rintro e w1 ⟨rfl, hb1⟩
  obtain ⟨c0, c1, hB, hs⟩ := hold_step (n := w.heap.size) (w := w) (x := .int .i64 a) (y := .int .i64 b) (by simp) (by simp) ((Below.refl _ _).alloc (Nat.le_refl _) _) (by simp) hb1
  clear hb1
  go_wp2_with fail
  refine (put_all a b x y _ ha hb hx0 hx1 hy0).mono ?_
  rintro e w2 ⟨rfl, hb2⟩
  obtain ⟨d0, d1, e0, e1, hB2, hn, hm⟩ := hold2 (n := w.heap.size) (m := w1.heap.size) (w := w) (x := .int .i64 a) (y := .int .i64 b) (u := .int .i64 a) (v := .int .i64 b) hb2
    (by rw [World.cell?_alloc_lt w1 _ _ hs]; exact c0) (by rw [World.cell?_alloc_lt w1 _ _ hs]; exact c1) (by simp) (by simp) (hB.alloc (by omega) _) (by simp; omega) (by simp)
  clear hb2 c0 c1 hB hs
  go_wp2_with fail
  refine (refPut_all a b x y _ ha hb hx0 hx1 hy0 hy1).mono ?_
  rintro e w3 ⟨rfl, hb2⟩
  obtain ⟨c0, c1, f0, f1, hB3, hn3, hm3⟩ := hold2 hb2 d0 d1 e0 e1 hB2 hn hm
  clear hb2 d0 d1 e0 e1 hB2 hn hm
  generalize w1.heap.size = m at *
  go_wp2_with fail
  go_region_held3 (fun w' => w'.cell? ⟨w.heap.size, 0, none⟩ = some (.int .i64 a) ∧ w'.cell? ⟨w.heap.size, 1, none⟩ = some (.int .i64 b) ∧ w'.cell? ⟨m, 0, none⟩ = some (.int .i64 a) ∧ w'.cell? ⟨m, 1, none⟩ = some (.int .i64 b) ∧ Below w.heap.size w w' ∧ w.heap.size < w'.heap.size ∧ m < w'.heap.size)
    (first | (go_split_ands; exact hold2 (by assumption) (by assumption) (by assumption) (by assumption) (by assumption) (by assumption) (by assumption) (by assumption)) | exact ⟨c0, c1, f0, f1, hB3.drew, hn3, hm3⟩)
    (first
      | (go_at_call 12; refine (is_any a b _ ha hb).mono ?_; rintro e w4 ⟨rfl, hb4⟩)
      | (go_at_call 13; refine (refIs_any a b _ ha hb).mono ?_; rintro e w4 ⟨rfl, hb4⟩)
      | (go_at_call 14; refine (max_any a b _ ha hb).mono ?_; rintro e w4 ⟨rfl, hb4⟩)
      | (go_at_call 15; refine (refMax_any a b _ ha hb).mono ?_; rintro e w4 ⟨rfl, hb4⟩)
      | (go_at_call 16; refine (get_any a b x _ ha hb hx0 hx1).mono ?_; rintro e w4 ⟨rfl, hb4⟩)
      | (go_at_call 17; refine (refGet_any a b x _ ha hb hx0 hx1).mono ?_; rintro e w4 ⟨rfl, hb4⟩)
      | (go_at_call 18; refine (signed_any a b x _ ha hb hx0).mono ?_; rintro e w4 ⟨rfl, hb4⟩)
      | (go_at_call 19; refine (refSigned_any a b x _ ha hb hx0 hx1).mono ?_; rintro e w4 ⟨rfl, hb4⟩))
  all_goals
    go_wp2
    go_ret
    go_split_ands
    exact ⟨ret_bool (by simp), by assumption⟩

theorem cellsInt : Try.prog.cellsOf 3 = 1 := by kernel_rfl
theorem cellsField : Try.prog.cellsOf 23 = 2 := by kernel_rfl

set_option maxRecDepth 100000 in
theorem lifted (os : Os) (started : os.Started) (H : Type) (enc : TypeId × Value → H) :
    ReturnsInHanded {} Try.checked os 3 .any (Rows.fieldExactSpec.pre6 enc Try.prog Try.f3 Rows.fieldExactRow.domain false) (Rows.fieldExactSpec.post enc Try.prog Try.f3 false true false false) := by
  refine returnsInHanded_of_change (C := Try.checked) own started (by kernel_rfl) Try.func3
    (ChangeSpec.witness6 (enc := enc) (C := Try.checked) false ⟨#[], #[.agg #[.int .i64 0, .int .i64 0], .int .u64 0, .int .u64 0], []⟩ 8 (by kernel_rfl) (by kernel_rfl) (by kernel_rfl) (by kernel_rfl)) ?_
  intro W base args ds gs before hval0 hW hcnd _
  have hval : ∀ (j : Nat) t v, Try.f3.params[j]? = some t → args[j]? = some v → Value.okWide Try.prog W .any base t v := hval0
  have hW' := hW
  obtain ⟨p, q, hA0, hV, rfl, hfz, hnd⟩ := hW
  have hA : DataW.TrodAll enc Try.prog W 0 (fun _ => true) true Try.f3.params.toList args.toList ds p := hA0
  rw [Try.params3] at hA hval
  obtain ⟨v0, vs0, d0, ds0, p0, q0, hargs, rfl, rfl, h0, r0⟩ := trodAll_cons hA
  obtain ⟨v1, vs1, d1, ds1, p1, q1, rfl, rfl, rfl, h1, r1⟩ := trodAll_cons r0
  obtain ⟨v2, vs2, d2, ds2, p2, q2, rfl, rfl, rfl, h2, r2⟩ := trodAll_cons r1
  obtain ⟨rfl, rfl, rfl⟩ := trodAll_nil r2
  obtain rfl : args = #[v0, v1, v2] := by cases args; simp_all
  obtain ⟨rfl, rfl⟩ := trodVars_none hV
  obtain ⟨a1, rfl, rfl, rfl, w1⟩ := open_int Try.underlying24 (hval 1 24 v1 rfl rfl) h1
  obtain ⟨a2, rfl, rfl, rfl, w2⟩ := open_int Try.underlying24 (hval 2 24 v2 rfl rfl) h2
  obtain ⟨e0, e1, y0, y1, m, rfl, rfl, rfl, hy0, hy1⟩ := open_agg2 Try.underlying23 (by kernel_rfl) cellsField (hval 0 23 v0 rfl rfl) h0
  obtain ⟨a, s0, rfl, wa⟩ := DataW.trod_int Try.underlying3 hy0
  obtain ⟨b, s1, rfl, wb⟩ := DataW.trod_int Try.underlying3 hy1
  simp at s0 s1
  subst s0 s1
  have bx := u64_in w1
  have by' := u64_in w2
  have ba := i64_in wa
  have bb := i64_in wb
  clear hA0 hval0
  refine (walk a b a1 a2 ba.2 bb.1 bx.1 bx.2 by'.1 by'.2 W).mono fun e W' ⟨he, hg⟩ => ?_
  subst he
  exact ⟨_, rfl, law_post laidOut (by kernel_rfl) (by kernel_rfl) Try.underlying4 rfl rfl hW' hg⟩

theorem over : Rows.fieldExactRow.holds Try.pinned (OpenSpec.ofChange Rows.fieldExactSpec) :=
  OpenClaim.holds_of_wide 3 Try.f3 rfl rfl rfl rfl rfl rfl rfl ⟨rfl, rfl, rfl, rfl, rfl⟩ rfl rfl rfl rfl rfl (by kernel_rfl) Try.func3 (by kernel_rfl)
    (of_decide_eq_true (by kernel_rfl)) (by unfold Func.isWrapper; first | (rw [if_pos (by decide +kernel)]; kernel_rfl) | (rw [if_neg (by decide +kernel)]; exact ⟨rfl, rfl⟩))
    (fun os started H enc _ => lifted os started H enc)

/-- THE STATEMENT. -/
theorem proved : Rows.FieldExactSaid := over
#print axioms proved
end Go.Proofs.Ytlfklajfhjcfnaa.fieldExact
