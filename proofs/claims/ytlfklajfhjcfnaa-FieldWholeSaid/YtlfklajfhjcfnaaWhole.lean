/- FieldWhole: of fields side by side, that cover the word, each word is unpacked and packed of its numbers again: so the law answers true, for every row of widths and every word, without a condition. -/
import Derived.Test.YtlfklajfhjcfnaaCover
import Derived.Test.YtlfklajfhjcfnaaLaw
import Derived.Test.YtlfklajfhjcfnaaOpenRows
import Derived.WalkSmall
namespace Go.Proofs.Ytlfklajfhjcfnaa.fieldWhole
open Go.ChangeShapes Go.WideShapes Go.ChangeAt Go.RowKit

theorem own : ownKnob Try.prog.godebug = none := by kernel_rfl
theorem laidOut : laidOutB Try.prog = true := by kernel_rfl
theorem info_field : (Try.prog.info? 23).map (fun i => (i.zero, i.size, i.bytes)) = some (some (.agg #[.int .i64 0, .int .i64 0]), 2, 16) := by kernel_rfl

/-- A row of ints in memory. -/
def IntRow (w : World) (A : Option Addr) (zs : List Int) : Prop :=
  zs = [] ∨ ∃ b off, A = some ⟨b, off, none⟩ ∧ b < w.heap.size ∧ ∀ i, i < zs.length → w.cell? ⟨b, off + i, none⟩ = some (.int .i64 (zs.getD i 0))

theorem rem_nat (z : Int) (a : Nat) (h : a < 64) : ∃ R : Nat, (IntKind.u64.wrap z).tmod (64 - (a : Int)) = (R : Int) ∧ a + R < 64 := by
  have h0 : 0 ≤ IntKind.u64.wrap z := by rw [IntKind.wrap_u64]; omega
  refine ⟨(IntKind.u64.wrap z % (64 - (a : Int))).toNat, ?_, ?_⟩
  · rw [Int.tmod_eq_emod_of_nonneg h0]
    have := Int.emod_nonneg (IntKind.u64.wrap z) (show (64 - (a : Int)) ≠ 0 by omega)
    omega
  · have h1 := Int.emod_nonneg (IntKind.u64.wrap z) (show (64 - (a : Int)) ≠ 0 by omega)
    have h2 := Int.emod_lt_of_pos (IntKind.u64.wrap z) (show 0 < (64 - (a : Int)) by omega)
    omega

/-- Pack of as many numbers as there are fields. -/
theorem pack_len (A N : Option Addr) (cap cap' : Nat) (fs : List (Int × Int)) (ns : List Int) (w : World) (hl : ns.length = fs.length) (hr : FldRow w A fs) (hf : Fits fs) (hn : fs.length ≤ 70) (hr' : NumRow w N ns) (hf' : Words ns) :
    Calls Try.prog 20 #[.slice A ns.length cap, .slice N ns.length cap'] w (PackPost w fs ns) := by
  have := pack_any A N cap cap' fs ns w hr hf hn hr' hf'
  rw [← hl] at this
  exact this

set_option maxRecDepth 100000 in
set_option maxHeartbeats 3200000 in
theorem walk (A : Option Addr) (cap : Nat) (zs : List Int) (x : Int) (hx0 : 0 ≤ x) (hx1 : x ≤ 18446744073709551615) (w : World) (hr : IntRow w A zs) (hlen : zs.length ≤ 9223372036854775807) :
    Calls Try.prog 7 #[.slice A zs.length cap, .int .u64 x] w fun e w' => e = .returned (.bool true) ∧ Below w.heap.size w w' := by
  obtain ⟨i0, hi, hz0, hz1, hz2⟩ := info_parts info_field
  go_enter Try.func7, Try.ntmps7
  go_wp2_with fail
  refine (awake_any _).mono ?_
  rintro e w1 ⟨rfl, hb1⟩
  have hown0 : (w1.alloc (.cells #[] 23)).ownsRow w.heap.size 23 2 (.slice (some ⟨w1.heap.size, 0, none⟩) 0 0) 0 [] := World.ownsRow_lit w1 #[] 0 hb1.size (by unfold maxLen; omega) rfl
  have hB0 := hb1.alloc hb1.size (.cells #[] 23)
  clear hb1
  go_wp2_with fail
  go_loopw [5, 6, 7, 8] (fun v t i _ wr => ∃ (k at' : Nat) (fs : List (Int × Int)), k ≤ zs.length ∧ k ≤ at' ∧ at' ≤ 64 ∧ cov 0 fs at' ∧ i = .int .i64 k ∧ t = .int .i64 at' ∧ wr.ownsRow w.heap.size 23 2 v fs.length (flat fs) ∧ Below w.heap.size w wr) (fun _ _ i _ _ => zs.length - (intOf i).toNat)
  case atStart => exact ⟨0, 0, [], by omega, by omega, by omega, rfl, rfl, rfl, hown0, hB0⟩
  case round =>
    obtain ⟨k, at', fs, hk, hka, hat, hcov, rfl, rfl, hown, hB⟩ := hrel
    clear hown0 hB0
    have hBs := hB.size
    by_cases hlt : k < zs.length
    · by_cases h64 : at' < 64
      · rcases hr with hr | ⟨b, off, rfl, hbw, hc⟩
        · rw [hr] at hlt; simp at hlt
        have hcell := hc k hlt
        generalize zs.getD k 0 = z at *
        have e1 : wr.cell? ⟨b, off + k, none⟩ = some (.int .i64 z) := by rw [hB.cell (p := ⟨b, off + k, none⟩) hbw]; exact hcell
        have HC := Lib.hid hcov
        clear hc hcell hcov
        obtain ⟨R, hR, hR2⟩ : ∃ R : Nat, (IntKind.u64.wrap z).tmod (64 - (at' : Int)) = (R : Int) ∧ at' + R < 64 := rem_nat z at' h64
        have hl := cov_le fs 0 at' HC.out
        have hkI : (k : Int) < (zs.length : Int) := by omega
        go_wp2_with (first | (at_builtin; refine wpList_append_own _ rfl _ _ 33 rfl w.heap.size 23 i0 (.agg #[.int .i64 0, .int .i64 0]) 2 16 Try.underlying33 hi hz0 hz1 hz2 rfl (by decide) _ _ _ rfl (hown.alloc _) ⟨wr.heap.size, 0, none⟩ 1 1 [.int .i64 (at' : Int), .int .i64 (1 + (R : Int))] rfl rfl (cell_two_new _ _ _ _) (fun x hx => by simp at hx; rcases hx with rfl | rfl <;> rfl) (by unfold maxLen; omega) (by omega) (by simp; omega) ?_; intro v' w3 hown' hgrow3 _))
        have hB3 : Below w.heap.size w w3 := Below.grown (hB.alloc hB.size _) hgrow3 (by simp; have := hB.size; omega) (fun j hj => (hown.lt _ hj).1)
        have hcov' := cov_snoc (n := 1 + R) (by omega) fs 0 at' HC.out
        have HC2 := Lib.hid hcov'
        have hown2 : w3.ownsRow w.heap.size 23 2 v' (fs ++ [((at' : Int), ((1 + R : Nat) : Int))]).length (flat (fs ++ [((at' : Int), ((1 + R : Nat) : Int))])) := by
          rw [flat_snoc]
          simpa using hown'
        clear hown' hgrow3 hcov' hown hB e1 hR
        go_wp2_with fail
        go_roundw
        case rel => exact ⟨k + 1, at' + (1 + R), _, by omega, by omega, by omega, HC2.out, by go_num, by go_num, hown2, hB3⟩
        case measure => simp [intOf]; omega
      · have hat2 : at' = 64 := by omega
        subst hat2
        obtain ⟨A2, cap2, rfl, hrow⟩ := own_fld hown
        have hB9 := hB
        have hl9 := cov_le fs 0 64 hcov
        have hfit := Lib.hid (cov_fits fs 0 64 hcov (by omega))
        have hap := Lib.hid (cov_apart fs 0 64 0 hcov (by omega) (by omega))
        obtain ⟨X, rfl⟩ := Int.eq_ofNat_of_zero_le hx0
        have hpk := cov_pack (X := X) (by omega) fs 0 hcov
        have hpr : packR fs (gets fs X) = some (X : Int) := by
          rw [packR, if_pos ⟨by simp [gets], hap.out⟩]
          simpa [Nat.mod_one] using hpk
        have hwd := Lib.hid (gets_words fs X (by omega))
        have hgl : Hid ((gets fs (X : Int)).length = fs.length) := Lib.hid (by simp [gets])
        have HP := Lib.hid hpr
        have hl70 : fs.length ≤ 70 := by omega
        clear hpk hpr
        go_wp2_with fail
        refine (apart_any A2 cap2 fs _ hrow hfit.out (by omega)).mono ?_
        rintro e w5 ⟨rfl, hb5⟩
        rw [hap.out]
        have hrow5 := hrow.below (Nat.le_refl _) hb5
        have hB5 := hB9.trans (hb5.mono hB9.size)
        clear hb5
        go_wp2_with fail
        refine (unpack_any A2 cap2 fs X _ hrow5 hfit.out hl70 hx0 hx1).mono ?_
        rintro e w6 ⟨A3, cap3, rfl, hnum, hb6⟩
        have hrow6 := hrow5.below (Nat.le_refl _) hb6
        have hB6 := hB5.trans (hb6.mono hB5.size)
        clear hb6
        go_wp2_with fail
        rw [← hgl.out]
        refine (pack_len A2 A3 cap2 cap3 fs (gets fs X) _ hgl.out hrow6 hfit.out hl70 hnum hwd.out).mono ?_
        rintro e w7 ⟨rfl, hb7⟩
        have hB7 := hB6.trans (hb7.mono hB6.size)
        rw [show packV fs (gets fs X) = (X : Int) by rw [packV, HP.out]; rfl, show packB fs (gets fs X) = true by rw [packB, HP.out]; rfl]
        clear hb7
        go_wp2_with fail
        go_ret
        exact ⟨ret_bool (by simp), hB7⟩
    · by_cases h64 : at' < 64
      · have hl := cov_le fs 0 at' hcov
        have HC := Lib.hid hcov
        obtain ⟨R, hR⟩ : ∃ R : Nat, at' + R = 64 := ⟨64 - at', by omega⟩
        clear hcov
        have hRI : (64 : Int) - (at' : Int) = (R : Int) := by omega
        go_wp2_with (first | (at_builtin; refine wpList_append_own _ rfl _ _ 33 rfl w.heap.size 23 i0 (.agg #[.int .i64 0, .int .i64 0]) 2 16 Try.underlying33 hi hz0 hz1 hz2 rfl (by decide) _ _ _ rfl (hown.alloc _) ⟨wr.heap.size, 0, none⟩ 1 1 [.int .i64 (at' : Int), .int .i64 ((R : Int))] rfl rfl (cell_two_new _ _ _ _) (fun x hx => by simp at hx; rcases hx with rfl | rfl <;> rfl) (by unfold maxLen; omega) (by omega) (by simp; omega) ?_; intro v' w3 hown' hgrow3 _))
        have hB3 : Below w.heap.size w w3 := Below.grown (hB.alloc hB.size _) hgrow3 (by simp; have := hB.size; omega) (fun j hj => (hown.lt _ hj).1)
        have hcov' := cov_snoc (n := R) (by omega) fs 0 at' HC.out
        rw [hR] at hcov'
        have hown2 : w3.ownsRow w.heap.size 23 2 v' (fs ++ [((at' : Int), (R : Int))]).length (flat (fs ++ [((at' : Int), (R : Int))])) := by
          rw [flat_snoc]
          simpa using hown'
        generalize fs ++ [((at' : Int), (R : Int))] = fs' at *
        clear hown' hgrow3 hown hB hRI
        obtain ⟨A2, cap2, rfl, hrow⟩ := own_fld hown2
        have hB9 := hB3
        have hl9 := cov_le fs' 0 64 hcov'
        have hfit := Lib.hid (cov_fits fs' 0 64 hcov' (by omega))
        have hap := Lib.hid (cov_apart fs' 0 64 0 hcov' (by omega) (by omega))
        obtain ⟨X, rfl⟩ := Int.eq_ofNat_of_zero_le hx0
        have hpk := cov_pack (X := X) (by omega) fs' 0 hcov'
        have hpr : packR fs' (gets fs' X) = some (X : Int) := by
          rw [packR, if_pos ⟨by simp [gets], hap.out⟩]
          simpa [Nat.mod_one] using hpk
        have hwd := Lib.hid (gets_words fs' X (by omega))
        have hgl : Hid ((gets fs' (X : Int)).length = fs'.length) := Lib.hid (by simp [gets])
        have HP := Lib.hid hpr
        have hl70 : fs'.length ≤ 70 := by omega
        clear hpk hpr
        go_wp2_with fail
        refine (apart_any A2 cap2 fs' _ hrow hfit.out (by omega)).mono ?_
        rintro e w5 ⟨rfl, hb5⟩
        rw [hap.out]
        have hrow5 := hrow.below (Nat.le_refl _) hb5
        have hB5 := hB9.trans (hb5.mono hB9.size)
        clear hb5
        go_wp2_with fail
        refine (unpack_any A2 cap2 fs' X _ hrow5 hfit.out hl70 hx0 hx1).mono ?_
        rintro e w6 ⟨A3, cap3, rfl, hnum, hb6⟩
        have hrow6 := hrow5.below (Nat.le_refl _) hb6
        have hB6 := hB5.trans (hb6.mono hB5.size)
        clear hb6
        go_wp2_with fail
        rw [← hgl.out]
        refine (pack_len A2 A3 cap2 cap3 fs' (gets fs' X) _ hgl.out hrow6 hfit.out hl70 hnum hwd.out).mono ?_
        rintro e w7 ⟨rfl, hb7⟩
        have hB7 := hB6.trans (hb7.mono hB6.size)
        rw [show packV fs' (gets fs' X) = (X : Int) by rw [packV, HP.out]; rfl, show packB fs' (gets fs' X) = true by rw [packB, HP.out]; rfl]
        clear hb7
        go_wp2_with fail
        go_ret
        exact ⟨ret_bool (by simp), hB7⟩
      · have hat2 : at' = 64 := by omega
        subst hat2
        obtain ⟨A2, cap2, rfl, hrow⟩ := own_fld hown
        have hB9 := hB
        have hl9 := cov_le fs 0 64 hcov
        have hfit := Lib.hid (cov_fits fs 0 64 hcov (by omega))
        have hap := Lib.hid (cov_apart fs 0 64 0 hcov (by omega) (by omega))
        obtain ⟨X, rfl⟩ := Int.eq_ofNat_of_zero_le hx0
        have hpk := cov_pack (X := X) (by omega) fs 0 hcov
        have hpr : packR fs (gets fs X) = some (X : Int) := by
          rw [packR, if_pos ⟨by simp [gets], hap.out⟩]
          simpa [Nat.mod_one] using hpk
        have hwd := Lib.hid (gets_words fs X (by omega))
        have hgl : Hid ((gets fs (X : Int)).length = fs.length) := Lib.hid (by simp [gets])
        have HP := Lib.hid hpr
        have hl70 : fs.length ≤ 70 := by omega
        clear hpk hpr
        go_wp2_with fail
        refine (apart_any A2 cap2 fs _ hrow hfit.out (by omega)).mono ?_
        rintro e w5 ⟨rfl, hb5⟩
        rw [hap.out]
        have hrow5 := hrow.below (Nat.le_refl _) hb5
        have hB5 := hB9.trans (hb5.mono hB9.size)
        clear hb5
        go_wp2_with fail
        refine (unpack_any A2 cap2 fs X _ hrow5 hfit.out hl70 hx0 hx1).mono ?_
        rintro e w6 ⟨A3, cap3, rfl, hnum, hb6⟩
        have hrow6 := hrow5.below (Nat.le_refl _) hb6
        have hB6 := hB5.trans (hb6.mono hB5.size)
        clear hb6
        go_wp2_with fail
        rw [← hgl.out]
        refine (pack_len A2 A3 cap2 cap3 fs (gets fs X) _ hgl.out hrow6 hfit.out hl70 hnum hwd.out).mono ?_
        rintro e w7 ⟨rfl, hb7⟩
        have hB7 := hB6.trans (hb7.mono hB6.size)
        rw [show packV fs (gets fs X) = (X : Int) by rw [packV, HP.out]; rfl, show packB fs (gets fs X) = true by rw [packB, HP.out]; rfl]
        clear hb7
        go_wp2_with fail
        go_ret
        exact ⟨ret_bool (by simp), hB7⟩

theorem cellsInt : Try.prog.cellsOf 3 = 1 := by kernel_rfl

set_option maxRecDepth 100000 in
theorem lifted (os : Os) (started : os.Started) (H : Type) (enc : TypeId × Value → H) :
    ReturnsInHanded {} Try.checked os 7 .any (Rows.fieldWholeSpec.pre6 enc Try.prog Try.f7 Rows.fieldWholeRow.domain false) (Rows.fieldWholeSpec.post enc Try.prog Try.f7 false true false false) := by
  refine returnsInHanded_of_change (C := Try.checked) own started (by kernel_rfl) Try.func7
    (ChangeSpec.witness6 (enc := enc) (C := Try.checked) false ⟨#[], #[.slice none 0 0, .int .u64 0], []⟩ 8 (by kernel_rfl) (by kernel_rfl) (by kernel_rfl) (by kernel_rfl)) ?_
  intro W base args ds gs before hval0 hW hcnd _
  have hval : ∀ (j : Nat) t v, Try.f7.params[j]? = some t → args[j]? = some v → Value.okWide Try.prog W .any base t v := hval0
  have hW' := hW
  obtain ⟨p, q, hA0, hV, rfl, hfz, hnd⟩ := hW
  have hA : DataW.TrodAll enc Try.prog W 0 (fun _ => true) true Try.f7.params.toList args.toList ds p := hA0
  rw [Try.params7] at hA hval
  obtain ⟨v0, vs0, d0, ds0, p0, q0, hargs, rfl, rfl, g0, r0⟩ := trodAll_cons hA
  obtain ⟨v1, vs1, d1, ds1, p1, q1, rfl, rfl, rfl, g1, r1⟩ := trodAll_cons r0
  obtain ⟨rfl, rfl, rfl⟩ := trodAll_nil r1
  obtain rfl : args = #[v0, v1] := by cases args; simp_all
  obtain ⟨rfl, rfl⟩ := trodVars_none hV
  obtain ⟨a1, rfl, rfl, rfl, w1⟩ := open_int Try.underlying24 (hval 1 24 v1 rfl rfl) g1
  have h1 := u64_in w1
  obtain ⟨A0, n0, cap0, rfl⟩ := okWide_slice Try.underlying47 (hval 0 47 v0 rfl rfl)
  obtain ⟨zs0, rfl, h0, w0, row0⟩ := open_num_row Try.underlying47 Try.underlying3 cellsInt g0 (fun x hx => hW'.lt x (by simp [hx]))
  unfold maxLen at h0
  clear hA0 hval0
  refine (walk A0 cap0 zs0 a1 h1.1 h1.2 W row0 h0).mono fun e W' ⟨he, hg⟩ => ?_
  subst he
  exact ⟨_, rfl, law_post laidOut (by kernel_rfl) (by kernel_rfl) Try.underlying4 rfl rfl hW' hg⟩

theorem over : Rows.fieldWholeRow.holds Try.pinned (OpenSpec.ofChange Rows.fieldWholeSpec) :=
  OpenClaim.holds_of_wide 7 Try.f7 rfl rfl rfl rfl rfl rfl rfl ⟨rfl, rfl, rfl, rfl, rfl⟩ rfl rfl rfl rfl rfl (by kernel_rfl) Try.func7 (by kernel_rfl)
    (of_decide_eq_true (by kernel_rfl)) (by unfold Func.isWrapper; first | (rw [if_pos (by decide +kernel)]; kernel_rfl) | (rw [if_neg (by decide +kernel)]; exact ⟨rfl, rfl⟩))
    (fun os started H enc _ => lifted os started H enc)

/-- THE STATEMENT. -/
theorem proved : Rows.FieldWholeSaid := over
#print axioms proved
end Go.Proofs.Ytlfklajfhjcfnaa.fieldWhole
