/- IdealKeeps: what somebody holds stays, whoever is born later, and whatever is done by references to others: so the law answers true, for every input. -/
import Derived.Test.YtnlepgbmbdmjbaaIdealW
import Derived.Test.YtnlepgbmbdmjbaaActI
import Derived.Test.YtnlepgbmbdmjbaaLaw
import Derived.Test.YtnlepgbmbdmjbaaRows
namespace Go.Proofs.Ytnlepgbmbdmjbaa.idealKeeps
open Go.ChangeShapes Go.WideShapes Go.ChangeAt Go.RowKit Go.Maps
set_option maxRecDepth 100000

theorem valStale (v : World) (a b : Int) (d : Bool) : (Instr.field 37 (.agg #[.int .u64 a, .int .i64 b, .bool d]) 2).run Try.prog v = .ok (.bool d) v := by kernel_rfl
theorem own_ne {p x y z d : Int} (hp : contB 5 p = true) (hd : ¬ d = 1) : ¬ (5, 1, p) = ownP x y z d := by
  intro e
  cases h : contB x z
  · rw [ownP_no h] at e
    simp only [Prod.mk.injEq] at e
    obtain ⟨rfl, -, rfl⟩ := e
    rw [hp] at h
    cases h
  · rw [ownP_yes h] at e
    simp only [Prod.mk.injEq] at e
    exact hd e.2.1.symm
theorem swf_other {f : Plc → Int} {x p : Plc} (o v : Int) (h : ¬ p = x) : swf f x o v p = f p := by
  unfold swf
  split
  · exact upd_other _ _ h
  · rfl

set_option maxHeartbeats 12800000 in
theorem walk (xs : List ActI) (A : Option Addr) (cap : Nat) (sl part v : Int) (hok : ∀ r ∈ xs, OkActI r) (hlen : xs.length ≤ 9223372036854775807) (hsl : In64 sl) (hpart : In64 part) (hv : InU v) (w : World) (hr : RowX encActI 11 w A xs) :
    Calls Try.prog 5 #[.slice A xs.length cap, .int .i64 sl, .int .i64 part, .int .u64 v] w fun e w' => e = .returned (.bool true) ∧ Below w.heap.size w w' := by
  have hE := Env.start w
  obtain ⟨s, hs, s0, s1⟩ := cut_u1 sl 5 (by decide) (by decide)
  obtain ⟨p, hp, p0, p1⟩ := cut_u part 12 (by decide) (by decide)
  have HZ := Lib.hid hok
  have HR := Lib.hid hr
  have HV := Lib.hid hv
  have HS1 := Lib.hid (And.intro s0 s1)
  have HP1 := Lib.hid (And.intro p0 p1)
  have HI1 : Hid (In64 s) := Lib.hid (by unfold In64; omega)
  have HI2 : Hid (In64 p) := Lib.hid (by unfold In64; omega)
  have HW : Hid (Wf (5, s, p)) := Lib.hid ⟨show In64 5 by unfold In64; omega, HI1.out, HI2.out⟩
  have HM : Hid (∀ k : Nat, k ≤ 1000 → k < maxLen) := Lib.hid fun k hk => by unfold maxLen; omega
  have HI3 : Hid (In64 1) := Lib.hid (by unfold In64; omega)
  have HI0 : Hid (In64 0) := Lib.hid (by unfold In64; omega)
  clear hok hr hv hsl hpart s0 s1 p0 p1
  go_enter Try.func5, Try.ntmps5
  go_wp2_with fail
  refine (awake9 _).mono ?_
  rintro e w1 ⟨rfl, hb⟩
  replace hE := hE.over hb
  clear hb
  go_wp2_with fail
  refine (new_i hE).mono ?_
  rintro e w2 ⟨g, c, so, rfl, hE, hb⟩
  clear hb
  go_wp2_with fail
  rw [hs, hp]
  refine (placeOf_any s p _).mono ?_
  rintro e w3 ⟨rfl, hb⟩
  replace hE := (hE.over hb).box w3.heap.size rfl [.int .i64 5, .int .i64 s, .int .i64 p] 39
  clear hb hs hp
  go_upto_region 6 with fail
  generalize w3.alloc _ = w4 at *
  generalize w3.heap.size = P at *
  have r0 := hE.rule 0 rfl
  go_wp2_with fail
  refine (isContent_any 5 s p _).mono ?_
  rintro e w5 ⟨rfl, hb⟩
  replace hE := hE.over hb
  clear hb r0
  generalize hcb : contB 5 p = t at *
  have HCB := Lib.hid hcb
  clear hcb
  cases t
  · go_wp2
    go_ret
    exact ⟨rfl, hE.below⟩
  have e1 : bornV [] s = 1 := by unfold bornV; rw [if_neg (by have := HS1.out; omega)]; rfl
  have e2 : bornL [] s = [s] := by unfold bornL; rw [if_neg (by have := HS1.out; omega)]; rfl
  have E1 := Lib.hid e1
  have E2 := Lib.hid e2
  clear e1 e2
  have eo : ownP 5 s p 1 = (5, 1, p) := ownP_yes HCB.out
  have EO := Lib.hid eo
  clear eo
  go_wp2_with fail
  refine (born_i s HI1.out (by simp) 1 hE rfl rfl).mono ?_
  rintro e w6 ⟨rfl, S6, hE⟩
  rw [E1.out]
  rw [E2.out] at hE
  simp only [List.set_cons_succ, List.set_cons_zero] at hE
  have r0 := hE.rule 0 rfl
  go_wp2_with fail
  refine (store_i 5 s p 1 v 0 false HW.out HI3.out HV.out HI0.out (HM.out 0 (by omega)) (HM.out 0 (by omega)) 1 hE rfl rfl rfl).mono ?_
  rintro e w7 ⟨rfl, mp7, F7, hE⟩
  simp only [List.set_cons_succ, List.set_cons_zero] at hE
  rw [EO.out] at hE
  clear r0
  have hf0 : upd (fun _ => 0) (5, 1, p) v (5, 1, p) = v := upd_same _ _ _
  go_wp2_with fail
  go_loopw [13] (fun i wr => ∃ (k n m : Nat) (mp : Option Nat) (S F : Nat → Prop) (h f : Plc → Int) (l : List Int) (q : Cnt), k ≤ xs.length ∧ k ≤ 100 ∧ n ≤ k + 1 ∧ m ≤ k + 1 ∧ l.length ≤ k + 1 ∧ f (5, 1, p) = v ∧ i = .int .i64 k ∧ Env w [boxI P [.int .i64 5, .int .i64 s, .int .i64 p], boxI g (iv c mp so), leadsI mp h m, soulI so S l, cellI c F f q n] wr) (fun i _ => xs.length - (intOf i).toNat)
  case atStart => exact ⟨0, _, _, _, _, _, _, _, [s], _, by omega, by omega, by omega, by omega, by simp, hf0, rfl, hE⟩
  case round =>
    clear hE hf0
    obtain ⟨k, n, m, mp, S, F, h, f, l, q, hk, hk1, hn, hm, hll, hf, rfl, hEr⟩ := hrel
    have hl5 : l.length ≤ 100000 := by omega
    have hnm : n < maxLen := HM.out _ (by omega)
    have hmm : m < maxLen := HM.out _ (by omega)
    have HF := Lib.hid hf
    clear hf
    by_cases hlt : k < xs.length ∧ k < 100
    · obtain ⟨hlt, hlt1⟩ := hlt
      have hb1 : decide ((k : Int) < xs.length) = true := by simp; omega
      have hb2 : decide ((k : Int) < 100) = true := by simp; omega
      rcases HR.out with hz0 | ⟨blk, off, rfl, hbw, hc⟩
      · rw [hz0] at hlt; simp at hlt
      have hok : OkActI (xs.getD k default) := HZ.out _ (by simp [hlt])
      have hat := (hc k hlt).below hEr.below hbw
      clear hc
      generalize xs.getD k default = r at *
      obtain ⟨kd, x, y, z, d, ow, oi, os, vw, vi, vs⟩ := r
      obtain ⟨_, wx, wy, wz, wd, how, _, hvw, hvi⟩ := hok
      simp only at wx wy wz wd how hvw hvi
      have HX := Lib.hid (show Wf (x, y, z) from ⟨wx, wy, wz⟩)
      have HVW := Lib.hid hvw
      have HVI : Hid (In64 vi) := Lib.hid hvi
      have HD : Hid (In64 d) := Lib.hid wd
      clear wx wy wz how hvw hvi wd
      obtain ⟨c0, c1', c2', c3, c4, c5, c6, c7, c8, c9, c10⟩ := at_ActI hat
      clear hat
      have hE := hEr.box wr.heap.size rfl [.int .i64 kd, .int .i64 x, .int .i64 y, .int .i64 z, .int .i64 d, .int .u64 ow, .int .i64 oi, .bool os, .int .u64 vw, .int .i64 vi, .bool vs] 43
      go_upto_region 14 with fail
      clear c0 c1' c2' c3 c4 c5 c6 c7 c8 c9 c10 hEr
      generalize wr.alloc _ = w8 at *
      generalize wr.heap.size = X at *
      have r0 := hE.rule 0 rfl
      by_cases hd : d = 1
      case' pos =>
        subst hd
        have z0 := hE.thaw 0 rfl 4 (by simp)
        have hw1 : wrap64 (1 + 1) = 2 := by simp [wrap64]
        go_upto_region 16 with fail
        replace hE := hE.put 0 rfl (j := 4) (by simp) (.int .i64 2)
        simp only [List.set_cons_succ, List.set_cons_zero] at hE
        obtain ⟨d2, e2, hd2, wd2⟩ : ∃ d2 : Int, d2 = 2 ∧ ¬ d2 = 1 ∧ In64 d2 := ⟨2, rfl, by decide, by unfold In64; omega⟩
        rw [← e2] at hE ⊢
        clear r0 z0 hw1 e2 HD
        generalize World.setCell _ _ _ = w9 at *
      case' neg =>
        have hdb : (d == 1) = false := by simpa using hd
        go_upto_region 16 with fail
        obtain ⟨d2, e2, hd2, wd2⟩ : ∃ d2 : Int, d2 = d ∧ ¬ d2 = 1 ∧ In64 d2 := ⟨d, rfl, hd, HD.out⟩
        rw [← e2] at hE
        clear r0 hdb hd e2 HD
        generalize w8 = w9 at *
      all_goals
        have HD := Lib.hid wd2
        have HN := Lib.hid (own_ne (x := x) (y := y) (z := z) HCB.out hd2)
        clear wd2 hd2
        by_cases h2 : kd = 2
        · subst h2
          have r0 := hE.rule 0 rfl
          go_wp2_with fail
          refine (store_i x y z d2 vw vi vs HX.out HD.out HVW.out HVI.out hnm hmm 2 hE rfl rfl rfl).mono ?_
          rintro e w10 ⟨rfl, mp10, F10, hE⟩
          simp only [List.set_cons_succ, List.set_cons_zero] at hE
          clear r0
          go_wp2_with fail
          exact ⟨⟨k + 1, _, _, _, _, _, _, _, l, _, by omega, by omega, by omega, by omega, by omega, by rw [upd_other _ _ HN.out]; exact HF.out, by simp, hE.sub (.cons _ (List.Sublist.refl _))⟩, by simp [intOf]; omega⟩
        by_cases h3 : kd = 3
        · subst h3
          have r0 := hE.rule 0 rfl
          go_wp2_with fail
          refine (swap_i x y z d2 ow oi vw vi os vs HX.out HD.out HVW.out HVI.out hnm hmm 2 hE rfl rfl rfl).mono ?_
          rintro e w10 ⟨rfl, mp10, F10, hE⟩
          simp only [List.set_cons_succ, List.set_cons_zero] at hE
          clear r0
          go_wp2_with fail
          exact ⟨⟨k + 1, _, _, _, _, _, _, _, l, _, by omega, by omega, by omega, by omega, by omega, by rw [swf_other _ _ HN.out]; exact HF.out, by simp, hE.sub (.cons _ (List.Sublist.refl _))⟩, by simp [intOf]; omega⟩
        by_cases h5 : kd = 5
        · subst h5
          have r0 := hE.rule 0 rfl
          go_wp2_with fail
          refine (add_i x y z d2 vw HX.out HD.out hnm 2 hE rfl rfl).mono ?_
          rintro e w10 ⟨rfl, F10, hE⟩
          simp only [List.set_cons_succ, List.set_cons_zero] at hE
          clear r0
          go_wp2_with fail
          exact ⟨⟨k + 1, _, _, _, _, _, _, _, l, _, by omega, by omega, by omega, by omega, by omega, by rw [upd_other _ _ HN.out]; exact HF.out, by simp, hE.sub (.cons _ (List.Sublist.refl _))⟩, by simp [intOf]; omega⟩
        by_cases h6 : kd = 6
        · subst h6
          have r0 := hE.rule 0 rfl
          go_wp2_with fail
          refine (born_i y HX.out.2.1 hl5 2 hE rfl rfl).mono ?_
          rintro e w10 ⟨rfl, S10, hE⟩
          simp only [List.set_cons_succ, List.set_cons_zero] at hE
          clear r0
          have hbl := bornL_length l y
          go_wp2_with fail
          exact ⟨⟨k + 1, _, _, _, _, _, _, _, _, _, by omega, by omega, by omega, by omega, by omega, HF.out, by simp, hE.sub (.cons _ (List.Sublist.refl _))⟩, by simp [intOf]; omega⟩
        have r0 := hE.rule 0 rfl
        go_wp2_with fail
        exact ⟨⟨k + 1, _, _, _, _, _, _, _, l, _, by omega, by omega, by omega, by omega, by omega, HF.out, by simp, hE.sub (.cons _ (List.Sublist.refl _))⟩, by simp [intOf]; omega⟩
    · by_cases hl1 : k < xs.length
      · have hl2 : ¬ k < 100 := fun h => hlt ⟨hl1, h⟩
        have hb1 : decide ((k : Int) < xs.length) = true := by simp; omega
        have hb2 : decide ((k : Int) < 100) = false := by simp; omega
        have r0 := hEr.rule 0 rfl
        have hf1 := valWordI
        have hf2 := valStale
        go_wp2_with fail
        refine (content_i 1 p HI3.out HI2.out 1 hEr rfl rfl).mono ?_
        rintro e w10 ⟨rfl, hb⟩
        rw [if_pos HCB.out, HF.out]
        have hE := hEr.over hb
        clear hb r0 hEr
        have r0 := hE.rule 0 rfl
        go_wp2_with fail
        refine (load_i 5 s p 1 HW.out HI3.out 1 hE rfl rfl rfl).mono ?_
        rintro e w11 ⟨rfl, hE⟩
        rw [EO.out, HF.out]
        simp only [List.set_cons_succ, List.set_cons_zero] at hE
        clear r0
        have r0 := hE.rule 0 rfl
        go_wp2_with fail
        refine (load_i 5 s p 1 HW.out HI3.out 1 hE rfl rfl rfl).mono ?_
        rintro e w12 ⟨rfl, hE⟩
        rw [EO.out, HF.out]
        go_wp2_with fail
        go_ret
        exact ⟨by simp, hE.below⟩
      · have hb1 : decide ((k : Int) < xs.length) = false := by simp; omega
        have r0 := hEr.rule 0 rfl
        have hf1 := valWordI
        have hf2 := valStale
        go_wp2_with fail
        refine (content_i 1 p HI3.out HI2.out 1 hEr rfl rfl).mono ?_
        rintro e w10 ⟨rfl, hb⟩
        rw [if_pos HCB.out, HF.out]
        have hE := hEr.over hb
        clear hb r0 hEr
        have r0 := hE.rule 0 rfl
        go_wp2_with fail
        refine (load_i 5 s p 1 HW.out HI3.out 1 hE rfl rfl rfl).mono ?_
        rintro e w11 ⟨rfl, hE⟩
        rw [EO.out, HF.out]
        simp only [List.set_cons_succ, List.set_cons_zero] at hE
        clear r0
        have r0 := hE.rule 0 rfl
        go_wp2_with fail
        refine (load_i 5 s p 1 HW.out HI3.out 1 hE rfl rfl rfl).mono ?_
        rintro e w12 ⟨rfl, hE⟩
        rw [EO.out, HF.out]
        go_wp2_with fail
        go_ret
        exact ⟨by simp, hE.below⟩

theorem own : ownKnob Try.prog.godebug = none := by kernel_rfl
theorem laidOut : laidOutB Try.prog = true := by kernel_rfl

set_option maxRecDepth 100000 in
theorem lifted (os : Os) (started : os.Started) (H : Type) (enc : TypeId × Value → H) :
    ReturnsInHanded {} Try.checked os 5 .any (Rows.idealKeepsSpec.pre6 enc Try.prog Try.f5 Rows.idealKeepsRow.domain false) (Rows.idealKeepsSpec.post enc Try.prog Try.f5 false true false false) := by
  refine returnsInHanded_of_change (C := Try.checked) own started (by kernel_rfl) Try.func5
    (ChangeSpec.witness6 (enc := enc) (C := Try.checked) false ⟨#[], #[.slice none 0 0, .int .i64 0, .int .i64 0, .int .u64 0], []⟩ 8 (by kernel_rfl) (by kernel_rfl) (by kernel_rfl) (by kernel_rfl)) ?_
  intro W base args ds gs before hval0 hW hcnd _
  have hval : ∀ (j : Nat) t v, Try.f5.params[j]? = some t → args[j]? = some v → Value.okWide Try.prog W .any base t v := hval0
  have hW' := hW
  obtain ⟨p, q, hA0, hV, rfl, hfz, hnd⟩ := hW
  have hA : DataW.TrodAll enc Try.prog W 0 (fun _ => true) true Try.f5.params.toList args.toList ds p := hA0
  rw [Try.params5] at hA hval
  obtain ⟨v0, vs0, d0, ds0, p0, q0, hargs, rfl, rfl, g0, r0⟩ := trodAll_cons hA
  obtain ⟨v1, vs1, d1, ds1, p1, q1, rfl, rfl, rfl, g1, r1⟩ := trodAll_cons r0
  obtain ⟨v2, vs2, d2, ds2, p2, q2, rfl, rfl, rfl, g2, r2⟩ := trodAll_cons r1
  obtain ⟨v3, vs3, d3, ds3, p3, q3, rfl, rfl, rfl, g3, r3⟩ := trodAll_cons r2
  obtain ⟨rfl, rfl, rfl⟩ := trodAll_nil r3
  obtain rfl : args = #[v0, v1, v2, v3] := by cases args; simp_all
  obtain ⟨rfl, rfl⟩ := trodVars_none hV
  obtain ⟨a1, rfl, rfl, rfl, w1⟩ := open_int Try.underlying3 (hval 1 3 v1 rfl rfl) g1
  have h1 := i64_in w1
  obtain ⟨a2, rfl, rfl, rfl, w2⟩ := open_int Try.underlying3 (hval 2 3 v2 rfl rfl) g2
  have h2 := i64_in w2
  obtain ⟨a3, rfl, rfl, rfl, w3⟩ := open_int Try.underlying35 (hval 3 35 v3 rfl rfl) g3
  have h3 := u64_in w3
  obtain ⟨A0, n0, cap0, rfl⟩ := okWide_slice Try.underlying22 (hval 0 22 v0 rfl rfl)
  obtain ⟨zs0, rfl, h0, w0, row0⟩ := open_ActI g0 (fun x hx => hW'.lt x (by simp [hx]))
  unfold maxLen at h0
  clear hA0 hval0
  refine (walk zs0 A0 cap0 a1 a2 a3 w0 h0 h1 h2 h3 W row0).mono fun e W' ⟨he, hg⟩ => ?_
  subst he
  exact ⟨_, rfl, law_post laidOut (by kernel_rfl) (by kernel_rfl) Try.underlying4 rfl rfl hW' hg⟩

theorem over : Rows.idealKeepsRow.holds Try.pinned (OpenSpec.ofChange Rows.idealKeepsSpec) :=
  OpenClaim.holds_of_wide 5 Try.f5 rfl rfl rfl rfl rfl rfl rfl ⟨rfl, rfl, rfl, rfl, rfl⟩ rfl rfl rfl rfl rfl (by kernel_rfl) Try.func5 (by kernel_rfl)
    (of_decide_eq_true (by kernel_rfl)) (by unfold Func.isWrapper; first | (rw [if_pos (by decide +kernel)]; kernel_rfl) | (rw [if_neg (by decide +kernel)]; exact ⟨rfl, rfl⟩))
    (fun os started H enc _ => lifted os started H enc)

/-- THE STATEMENT. -/
theorem proved : Rows.IdealKeepsSaid := over
#print axioms proved
end Go.Proofs.Ytnlepgbmbdmjbaa.idealKeeps
