/- CellApart: what is done at one place changes no other one's word, and loads, peeks, and swaps that aren't done change none: so the law answers true, for every input. -/
import Derived.Test.YtmgldhojgkcnkaaActs
import Derived.Test.YtmgldhojgkcnkaaRows
namespace Go.Proofs.Ytmgldhojgkcnkaa.cellApart
open Go.ChangeShapes Go.WideShapes Go.ChangeAt Go.RowKit Go.Maps

set_option maxRecDepth 100000 in
set_option maxHeartbeats 3200000 in
theorem walk (xs : List ActR) (A : Option Addr) (cap : Nat) (a b d v : Int) (hx : Wf (a, b, d)) (hv : InU v) (hok : ∀ r ∈ xs, ActOk r) (hlen : xs.length ≤ 9223372036854775807) (w : World) (hr : RowA w A xs) :
    Calls Try.prog 5 #[.slice A xs.length cap, .agg #[.int .i64 a, .int .i64 b, .int .i64 d], .int .u64 v] w fun e w' => e = .returned (.bool true) ∧ Below w.heap.size w w' := by
  have hE := (Env.start w).box w.heap.size rfl [.int .i64 a, .int .i64 b, .int .i64 d] 34
  have HX := Lib.hid hx
  have HV := Lib.hid hv
  have HZ := Lib.hid hok
  have HR := Lib.hid hr
  have HM : Hid (∀ k : Nat, k ≤ 1000 → k < maxLen) := Lib.hid fun k hk => by unfold maxLen; omega
  clear hx hv hok hr
  go_enter Try.func5, Try.ntmps5
  go_wp2_with fail
  refine (awake4 _).mono ?_
  rintro e w1 ⟨rfl, hb⟩
  replace hE := hE.over hb
  clear hb
  obtain ⟨B, hBw⟩ : ∃ B, B = w.heap.size := ⟨_, rfl⟩
  rw [← hBw] at hE ⊢
  have HBW := Lib.hid hBw
  clear hBw
  go_wp2_with fail
  refine (new_any w1).mono ?_
  rintro e w2 ⟨rfl, hC, hb⟩
  replace hE := hE.made hC (Nat.le_refl _) hb
  clear hC hb
  generalize w1.heap.size = c at *
  have r := hE.rule 1 rfl
  go_wp2_with fail
  refine (store_any a b d v HX.out HV.out (HM.out _ (by omega)) (hE.cell 0 rfl)).mono ?_
  rintro e w3 ⟨rfl, F3, hC, hs⟩
  replace hE := hE.turn 0 rfl hC hs
  simp only [List.set_cons_succ, List.set_cons_zero] at hE
  clear hC hs
  clear r
  go_wp2_with fail
  go_loopw [8] (fun i wr => ∃ (k : Nat) (F : Nat → Prop) (f : Plc → Int) (q : Cnt), k ≤ xs.length ∧ k ≤ 100 ∧ i = .int .i64 k ∧ Env w [cellI c F f q (k + 1), boxI B [.int .i64 a, .int .i64 b, .int .i64 d]] wr) (fun i _ => xs.length - (intOf i).toNat)
  case atStart => exact ⟨0, _, _, _, by omega, by omega, rfl, hE⟩
  case round =>
    obtain ⟨k, F, f, q, hk, hk1, rfl, hEr⟩ := hrel
    clear hE
    by_cases hlt : k < xs.length ∧ k < 100
    · obtain ⟨hlt, hlt1⟩ := hlt
      have hb1 : decide ((k : Int) < xs.length) = true := by simp; omega
      have hb2 : decide ((k : Int) < 100) = true := by simp; omega
      rcases HR.out with hz0 | ⟨blk, off, rfl, hbw, hc⟩
      · rw [hz0] at hlt; simp at hlt
      have hok : ActOk (xs.getD k default) := HZ.out _ (by simp [hlt])
      have hat : ActAt wr blk (off + k * 6) (xs.getD k default) := (hc k hlt).below hEr.below hbw
      clear hc
      generalize xs.getD k default = r at *
      obtain ⟨kd, x, y, z, va, vb⟩ := r
      obtain ⟨c0, c1, c2, c3, c4, c5⟩ := hat
      obtain ⟨_, hw, ha, hvb⟩ := hok
      simp only at c0 c1 c2 c3 c4 c5
      have HW := Lib.hid hw
      have HA := Lib.hid ha
      have HB := Lib.hid hvb
      clear hw ha hvb
      have rB : ∀ (ob : Obj) i, (wr.alloc ob).cell? ⟨B, i, none⟩ = [Value.int .i64 a, .int .i64 b, .int .i64 d][i]? := fun ob => (hEr.more ob).rule 1 rfl
      have hE := hEr.box wr.heap.size rfl [.int .i64 kd, .int .i64 x, .int .i64 y, .int .i64 z, .int .u64 va, .int .u64 vb] 37
      have HER := Lib.hid hEr
      clear hEr
      go_wp2_with fail
      clear rB c0 c1 c2 c3 c4 c5
      generalize wr.heap.size = X at *
      refine (peek_any a b d HX.out (hE.cell 1 rfl)).mono ?_
      rintro e w4 ⟨rfl, hb⟩
      replace hE := hE.over hb
      clear hb
      go_wp2_with fail
      refine (copy_any (hE.cell 1 rfl)).mono ?_
      rintro e w5 ⟨c', F', rfl, hC, hF, hb⟩
      replace hE := hE.made2 hC hF hb
      clear hC hF hb
      have rX := hE.rule 1 rfl
      have rB := hE.rule 3 rfl
      have hk4 : (kd = 2 ∨ kd = 3 ∨ kd = 5) ∨ (kd ≠ 2 ∧ kd ≠ 3 ∧ kd ≠ 5) := by omega
      rcases hk4 with (rfl | rfl | rfl) | ⟨k2, k3, k5⟩
      · go_wp2_with fail
        refine (store_any x y z va HW.out HA.out (HM.out _ (by omega)) (hE.cell 2 rfl)).mono ?_
        rintro e w6 ⟨rfl, F6, hC, hs⟩
        replace hE := hE.turn 2 rfl hC hs
        simp only [List.set_cons_succ, List.set_cons_zero] at hE
        clear hC hs
        clear rX rB
        have rX := hE.rule 1 rfl
        have rB := hE.rule 3 rfl
        have hne : (x, y, z) ≠ (a, b, d) → upd f (x, y, z) va (a, b, d) = f (a, b, d) := fun h => upd_other _ _ (fun e => h e.symm)
        generalize upd f (x, y, z) va = f6 at *
        by_cases hp : x = a ∧ y = b ∧ z = d
        · obtain ⟨rfl, rfl, rfl⟩ := hp
          go_wp2_with fail
          exact ⟨⟨k + 1, _, _, _, by omega, by omega, by simp, hE.sub (.cons _ (.cons _ (List.Sublist.refl _)))⟩, by simp [intOf]; omega⟩
        · have hne' := Lib.hid (hne fun e => hp (by simpa using e))
          clear hne
          go_wp2_with fail
          all_goals
            refine (peek_any a b d HX.out (hE.cell 2 rfl)).mono ?_
            rintro e w9 ⟨rfl, hb⟩
            replace hE := hE.over hb
            (try rw [hne'.out])
            clear hb rX rB
            go_wp2_with fail
            exact ⟨⟨k + 1, _, _, _, by omega, by omega, by simp, hE.sub (.cons _ (.cons _ (List.Sublist.refl _)))⟩, by simp [intOf]; omega⟩
      · have HD : Hid (f (x, y, z) = va ∨ f (x, y, z) ≠ va) := Lib.hid (by omega)
        go_wp2_with fail
        refine (swap_any x y z va vb HW.out HB.out (HM.out _ (by omega)) (hE.cell 2 rfl)).mono ?_
        rintro e w6 ⟨rfl, F6, hC, hs⟩
        rcases HD.out with hd | hd
        · have hf6 : swf f (x, y, z) va vb = upd f (x, y, z) vb := by simp [swf, hd]
          rw [hf6] at hC
          have hdt : (decide (f (x, y, z) = va)) = true := by simpa using hd
          rw [hdt] at hC ⊢
          clear hd hdt hf6 HD
          replace hE := hE.turn 2 rfl hC hs
          simp only [List.set_cons_succ, List.set_cons_zero] at hE
          clear hC hs
          clear rX rB
          have rX := hE.rule 1 rfl
          have rB := hE.rule 3 rfl
          have hne : (x, y, z) ≠ (a, b, d) → upd f (x, y, z) vb (a, b, d) = f (a, b, d) := fun h => upd_other _ _ (fun e => h e.symm)
          generalize upd f (x, y, z) vb = f6 at *
          by_cases hp : x = a ∧ y = b ∧ z = d
          · obtain ⟨rfl, rfl, rfl⟩ := hp
            go_wp2_with fail
            exact ⟨⟨k + 1, _, _, _, by omega, by omega, by simp, hE.sub (.cons _ (.cons _ (List.Sublist.refl _)))⟩, by simp [intOf]; omega⟩
          · have hne' := Lib.hid (hne fun e => hp (by simpa using e))
            clear hne
            go_wp2_with fail
            all_goals
              refine (peek_any a b d HX.out (hE.cell 2 rfl)).mono ?_
              rintro e w9 ⟨rfl, hb⟩
              replace hE := hE.over hb
              (try rw [hne'.out])
              clear hb rX rB
              go_wp2_with fail
              exact ⟨⟨k + 1, _, _, _, by omega, by omega, by simp, hE.sub (.cons _ (.cons _ (List.Sublist.refl _)))⟩, by simp [intOf]; omega⟩
        · have hf6 : swf f (x, y, z) va vb = f := by simp [swf, hd]
          rw [hf6] at hC
          have hdt : (decide (f (x, y, z) = va)) = false := by simpa using hd
          rw [hdt] at hC ⊢
          clear hd hdt hf6 HD
          replace hE := hE.turn 2 rfl hC hs
          simp only [List.set_cons_succ, List.set_cons_zero] at hE
          clear hC hs
          clear rX rB
          go_wp2_with fail
          refine (same_any (hE.cell 2 rfl) (hE.cell 0 rfl)).mono ?_
          rintro e w7 ⟨rfl, hb⟩
          rw [sameB_yes rfl]
          replace hE := hE.over hb
          clear hb
          have rX := hE.rule 1 rfl
          have rB := hE.rule 3 rfl
          have hne : (x, y, z) ≠ (a, b, d) → f (a, b, d) = f (a, b, d) := fun _ => rfl
          by_cases hp : x = a ∧ y = b ∧ z = d
          · obtain ⟨rfl, rfl, rfl⟩ := hp
            go_wp2_with fail
            exact ⟨⟨k + 1, _, _, _, by omega, by omega, by simp, hE.sub (.cons _ (.cons _ (List.Sublist.refl _)))⟩, by simp [intOf]; omega⟩
          · have hne' := Lib.hid (hne fun e => hp (by simpa using e))
            clear hne
            go_wp2_with fail
            all_goals
              refine (peek_any a b d HX.out (hE.cell 2 rfl)).mono ?_
              rintro e w9 ⟨rfl, hb⟩
              replace hE := hE.over hb
              (try rw [hne'.out])
              clear hb rX rB
              go_wp2_with fail
              exact ⟨⟨k + 1, _, _, _, by omega, by omega, by simp, hE.sub (.cons _ (.cons _ (List.Sublist.refl _)))⟩, by simp [intOf]; omega⟩
      · go_wp2_with fail
        refine (add_any x y z va HW.out (HM.out _ (by omega)) (hE.cell 2 rfl)).mono ?_
        rintro e w6 ⟨rfl, F6, hC, hs⟩
        replace hE := hE.turn 2 rfl hC hs
        simp only [List.set_cons_succ, List.set_cons_zero] at hE
        clear hC hs
        clear rX rB
        have rX := hE.rule 1 rfl
        have rB := hE.rule 3 rfl
        have hne : (x, y, z) ≠ (a, b, d) → upd f (x, y, z) (IntKind.u64.wrap (f (x, y, z) + va)) (a, b, d) = f (a, b, d) := fun h => upd_other _ _ (fun e => h e.symm)
        generalize upd f (x, y, z) (IntKind.u64.wrap (f (x, y, z) + va)) = f6 at *
        by_cases hp : x = a ∧ y = b ∧ z = d
        · obtain ⟨rfl, rfl, rfl⟩ := hp
          go_wp2_with fail
          exact ⟨⟨k + 1, _, _, _, by omega, by omega, by simp, hE.sub (.cons _ (.cons _ (List.Sublist.refl _)))⟩, by simp [intOf]; omega⟩
        · have hne' := Lib.hid (hne fun e => hp (by simpa using e))
          clear hne
          go_wp2_with fail
          all_goals
            refine (peek_any a b d HX.out (hE.cell 2 rfl)).mono ?_
            rintro e w9 ⟨rfl, hb⟩
            replace hE := hE.over hb
            (try rw [hne'.out])
            clear hb rX rB
            go_wp2_with fail
            exact ⟨⟨k + 1, _, _, _, by omega, by omega, by simp, hE.sub (.cons _ (.cons _ (List.Sublist.refl _)))⟩, by simp [intOf]; omega⟩
      · have e2 : (kd == 2) = false := by simpa using k2
        have e3 : (kd == 3) = false := by simpa using k3
        have e5 : (kd == 5) = false := by simpa using k5
        clear k2 k3 k5
        go_wp2_with fail
        refine (load_any x y z HW.out (hE.cell 2 rfl)).mono ?_
        rintro e w6 ⟨rfl, hC, hs⟩
        replace hC := hC.mono (Nat.le_succ (k + 1))
        replace hE := hE.turn 2 rfl hC hs
        simp only [List.set_cons_succ, List.set_cons_zero] at hE
        clear hC hs
        clear rX rB e2 e3 e5
        go_wp2_with fail
        refine (same_any (hE.cell 2 rfl) (hE.cell 0 rfl)).mono ?_
        rintro e w7 ⟨rfl, hb⟩
        rw [sameB_yes rfl]
        replace hE := hE.over hb
        clear hb
        have rX := hE.rule 1 rfl
        have rB := hE.rule 3 rfl
        have hne : (x, y, z) ≠ (a, b, d) → f (a, b, d) = f (a, b, d) := fun _ => rfl
        by_cases hp : x = a ∧ y = b ∧ z = d
        · obtain ⟨rfl, rfl, rfl⟩ := hp
          go_wp2_with fail
          exact ⟨⟨k + 1, _, _, _, by omega, by omega, by simp, hE.sub (.cons _ (.cons _ (List.Sublist.refl _)))⟩, by simp [intOf]; omega⟩
        · have hne' := Lib.hid (hne fun e => hp (by simpa using e))
          clear hne
          go_wp2_with fail
          all_goals
            refine (peek_any a b d HX.out (hE.cell 2 rfl)).mono ?_
            rintro e w9 ⟨rfl, hb⟩
            replace hE := hE.over hb
            (try rw [hne'.out])
            clear hb rX rB
            go_wp2_with fail
            exact ⟨⟨k + 1, _, _, _, by omega, by omega, by simp, hE.sub (.cons _ (.cons _ (List.Sublist.refl _)))⟩, by simp [intOf]; omega⟩
    · by_cases hl1 : k < xs.length
      · have hb1 : decide ((k : Int) < xs.length) = true := by simp; omega
        have hb2 : decide ((k : Int) < 100) = false := by simp; omega
        go_wp2
        go_ret
        exact ⟨rfl, HBW.out ▸ hEr.below⟩
      · have hb1 : decide ((k : Int) < xs.length) = false := by simp; omega
        go_wp2
        go_ret
        exact ⟨rfl, HBW.out ▸ hEr.below⟩

theorem own : ownKnob Try.prog.godebug = none := by kernel_rfl
theorem laidOut : laidOutB Try.prog = true := by kernel_rfl

set_option maxRecDepth 100000 in
theorem lifted (os : Os) (started : os.Started) (H : Type) (enc : TypeId × Value → H) :
    ReturnsInHanded {} Try.checked os 5 .any (Rows.cellApartSpec.pre6 enc Try.prog Try.f5 Rows.cellApartRow.domain false) (Rows.cellApartSpec.post enc Try.prog Try.f5 false true false false) := by
  refine returnsInHanded_of_change (C := Try.checked) own started (by kernel_rfl) Try.func5
    (ChangeSpec.witness6 (enc := enc) (C := Try.checked) false ⟨#[], #[.slice none 0 0, .agg #[.int .i64 0, .int .i64 0, .int .i64 0], .int .u64 0], []⟩ 8 (by kernel_rfl) (by kernel_rfl) (by kernel_rfl) (by kernel_rfl)) ?_
  intro W base args ds gs before hval0 hW hcnd _
  have hval : ∀ (j : Nat) t v, Try.f5.params[j]? = some t → args[j]? = some v → Value.okWide Try.prog W .any base t v := hval0
  have hW' := hW
  obtain ⟨p, q, hA0, hV, rfl, hfz, hnd⟩ := hW
  have hA : DataW.TrodAll enc Try.prog W 0 (fun _ => true) true Try.f5.params.toList args.toList ds p := hA0
  rw [Try.params5] at hA hval
  obtain ⟨v0, vs0, d0, ds0, p0, q0, hargs, rfl, rfl, g0, r0⟩ := trodAll_cons hA
  obtain ⟨v1, vs1, d1, ds1, p1, q1, rfl, rfl, rfl, g1, r1⟩ := trodAll_cons r0
  obtain ⟨v2, vs2, d2, ds2, p2, q2, rfl, rfl, rfl, g2, r2⟩ := trodAll_cons r1
  obtain ⟨rfl, rfl, rfl⟩ := trodAll_nil r2
  obtain rfl : args = #[v0, v1, v2] := by cases args; simp_all
  obtain ⟨rfl, rfl⟩ := trodVars_none hV
  obtain ⟨cs1, rfl, z1, H1⟩ := open_flat (ss := [.num .i64, .num .i64, .num .i64]) Try.underlying34 (by kernel_rfl) (by kernel_rfl) ⟨Try.underlying3, Try.underlying3, Try.underlying3, trivial⟩ (hval 1 34 v1 rfl rfl) g1
  obtain ⟨l1, rfl, z1⟩ := list_of z1
  obtain ⟨x1_0, x1_1, x1_2, rfl⟩ := list3 z1
  obtain ⟨_, e, a1_0, rfl, w1_0⟩ := H1 0 _ rfl
  obtain rfl : x1_0 = .int .i64 a1_0 := by simpa using e
  clear e
  have h1_0 := i64_in w1_0
  obtain ⟨_, e, a1_1, rfl, w1_1⟩ := H1 1 _ rfl
  obtain rfl : x1_1 = .int .i64 a1_1 := by simpa using e
  clear e
  have h1_1 := i64_in w1_1
  obtain ⟨_, e, a1_2, rfl, w1_2⟩ := H1 2 _ rfl
  obtain rfl : x1_2 = .int .i64 a1_2 := by simpa using e
  clear e
  have h1_2 := i64_in w1_2
  clear H1
  obtain ⟨a2, rfl, rfl, rfl, w2⟩ := open_int Try.underlying35 (hval 2 35 v2 rfl rfl) g2
  have h2 := u64_in w2
  obtain ⟨A0, n0, cap0, rfl⟩ := okWide_slice Try.underlying22 (hval 0 22 v0 rfl rfl)
  obtain ⟨zs0, rfl, h0, w0, row0⟩ := open_acts g0 (fun x hx => hW'.lt x (by simp [hx]))
  unfold maxLen at h0
  clear hA0 hval0
  refine (walk zs0 A0 cap0 a1_0 a1_1 a1_2 a2 ⟨h1_0, h1_1, h1_2⟩ h2 w0 h0 W row0).mono fun e W' ⟨he, hg⟩ => ?_
  subst he
  exact ⟨_, rfl, law_post laidOut (by kernel_rfl) (by kernel_rfl) Try.underlying4 rfl rfl hW' hg⟩

theorem over : Rows.cellApartRow.holds Try.pinned (OpenSpec.ofChange Rows.cellApartSpec) :=
  OpenClaim.holds_of_wide 5 Try.f5 rfl rfl rfl rfl rfl rfl rfl ⟨rfl, rfl, rfl, rfl, rfl⟩ rfl rfl rfl rfl rfl (by kernel_rfl) Try.func5 (by kernel_rfl)
    (of_decide_eq_true (by kernel_rfl)) (by unfold Func.isWrapper; first | (rw [if_pos (by decide +kernel)]; kernel_rfl) | (rw [if_neg (by decide +kernel)]; exact ⟨rfl, rfl⟩))
    (fun os started H enc _ => lifted os started H enc)

/-- THE STATEMENT. -/
theorem proved : Rows.CellApartSaid := over
#print axioms proved
end Go.Proofs.Ytmgldhojgkcnkaa.cellApart
