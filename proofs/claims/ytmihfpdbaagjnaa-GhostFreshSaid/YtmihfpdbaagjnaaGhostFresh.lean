/- GhostFresh: a reference to who a slot is is never stale, one to who it was always is: so the law answers true, for every input. -/
import Derived.Test.YtmihfpdbaagjnaaGhostW
import Derived.Test.YtmihfpdbaagjnaaActG
import Derived.Test.YtmihfpdbaagjnaaLaw
import Derived.Test.YtmihfpdbaagjnaaRows
namespace Go.Proofs.Ytmihfpdbaagjnaa.ghostFresh
open Go.ChangeShapes Go.WideShapes Go.ChangeAt Go.RowKit Go.Maps
set_option maxRecDepth 100000

theorem st_now (l : List Int) (y : Int) : stB l 5 y (nowL l y) = false := by simp [stB]
theorem fa_now (l : List Int) (y : Int) : faS l 5 y (nowL l y) false 0 = 0 := by unfold faS; rw [st_now]; rfl
theorem st_was (l : List Int) (y : Int) : stB (l ++ [y]) 5 y (nowL l y) = true := by
  have := nowL_bound l y
  unfold stB
  rw [nowL_snoc, if_pos rfl]
  simp
  omega
theorem fa_was (l : List Int) (y : Int) : faS (l ++ [y]) 5 y (nowL l y) false 0 = 1 := by unfold faS; rw [st_was]; simp [wrap64]

set_option maxHeartbeats 6400000 in
theorem walk (xs : List ActG) (A : Option Addr) (cap : Nat) (sl part : Int) (hok : ∀ r ∈ xs, OkActG r) (hlen : xs.length ≤ 9223372036854775807) (hsl : In64 sl) (hpart : In64 part) (w : World) (hr : RowX encActG 11 w A xs) :
    Calls Try.prog 6 #[.slice A xs.length cap, .int .i64 sl, .int .i64 part] w fun e w' => e = .returned (.bool true) ∧ Below w.heap.size w w' := by
  have hE := Env.start w
  have HZ := Lib.hid hok
  have HR := Lib.hid hr
  have HS := Lib.hid hsl
  have HW : Hid (Wf (5, sl, part)) := Lib.hid ⟨show In64 5 by unfold In64; omega, hsl, hpart⟩
  have h0 : Hid (In64 0) := Lib.hid (by unfold In64; omega)
  have HM : Hid (∀ n : Nat, n ≤ 10 → n < maxLen) := Lib.hid fun n hn => by unfold maxLen; omega
  clear hok hr hsl hpart
  go_enter Try.func6, Try.ntmps6
  go_wp2_with fail
  refine (awake8 _).mono ?_
  rintro e w1 ⟨rfl, hb⟩
  replace hE := hE.over hb
  clear hb
  go_wp2_with fail
  refine (new_g hE).mono ?_
  rintro e w2 ⟨g, p, s, c, rfl, hE, hb⟩
  clear hb
  go_wp2_with fail
  go_loopw [8] (fun i wr => ∃ (k : Nat) (S : Nat → Prop) (l : List Int), k ≤ xs.length ∧ k ≤ 100 ∧ l.length ≤ k ∧ i = .int .i64 k ∧ Env w [boxI g (gv p none s 0 0), leadsI none (fun _ => 0) 0, soulI s S l, wbox p c, cellI c (fun k => k = c) (fun _ => 0) ⟨0, 0, 0, 0, 0⟩ 0] wr) (fun i _ => xs.length - (intOf i).toNat)
  case atStart => exact ⟨0, _, [], by omega, by omega, by simp, rfl, hE⟩
  case round =>
    obtain ⟨k, S, l, hk, hk1, hll, rfl, hEr⟩ := hrel
    clear hE
    have hl6 : l.length ≤ 1000000 := by omega
    have hl5 : l.length ≤ 100000 := by omega
    by_cases hlt : k < xs.length ∧ k < 100
    · obtain ⟨hlt, hlt1⟩ := hlt
      have hb1 : decide ((k : Int) < xs.length) = true := by simp; omega
      have hb2 : decide ((k : Int) < 100) = true := by simp; omega
      rcases HR.out with hz0 | ⟨blk, off, rfl, hbw, hc⟩
      · rw [hz0] at hlt; simp at hlt
      have hok : OkActG (xs.getD k default) := HZ.out _ (by simp [hlt])
      have hat := (hc k hlt).below hEr.below hbw
      clear hc
      generalize xs.getD k default = r at *
      obtain ⟨kd, x, y, z, d, ow, oi, os, vw, vi, vs⟩ := r
      obtain ⟨_, _, wy, _, _, _, _, _, _⟩ := hok
      simp only at wy
      have HY := Lib.hid wy
      clear wy
      obtain ⟨c0, c1', c2', c3, c4, c5, c6, c7, c8, c9, c10⟩ := at_ActG hat
      clear hat
      by_cases h6 : kd = 6
      · subst h6
        go_wp2_with fail
        refine (born_g y HY.out hl5 0 hEr rfl rfl).mono ?_
        rintro e w6 ⟨rfl, S6, hE⟩
        simp only [List.set_cons_succ, List.set_cons_zero] at hE
        have hbl := bornL_length l y
        clear c0 c1' c2' c3 c4 c5 c6 c7 c8 c9 c10 hEr
        go_wp2_with fail
        exact ⟨⟨k + 1, _, _, by omega, by omega, by omega, by simp, hE⟩, by simp [intOf]; omega⟩
      · go_wp2_with fail
        exact ⟨⟨k + 1, _, l, by omega, by omega, by omega, by simp, hEr⟩, by simp [intOf]; omega⟩
    · by_cases hl1 : k < xs.length
      · have hl2 : ¬ k < 100 := fun h => hlt ⟨hl1, h⟩
        have hb1 : decide ((k : Int) < xs.length) = true := by simp; omega
        have hb2 : decide ((k : Int) < 100) = false := by simp; omega
        have hE := hEr.box wr.heap.size rfl [.int .i64 5, .int .i64 sl, .int .i64 part, .int .i64 0] 43
        have H1 := st_now l sl
        have H2 := fa_now l sl
        have H3 := st_was l sl
        have H4 := fa_was l sl
        go_upto_region 13 with fail
        clear hEr
        generalize wr.alloc _ = w3 at *
        generalize wr.heap.size = X at *
        go_wp2_with fail
        refine (souls_any (hE.gblk 1 rfl)).mono ?_
        rintro e w4 ⟨rfl, rfl⟩
        go_wp2_with fail
        refine (now_any sl HS.out hl6 (hE.soul 3 rfl)).mono ?_
        rintro e w4 ⟨rfl, rfl⟩
        generalize nowL l sl = d at *
        have K1 := Lib.hid H1
        have K2 := Lib.hid H2
        have K3 := Lib.hid H3
        have K4 := Lib.hid H4
        clear H1 H2 H3 H4
        have rX := hE.rule 0 rfl
        have zX := hE.thaw 0 rfl 3 (by simp)
        have hP := hE.put 0 rfl (j := 3) (by simp) (.int .i64 d)
        simp only [List.set_cons_succ, List.set_cons_zero] at hP
        go_upto_region 14 with fail
        generalize World.setCell _ _ _ = w5 at *
        replace hE := hP
        clear rX zX hP
        have rX := hE.rule 0 rfl
        have hf := valStale
        go_wp2_with fail
        refine (load_g 5 sl part d HW.out hl6 1 hE rfl rfl rfl rfl rfl).mono ?_
        rintro e w6 ⟨rfl, hE⟩
        rw [K1.out] at hE ⊢
        simp only [List.set_cons_succ, List.set_cons_zero, Bool.false_eq_true, if_false] at hE
        clear rX
        go_wp2_with fail
        refine (stale_any (hE.gblk 1 rfl)).mono ?_
        rintro e w7 ⟨rfl, rfl⟩
        have rX := hE.rule 0 rfl
        go_wp2_with fail
        refine (store_g 5 sl part d 1 0 false HW.out (by unfold InU; omega) h0.out (HM.out 0 (by omega)) (HM.out 0 (by omega)) hl6 1 hE rfl rfl rfl rfl rfl).mono ?_
        rintro e w8 ⟨rfl, mp8, F8, hE⟩
        rw [K2.out] at hE
        simp only [List.set_cons_succ, List.set_cons_zero] at hE
        clear rX
        go_wp2_with fail
        refine (faults_any (hE.gblk 1 rfl)).mono ?_
        rintro e w9 ⟨rfl, rfl⟩
        go_wp2_with fail
        refine (born_g sl HS.out hl5 1 hE rfl rfl).mono ?_
        rintro e w10 ⟨rfl, S10, hE⟩
        simp only [List.set_cons_succ, List.set_cons_zero] at hE
        by_cases h1 : sl < 1
        · have e1 : bornV l sl = 0 := if_pos h1
          rw [e1]
          have hb5 : decide (sl < 1) = true := by simpa using h1
          go_wp2_with fail
          refine (faults_any (hE.gblk 1 rfl)).mono ?_
          rintro e w11 ⟨rfl, rfl⟩
          go_wp2_with fail
          go_ret
          exact ⟨rfl, hE.below⟩
        · have e1 : bornV l sl = (l.length : Int) + 1 := if_neg h1
          have e2 : bornL l sl = l ++ [sl] := if_neg h1
          rw [e1]
          rw [e2] at hE
          have hb5 : (((l.length : Int) + 1) == 0) = false := by rw [beq_eq_false_iff_ne]; omega
          have hl7 : (l ++ [sl]).length ≤ 1000000 := by simp; omega
          have rX := hE.rule 0 rfl
          go_wp2_with fail
          refine (load_g 5 sl part d HW.out hl7 1 hE rfl rfl rfl rfl rfl).mono ?_
          rintro e w11 ⟨rfl, hE⟩
          rw [upd_same, upd_same, K3.out]
          rw [K3.out] at hE
          simp only [List.set_cons_succ, List.set_cons_zero, if_true] at hE
          rw [show wrap64 (0 + 1) = 1 by simp [wrap64]] at hE
          clear rX
          replace hE := hE.box w11.heap.size rfl [.int .u64 1, .int .i64 0, .bool true] 39
          go_upto_region 20 with fail
          generalize w11.alloc _ = w12 at *
          generalize w11.heap.size = V at *
          have rX := hE.rule 1 rfl
          go_wp2_with fail
          refine (swap_g 5 sl part d 1 0 2 0 false false HW.out (by unfold InU; omega) h0.out (HM.out 1 (by omega)) (HM.out 1 (by omega)) hl7 2 hE rfl rfl rfl rfl rfl).mono ?_
          rintro e w13 ⟨rfl, mp13, F13, hE⟩
          rw [if_pos (upd_same _ _ _), if_pos (upd_same _ _ _), Bool.or_self, K4.out] at hE
          rw [show decide (upd (fun _ => 0) (5, sl, part) 1 (5, sl, part) = 1) = true by simp [upd_same]]
          simp only [List.set_cons_succ, List.set_cons_zero] at hE
          clear rX
          have rV := hE.rule 0 rfl
          go_wp2_with fail
          refine (faults_any (hE.gblk 2 rfl)).mono ?_
          rintro e w14 ⟨rfl, rfl⟩
          go_wp2_with fail
          refine (stale_any (hE.gblk 2 rfl)).mono ?_
          rintro e w15 ⟨rfl, rfl⟩
          go_wp2_with fail
          go_ret
          exact ⟨rfl, hE.below⟩
      · have hb1 : decide ((k : Int) < xs.length) = false := by simp; omega
        have hE := hEr.box wr.heap.size rfl [.int .i64 5, .int .i64 sl, .int .i64 part, .int .i64 0] 43
        have H1 := st_now l sl
        have H2 := fa_now l sl
        have H3 := st_was l sl
        have H4 := fa_was l sl
        go_upto_region 13 with fail
        clear hEr
        generalize wr.alloc _ = w3 at *
        generalize wr.heap.size = X at *
        go_wp2_with fail
        refine (souls_any (hE.gblk 1 rfl)).mono ?_
        rintro e w4 ⟨rfl, rfl⟩
        go_wp2_with fail
        refine (now_any sl HS.out hl6 (hE.soul 3 rfl)).mono ?_
        rintro e w4 ⟨rfl, rfl⟩
        generalize nowL l sl = d at *
        have K1 := Lib.hid H1
        have K2 := Lib.hid H2
        have K3 := Lib.hid H3
        have K4 := Lib.hid H4
        clear H1 H2 H3 H4
        have rX := hE.rule 0 rfl
        have zX := hE.thaw 0 rfl 3 (by simp)
        have hP := hE.put 0 rfl (j := 3) (by simp) (.int .i64 d)
        simp only [List.set_cons_succ, List.set_cons_zero] at hP
        go_upto_region 14 with fail
        generalize World.setCell _ _ _ = w5 at *
        replace hE := hP
        clear rX zX hP
        have rX := hE.rule 0 rfl
        have hf := valStale
        go_wp2_with fail
        refine (load_g 5 sl part d HW.out hl6 1 hE rfl rfl rfl rfl rfl).mono ?_
        rintro e w6 ⟨rfl, hE⟩
        rw [K1.out] at hE ⊢
        simp only [List.set_cons_succ, List.set_cons_zero, Bool.false_eq_true, if_false] at hE
        clear rX
        go_wp2_with fail
        refine (stale_any (hE.gblk 1 rfl)).mono ?_
        rintro e w7 ⟨rfl, rfl⟩
        have rX := hE.rule 0 rfl
        go_wp2_with fail
        refine (store_g 5 sl part d 1 0 false HW.out (by unfold InU; omega) h0.out (HM.out 0 (by omega)) (HM.out 0 (by omega)) hl6 1 hE rfl rfl rfl rfl rfl).mono ?_
        rintro e w8 ⟨rfl, mp8, F8, hE⟩
        rw [K2.out] at hE
        simp only [List.set_cons_succ, List.set_cons_zero] at hE
        clear rX
        go_wp2_with fail
        refine (faults_any (hE.gblk 1 rfl)).mono ?_
        rintro e w9 ⟨rfl, rfl⟩
        go_wp2_with fail
        refine (born_g sl HS.out hl5 1 hE rfl rfl).mono ?_
        rintro e w10 ⟨rfl, S10, hE⟩
        simp only [List.set_cons_succ, List.set_cons_zero] at hE
        by_cases h1 : sl < 1
        · have e1 : bornV l sl = 0 := if_pos h1
          rw [e1]
          have hb5 : decide (sl < 1) = true := by simpa using h1
          go_wp2_with fail
          refine (faults_any (hE.gblk 1 rfl)).mono ?_
          rintro e w11 ⟨rfl, rfl⟩
          go_wp2_with fail
          go_ret
          exact ⟨rfl, hE.below⟩
        · have e1 : bornV l sl = (l.length : Int) + 1 := if_neg h1
          have e2 : bornL l sl = l ++ [sl] := if_neg h1
          rw [e1]
          rw [e2] at hE
          have hb5 : (((l.length : Int) + 1) == 0) = false := by rw [beq_eq_false_iff_ne]; omega
          have hl7 : (l ++ [sl]).length ≤ 1000000 := by simp; omega
          have rX := hE.rule 0 rfl
          go_wp2_with fail
          refine (load_g 5 sl part d HW.out hl7 1 hE rfl rfl rfl rfl rfl).mono ?_
          rintro e w11 ⟨rfl, hE⟩
          rw [upd_same, upd_same, K3.out]
          rw [K3.out] at hE
          simp only [List.set_cons_succ, List.set_cons_zero, if_true] at hE
          rw [show wrap64 (0 + 1) = 1 by simp [wrap64]] at hE
          clear rX
          replace hE := hE.box w11.heap.size rfl [.int .u64 1, .int .i64 0, .bool true] 39
          go_upto_region 20 with fail
          generalize w11.alloc _ = w12 at *
          generalize w11.heap.size = V at *
          have rX := hE.rule 1 rfl
          go_wp2_with fail
          refine (swap_g 5 sl part d 1 0 2 0 false false HW.out (by unfold InU; omega) h0.out (HM.out 1 (by omega)) (HM.out 1 (by omega)) hl7 2 hE rfl rfl rfl rfl rfl).mono ?_
          rintro e w13 ⟨rfl, mp13, F13, hE⟩
          rw [if_pos (upd_same _ _ _), if_pos (upd_same _ _ _), Bool.or_self, K4.out] at hE
          rw [show decide (upd (fun _ => 0) (5, sl, part) 1 (5, sl, part) = 1) = true by simp [upd_same]]
          simp only [List.set_cons_succ, List.set_cons_zero] at hE
          clear rX
          have rV := hE.rule 0 rfl
          go_wp2_with fail
          refine (faults_any (hE.gblk 2 rfl)).mono ?_
          rintro e w14 ⟨rfl, rfl⟩
          go_wp2_with fail
          refine (stale_any (hE.gblk 2 rfl)).mono ?_
          rintro e w15 ⟨rfl, rfl⟩
          go_wp2_with fail
          go_ret
          exact ⟨rfl, hE.below⟩

theorem own : ownKnob Try.prog.godebug = none := by kernel_rfl
theorem laidOut : laidOutB Try.prog = true := by kernel_rfl

set_option maxRecDepth 100000 in
theorem lifted (os : Os) (started : os.Started) (H : Type) (enc : TypeId × Value → H) :
    ReturnsInHanded {} Try.checked os 6 .any (Rows.ghostFreshSpec.pre6 enc Try.prog Try.f6 Rows.ghostFreshRow.domain false) (Rows.ghostFreshSpec.post enc Try.prog Try.f6 false true false false) := by
  refine returnsInHanded_of_change (C := Try.checked) own started (by kernel_rfl) Try.func6
    (ChangeSpec.witness6 (enc := enc) (C := Try.checked) false ⟨#[], #[.slice none 0 0, .int .i64 0, .int .i64 0], []⟩ 8 (by kernel_rfl) (by kernel_rfl) (by kernel_rfl) (by kernel_rfl)) ?_
  intro W base args ds gs before hval0 hW hcnd _
  have hval : ∀ (j : Nat) t v, Try.f6.params[j]? = some t → args[j]? = some v → Value.okWide Try.prog W .any base t v := hval0
  have hW' := hW
  obtain ⟨p, q, hA0, hV, rfl, hfz, hnd⟩ := hW
  have hA : DataW.TrodAll enc Try.prog W 0 (fun _ => true) true Try.f6.params.toList args.toList ds p := hA0
  rw [Try.params6] at hA hval
  obtain ⟨v0, vs0, d0, ds0, p0, q0, hargs, rfl, rfl, g0, r0⟩ := trodAll_cons hA
  obtain ⟨v1, vs1, d1, ds1, p1, q1, rfl, rfl, rfl, g1, r1⟩ := trodAll_cons r0
  obtain ⟨v2, vs2, d2, ds2, p2, q2, rfl, rfl, rfl, g2, r2⟩ := trodAll_cons r1
  obtain ⟨rfl, rfl, rfl⟩ := trodAll_nil r2
  obtain rfl : args = #[v0, v1, v2] := by cases args; simp_all
  obtain ⟨rfl, rfl⟩ := trodVars_none hV
  obtain ⟨a1, rfl, rfl, rfl, w1⟩ := open_int Try.underlying3 (hval 1 3 v1 rfl rfl) g1
  have h1 := i64_in w1
  obtain ⟨a2, rfl, rfl, rfl, w2⟩ := open_int Try.underlying3 (hval 2 3 v2 rfl rfl) g2
  have h2 := i64_in w2
  obtain ⟨A0, n0, cap0, rfl⟩ := okWide_slice Try.underlying22 (hval 0 22 v0 rfl rfl)
  obtain ⟨zs0, rfl, h0, w0, row0⟩ := open_ActG g0 (fun x hx => hW'.lt x (by simp [hx]))
  unfold maxLen at h0
  clear hA0 hval0
  refine (walk zs0 A0 cap0 a1 a2 w0 h0 h1 h2 W row0).mono fun e W' ⟨he, hg⟩ => ?_
  subst he
  exact ⟨_, rfl, law_post laidOut (by kernel_rfl) (by kernel_rfl) Try.underlying4 rfl rfl hW' hg⟩

theorem over : Rows.ghostFreshRow.holds Try.pinned (OpenSpec.ofChange Rows.ghostFreshSpec) :=
  OpenClaim.holds_of_wide 6 Try.f6 rfl rfl rfl rfl rfl rfl rfl ⟨rfl, rfl, rfl, rfl, rfl⟩ rfl rfl rfl rfl rfl (by kernel_rfl) Try.func6 (by kernel_rfl)
    (of_decide_eq_true (by kernel_rfl)) (by unfold Func.isWrapper; first | (rw [if_pos (by decide +kernel)]; kernel_rfl) | (rw [if_neg (by decide +kernel)]; exact ⟨rfl, rfl⟩))
    (fun os started H enc _ => lifted os started H enc)

/-- THE STATEMENT. -/
theorem proved : Rows.GhostFreshSaid := over
#print axioms proved
end Go.Proofs.Ytmihfpdbaagjnaa.ghostFresh
