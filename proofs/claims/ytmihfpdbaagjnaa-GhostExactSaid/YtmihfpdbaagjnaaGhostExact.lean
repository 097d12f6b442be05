/- GhostExact: of every row of accesses and births each answer with its ghosts, how many loads were stale and how many faults there were are the reference's: so the law answers true, for every input. -/
import Derived.Test.YtmihfpdbaagjnaaGhostX
import Derived.Test.YtmihfpdbaagjnaaGhostW
import Derived.Test.YtmihfpdbaagjnaaActG
import Derived.Test.YtmihfpdbaagjnaaLaw
import Derived.Test.YtmihfpdbaagjnaaRows
namespace Go.Proofs.Ytmihfpdbaagjnaa.ghostExact
open Go.ChangeShapes Go.WideShapes Go.ChangeAt Go.RowKit Go.Maps
set_option maxRecDepth 100000

set_option maxHeartbeats 12800000 in
theorem walk (xs : List ActG) (A : Option Addr) (cap : Nat) (hok : ∀ r ∈ xs, OkActG r) (hlen : xs.length ≤ 9223372036854775807) (w : World) (hr : RowX encActG 11 w A xs) :
    Calls Try.prog 3 #[.slice A xs.length cap] w fun e w' => e = .returned (.bool true) ∧ Below w.heap.size w w' := by
  have hE := Env.start w
  have HZ := Lib.hid hok
  have HR := Lib.hid hr
  clear hok hr
  go_enter Try.func3, Try.ntmps3
  go_wp2_with fail
  refine (awake8 _).mono ?_
  rintro e w1 ⟨rfl, hb⟩
  replace hE := hE.over hb
  clear hb
  go_wp2_with fail
  refine (new_g hE).mono ?_
  rintro e w2 ⟨g, p, s, c, rfl, hE, hb⟩
  clear hb
  replace hE := hE.addNone.addNoneO.addNoneO.box w2.heap.size rfl (uv (.slice none 0 0) (.slice none 0 0) (.slice none 0 0) 0 0) 36
  go_wp2_with fail
  generalize w2.heap.size = u at *
  go_loopw [5] (fun i wr => ∃ (k : Nat) (fa st : Int), k ≤ xs.length ∧ k ≤ 150 ∧ i = .int .i64 k ∧ GX w u g p s c k fa st wr) (fun i _ => xs.length - (intOf i).toNat)
  case atStart => exact ⟨0, 0, 0, by omega, by omega, rfl, _, _, _, [], [], [], none, 0, _, _, ⟨0, 0, 0, 0, 0⟩, 0, by simp, by simp, by simp, by omega, by omega, fun x => Int.le_refl _, hE⟩
  case round =>
    obtain ⟨k, fa, st, hk, hk1, rfl, v1, v2, v3, lc, li, l, mp, m, S, F, q, n, hlc, hli, hll, hn, hm, hnn, hE⟩ := hrel
    by_cases hlt : k < xs.length ∧ k < 150
    · obtain ⟨hlt, hlt1⟩ := hlt
      have hb1 : decide ((k : Int) < xs.length) = true := by simp; omega
      have hb2 : decide ((k : Int) < 150) = true := by simp; omega
      rcases HR.out with hz0 | ⟨blk, off, rfl, hbw, hc⟩
      · rw [hz0] at hlt; simp at hlt
      have hok : OkActG (xs.getD k default) := HZ.out _ (by simp [hlt])
      have hAt := fun (w' : World) (hb : Below w.heap.size w w') => (hc k hlt).below hb hbw
      clear hc
      generalize xs.getD k default = r at *
      obtain ⟨kd, x, y, z, d, ow, oi, os, vw, vi, vs⟩ := r
      obtain ⟨_, wx, wy, wz, _, how, _, hvw, hvi⟩ := hok
      simp only at wx wy wz how hvw hvi
      have HX := Lib.hid (show Wf (x, y, z) from ⟨wx, wy, wz⟩)
      have HW := Lib.hid hvw
      have HI : Hid (In64 vi) := Lib.hid hvi
      have HAT := Lib.hid fun (w' : World) (hb : Below w.heap.size w w') => at_ActG (hAt w' hb)
      clear wx wy wz how hvw hvi hAt
      obtain ⟨c0, c1', c2', c3, c4, c5, c6, c7, c8, c9, c10⟩ := HAT.out _ hE.below
      by_cases hv0 : vi < 0
      · have hb3 : decide (vi < 0) = true := by simpa using hv0
        go_wp2_with fail
        go_ret
        exact ⟨rfl, hE.below⟩
      · have hb3 : decide (vi < 0) = false := by simpa using hv0
        have hG := fun (w' : World) (h : Env w [boxI u (uv v1 v2 v3 fa st), rowO v1 lc, rowO v2 li, intsI v3 l, boxI g (gv p mp s st fa), leadsI mp (getL li) m, soulI s S l, wbox p c, cellI c F (getL lc) q n] w') => does_any kd x y z d ow oi vw vi os vs HX.out HW.out HI.out (by omega) (by omega : k ≤ 1000) hlc hli hll hn hm hnn h
        generalize faX kd l lc fa x y z d ow os vs = f1 at hG
        generalize stX kd l st x y d = s1 at hG
        have HG := Lib.hid hG
        clear hG
        go_wp2_with fail
        clear c0 c1' c2' c3 c4 c5 c6 c7 c8 c9 c10
        refine Ord.wp_chain2 [6] (fun w' => Below w.heap.size w w') (Stage [Env w [boxI u (uv v1 v2 v3 fa st), rowO v1 lc, rowO v2 li, intsI v3 l, boxI g (gv p mp s st fa), leadsI mp (getL li) m, soulI s S l, wbox p c, cellI c F (getL lc) q n], GX w u g p s c (k + 1) f1 s1]) (by kernel_rfl) (by kernel_rfl) (by kernel_rfl) hE.drew.below ⟨_, rfl, hE.drew⟩ (fun hT => ?_)
        have hT9 := Lib.hid hT
        clear hT
        repeat (refine Ord.ch2_value (v := ?_) hT9.out (by decide) (by rfl) ?_ ?_; rotate_left; (focus (intro w5 hS; obtain ⟨c0, c1', c2', c3, c4, c5, c6, c7, c8, c9, c10⟩ := HAT.out _ hS; go_simp <;> with_reducible rfl)); (try simp only [Act.put, List.setIfInBounds_toArray, List.set_cons_zero, List.set_cons_succ]))
        refine Ord.ch2_turn 0 hT9.out (by rfl) (by decide) (Or.inl rfl) (by rfl) (v := .bool true) ?_ ?_
        · rintro w5 hC5 ⟨P5, hP5, hA5⟩
          cases hP5
          go_simp
          simp only [Ord.LandsIn]
          refine (HG.out _ hA5).mono ?_
          rintro e w6 ⟨rfl, hA6⟩
          refine ⟨rfl, ?_, _, rfl, hA6⟩
          obtain ⟨x1, x2, x3, y1, y2, y3, y4, y5, y6, y7, y8, y9, z1, z2, z3, z4, z5, z6, hE5⟩ := hA6
          exact hE5.below
        (try simp only [Act.put, List.setIfInBounds_toArray, List.set_cons_zero, List.set_cons_succ])
        repeat (refine Ord.ch2_value (v := ?_) hT9.out (by decide) (by rfl) ?_ ?_; rotate_left; (focus (intro w5 hS; skip; go_simp <;> with_reducible rfl)); (try simp only [Act.put, List.setIfInBounds_toArray, List.set_cons_zero, List.set_cons_succ]))
        refine Ord.ch2_late_call 0 8 [7, 6] hT9.out (by decide) (by kernel_rfl) (by kernel_rfl) rfl rfl (by rfl) (v := .int .i64 s1) ?_ ?_
        · rintro w5 j hj hj1 hC5 ⟨P5, hP5, hA5⟩
          obtain rfl : j = 1 := by simp at hj1; omega
          cases hP5
          obtain ⟨x1, x2, x3, y1, y2, y3, y4, y5, y6, y7, y8, y9, z1, z2, z3, z4, z5, z6, hE5⟩ := hA5
          go_simp
          simp only [Ord.LandsIn]
          refine (stale_any (hE5.gblk 4 rfl)).mono ?_
          rintro e w6 ⟨rfl, rfl⟩
          exact ⟨rfl, hE5.below, _, rfl, x1, x2, x3, y1, y2, y3, y4, y5, y6, y7, y8, y9, z1, z2, z3, z4, z5, z6, hE5⟩
        (try simp only [Act.put, List.setIfInBounds_toArray, List.set_cons_zero, List.set_cons_succ])
        repeat (refine Ord.ch2_value (v := ?_) hT9.out (by decide) (by rfl) ?_ ?_; rotate_left; (focus (intro w5 hS; skip; go_simp <;> with_reducible rfl)); (try simp only [Act.put, List.setIfInBounds_toArray, List.set_cons_zero, List.set_cons_succ]))
        refine Ord.ch2_late 0 8 [7, 6] hT9.out (by decide) (by kernel_rfl) (by kernel_rfl) rfl rfl (by rfl) (v := .int .i64 s1) ?_ ?_
        · rintro w5 j hj hj1 hC5 ⟨P5, hP5, hA5⟩
          obtain rfl : j = 1 := by simp at hj1; omega
          cases hP5
          obtain ⟨x1, x2, x3, y1, y2, y3, y4, y5, y6, y7, y8, y9, z1, z2, z3, z4, z5, z6, hE5⟩ := hA5
          have r := hE5.rule 0 rfl
          unfold uv at r
          go_simp
        (try simp only [Act.put, List.setIfInBounds_toArray, List.set_cons_zero, List.set_cons_succ])
        repeat (refine Ord.ch2_value (v := ?_) hT9.out (by decide) (by rfl) ?_ ?_; rotate_left; (focus (intro w5 hS; skip; go_simp <;> with_reducible rfl)); (try simp only [Act.put, List.setIfInBounds_toArray, List.set_cons_zero, List.set_cons_succ]))
        refine Ord.ch2_late_call 0 17 [16, 8, 7, 6] hT9.out (by decide) (by kernel_rfl) (by kernel_rfl) rfl rfl (by rfl) (v := .int .i64 f1) ?_ ?_
        · rintro w5 j hj hj1 hC5 ⟨P5, hP5, hA5⟩
          obtain rfl : j = 1 := by simp at hj1; omega
          cases hP5
          obtain ⟨x1, x2, x3, y1, y2, y3, y4, y5, y6, y7, y8, y9, z1, z2, z3, z4, z5, z6, hE5⟩ := hA5
          go_simp
          simp only [Ord.LandsIn]
          refine (faults_any (hE5.gblk 4 rfl)).mono ?_
          rintro e w6 ⟨rfl, rfl⟩
          exact ⟨rfl, hE5.below, _, rfl, x1, x2, x3, y1, y2, y3, y4, y5, y6, y7, y8, y9, z1, z2, z3, z4, z5, z6, hE5⟩
        (try simp only [Act.put, List.setIfInBounds_toArray, List.set_cons_zero, List.set_cons_succ])
        repeat (refine Ord.ch2_value (v := ?_) hT9.out (by decide) (by rfl) ?_ ?_; rotate_left; (focus (intro w5 hS; skip; go_simp <;> with_reducible rfl)); (try simp only [Act.put, List.setIfInBounds_toArray, List.set_cons_zero, List.set_cons_succ]))
        refine Ord.ch2_late 0 17 [16, 8, 7, 6] hT9.out (by decide) (by kernel_rfl) (by kernel_rfl) rfl rfl (by rfl) (v := .int .i64 f1) ?_ ?_
        · rintro w5 j hj hj1 hC5 ⟨P5, hP5, hA5⟩
          obtain rfl : j = 1 := by simp at hj1; omega
          cases hP5
          obtain ⟨x1, x2, x3, y1, y2, y3, y4, y5, y6, y7, y8, y9, z1, z2, z3, z4, z5, z6, hE5⟩ := hA5
          have r := hE5.rule 0 rfl
          unfold uv at r
          go_simp
        (try simp only [Act.put, List.setIfInBounds_toArray, List.set_cons_zero, List.set_cons_succ])
        repeat (refine Ord.ch2_value (v := ?_) hT9.out (by decide) (by rfl) ?_ ?_; rotate_left; (focus (intro w5 hS; skip; go_simp <;> with_reducible rfl)); (try simp only [Act.put, List.setIfInBounds_toArray, List.set_cons_zero, List.set_cons_succ]))
        refine Ord.InText.nil fun w5 hS => ?_
        clear hT9
        obtain ⟨hC9, hA9⟩ := Ord.chain2_end hS
        clear hS
        obtain ⟨P9, hP9, hA9⟩ := hA9
        cases hP9
        go_wp2_with fail
        exact ⟨⟨k + 1, f1, s1, by omega, by omega, by simp, hA9⟩, by simp [intOf]; omega⟩
    · by_cases hl1 : k < xs.length
      · have hl2 : ¬ k < 150 := fun h => hlt ⟨hl1, h⟩
        have hb1 : decide ((k : Int) < xs.length) = true := by simp; omega
        have hb2 : decide ((k : Int) < 150) = false := by simp; omega
        obtain ⟨A3, q3, rfl⟩ := ownsRow_slice (hE.row 3 rfl)
        have HL := Lib.hid (show l.length ≤ 1000000 by omega)
        go_wp2_with fail
        refine Ord.wp_chain [] (fun w' => Env w [boxI u (uv v1 v2 (.slice A3 l.length q3) fa st), rowO v1 lc, rowO v2 li, intsI (.slice A3 l.length q3) l, boxI g (gv p mp s st fa), leadsI mp (getL li) m, soulI s S l, wbox p c, cellI c F (getL lc) q n] w') (fun _ _ => True) (by kernel_rfl) (by kernel_rfl) (by kernel_rfl) hE.drew trivial (fun hT => ?_)
        have hT9 := Lib.hid hT
        clear hT
        repeat (first
          | (refine Ord.ch_value (v := ?_) hT9.out (by decide) (by rfl) ?_ ?_; rotate_left; (focus (intro w5 hS; have r := hS.rule 0 rfl; unfold uv at r; go_simp <;> with_reducible rfl)); (try simp only [Act.put, List.setIfInBounds_toArray, List.set_cons_zero, List.set_cons_succ]))
          | (refine Ord.ch_off hT9.out (by decide) (by rfl) ?_; (try simp only [Act.put, List.setIfInBounds_toArray, List.set_cons_zero, List.set_cons_succ]))
          | (refine Ord.ch_call (v := ?_) (f := ?_) (args := ?_) hT9.out (by decide) (by rfl) ?_ ?_ ?_; rotate_left 3; (focus (intro w5 hS; have r := hS.rule 0 rfl; unfold uv at r; go_simp; constructor <;> with_reducible rfl)); (focus (intro w5 hS; (first | (with_reducible refine (souls_any (hS.gblk 4 rfl)).mono ?_; rintro e w6 ⟨rfl, rfl⟩; constructor; with_reducible rfl; exact ⟨hS, fun _ h => h⟩) | (with_reducible refine (countS_any HL.out (hS.soul 6 rfl)).mono ?_; rintro e w6 ⟨rfl, rfl⟩; constructor; with_reducible rfl; exact ⟨hS, fun _ h => h⟩)))); (try simp only [Act.put, List.setIfInBounds_toArray, List.set_cons_zero, List.set_cons_succ])))
        refine Ord.InText.nil fun w5 hS => ?_
        clear hT9
        obtain ⟨hC9, hA9⟩ := Ord.chain_end hS
        clear hS
        clear hA9
        go_wp2_with fail
        go_ret
        exact ⟨by simp, hC9.below⟩
      · have hb1 : decide ((k : Int) < xs.length) = false := by simp; omega
        obtain ⟨A3, q3, rfl⟩ := ownsRow_slice (hE.row 3 rfl)
        have HL := Lib.hid (show l.length ≤ 1000000 by omega)
        go_wp2_with fail
        refine Ord.wp_chain [] (fun w' => Env w [boxI u (uv v1 v2 (.slice A3 l.length q3) fa st), rowO v1 lc, rowO v2 li, intsI (.slice A3 l.length q3) l, boxI g (gv p mp s st fa), leadsI mp (getL li) m, soulI s S l, wbox p c, cellI c F (getL lc) q n] w') (fun _ _ => True) (by kernel_rfl) (by kernel_rfl) (by kernel_rfl) hE.drew trivial (fun hT => ?_)
        have hT9 := Lib.hid hT
        clear hT
        repeat (first
          | (refine Ord.ch_value (v := ?_) hT9.out (by decide) (by rfl) ?_ ?_; rotate_left; (focus (intro w5 hS; have r := hS.rule 0 rfl; unfold uv at r; go_simp <;> with_reducible rfl)); (try simp only [Act.put, List.setIfInBounds_toArray, List.set_cons_zero, List.set_cons_succ]))
          | (refine Ord.ch_off hT9.out (by decide) (by rfl) ?_; (try simp only [Act.put, List.setIfInBounds_toArray, List.set_cons_zero, List.set_cons_succ]))
          | (refine Ord.ch_call (v := ?_) (f := ?_) (args := ?_) hT9.out (by decide) (by rfl) ?_ ?_ ?_; rotate_left 3; (focus (intro w5 hS; have r := hS.rule 0 rfl; unfold uv at r; go_simp; constructor <;> with_reducible rfl)); (focus (intro w5 hS; (first | (with_reducible refine (souls_any (hS.gblk 4 rfl)).mono ?_; rintro e w6 ⟨rfl, rfl⟩; constructor; with_reducible rfl; exact ⟨hS, fun _ h => h⟩) | (with_reducible refine (countS_any HL.out (hS.soul 6 rfl)).mono ?_; rintro e w6 ⟨rfl, rfl⟩; constructor; with_reducible rfl; exact ⟨hS, fun _ h => h⟩)))); (try simp only [Act.put, List.setIfInBounds_toArray, List.set_cons_zero, List.set_cons_succ])))
        refine Ord.InText.nil fun w5 hS => ?_
        clear hT9
        obtain ⟨hC9, hA9⟩ := Ord.chain_end hS
        clear hS
        clear hA9
        go_wp2_with fail
        go_ret
        exact ⟨by simp, hC9.below⟩

theorem own : ownKnob Try.prog.godebug = none := by kernel_rfl
theorem laidOut : laidOutB Try.prog = true := by kernel_rfl

set_option maxRecDepth 100000 in
theorem lifted (os : Os) (started : os.Started) (H : Type) (enc : TypeId × Value → H) :
    ReturnsInHanded {} Try.checked os 3 .any (Rows.ghostExactSpec.pre6 enc Try.prog Try.f3 Rows.ghostExactRow.domain false) (Rows.ghostExactSpec.post enc Try.prog Try.f3 false true false false) := by
  refine returnsInHanded_of_change (C := Try.checked) own started (by kernel_rfl) Try.func3
    (ChangeSpec.witness6 (enc := enc) (C := Try.checked) false ⟨#[], #[.slice none 0 0], []⟩ 8 (by kernel_rfl) (by kernel_rfl) (by kernel_rfl) (by kernel_rfl)) ?_
  intro W base args ds gs before hval0 hW hcnd _
  have hval : ∀ (j : Nat) t v, Try.f3.params[j]? = some t → args[j]? = some v → Value.okWide Try.prog W .any base t v := hval0
  have hW' := hW
  obtain ⟨p, q, hA0, hV, rfl, hfz, hnd⟩ := hW
  have hA : DataW.TrodAll enc Try.prog W 0 (fun _ => true) true Try.f3.params.toList args.toList ds p := hA0
  rw [Try.params3] at hA hval
  obtain ⟨v0, vs0, d0, ds0, p0, q0, hargs, rfl, rfl, g0, r0⟩ := trodAll_cons hA
  obtain ⟨rfl, rfl, rfl⟩ := trodAll_nil r0
  obtain rfl : args = #[v0] := by cases args; simp_all
  obtain ⟨rfl, rfl⟩ := trodVars_none hV
  obtain ⟨A0, n0, cap0, rfl⟩ := okWide_slice Try.underlying22 (hval 0 22 v0 rfl rfl)
  obtain ⟨zs0, rfl, h0, w0, row0⟩ := open_ActG g0 (fun x hx => hW'.lt x (by simp [hx]))
  unfold maxLen at h0
  clear hA0 hval0
  refine (walk zs0 A0 cap0 w0 h0 W row0).mono fun e W' ⟨he, hg⟩ => ?_
  subst he
  exact ⟨_, rfl, law_post laidOut (by kernel_rfl) (by kernel_rfl) Try.underlying4 rfl rfl hW' hg⟩

theorem over : Rows.ghostExactRow.holds Try.pinned (OpenSpec.ofChange Rows.ghostExactSpec) :=
  OpenClaim.holds_of_wide 3 Try.f3 rfl rfl rfl rfl rfl rfl rfl ⟨rfl, rfl, rfl, rfl, rfl⟩ rfl rfl rfl rfl rfl (by kernel_rfl) Try.func3 (by kernel_rfl)
    (of_decide_eq_true (by kernel_rfl)) (by unfold Func.isWrapper; first | (rw [if_pos (by decide +kernel)]; kernel_rfl) | (rw [if_neg (by decide +kernel)]; exact ⟨rfl, rfl⟩))
    (fun os started H enc _ => lifted os started H enc)

/-- THE STATEMENT. -/
theorem proved : Rows.GhostExactSaid := over
#print axioms proved
end Go.Proofs.Ytmihfpdbaagjnaa.ghostExact
