/- IdealExact: of every row of accesses and births each answer is the reference's: so the law answers true, for every input. -/
import Derived.Test.YtnlepgbmbdmjbaaIdealX
import Derived.Test.YtnlepgbmbdmjbaaIdealW
import Derived.Test.YtnlepgbmbdmjbaaActI
import Derived.Test.YtnlepgbmbdmjbaaLaw
import Derived.Test.YtnlepgbmbdmjbaaRows
namespace Go.Proofs.Ytnlepgbmbdmjbaa.idealExact
open Go.ChangeShapes Go.WideShapes Go.ChangeAt Go.RowKit Go.Maps
set_option maxRecDepth 100000

set_option maxHeartbeats 12800000 in
theorem walk (xs : List ActI) (A : Option Addr) (cap : Nat) (hok : ∀ r ∈ xs, OkActI r) (hlen : xs.length ≤ 9223372036854775807) (w : World) (hr : RowX encActI 11 w A xs) :
    Calls Try.prog 3 #[.slice A xs.length cap] w fun e w' => e = .returned (.bool true) ∧ Below w.heap.size w w' := by
  have hE := Env.start w
  have HZ := Lib.hid hok
  have HR := Lib.hid hr
  clear hok hr
  go_enter Try.func3, Try.ntmps3
  go_wp2_with fail
  refine (awake9 _).mono ?_
  rintro e w1 ⟨rfl, hb⟩
  replace hE := hE.over hb
  clear hb
  go_wp2_with fail
  refine (new_i hE).mono ?_
  rintro e w2 ⟨g, c, so, rfl, hE, hb⟩
  clear hb
  replace hE := hE.addNone.addNoneO.addNoneO.box w2.heap.size rfl (uv9 (.slice none 0 0) (.slice none 0 0) (.slice none 0 0)) 34
  go_wp2_with fail
  generalize w2.heap.size = u at *
  go_loopw [5, 6] (fun nv i wr => ∃ (k : Nat) (cnt : Int), k ≤ xs.length ∧ k ≤ 150 ∧ cnt ≤ k ∧ nv = .int .i64 cnt ∧ i = .int .i64 k ∧ IX w u g c so k cnt wr) (fun _ i _ => xs.length - (intOf i).toNat)
  case atStart => exact ⟨0, 0, by omega, by omega, by omega, rfl, rfl, _, _, _, [], [], [], none, _, 0, _, _, _, ⟨0, 0, 0, 0, 0⟩, 0, by simp, by simp, by simp, by omega, by omega, Rel.zero, Rel.zero, ⟨by simp, by simp, by simp, by simp, by simp⟩, hE⟩
  case round =>
    obtain ⟨k, cnt, hk, hk1, hcn, rfl, rfl, hI⟩ := hrel
    have HI := Lib.hid hI
    clear hI
    by_cases hlt : k < xs.length ∧ k < 150
    · obtain ⟨hlt, hlt1⟩ := hlt
      have hb1 : decide ((k : Int) < xs.length) = true := by simp; omega
      have hb2 : decide ((k : Int) < 150) = true := by simp; omega
      rcases HR.out with hz0 | ⟨blk, off, rfl, hbw, hc⟩
      · rw [hz0] at hlt; simp at hlt
      have hok : OkActI (xs.getD k default) := HZ.out _ (by simp [hlt])
      have hAt := fun (w' : World) (hb : Below w.heap.size w w') => (hc k hlt).below hb hbw
      clear hc
      generalize xs.getD k default = r at *
      obtain ⟨kd, x, y, z, d, ow, oi, os, vw, vi, vs⟩ := r
      obtain ⟨_, wx, wy, wz, wd, how, _, hvw, hvi⟩ := hok
      simp only at wx wy wz wd how hvw hvi
      have HX := Lib.hid (show Wf (x, y, z) from ⟨wx, wy, wz⟩)
      have HD : Hid (In64 d) := Lib.hid wd
      have HW := Lib.hid hvw
      have HVI : Hid (In64 vi) := Lib.hid hvi
      have HAT := Lib.hid fun (w' : World) (hb : Below w.heap.size w w') => at_ActI (hAt w' hb)
      clear wx wy wz wd how hvw hvi hAt
      obtain ⟨c0, c1', c2', c3, c4, c5, c6, c7, c8, c9, c10⟩ := HAT.out _ HI.out.below
      by_cases hv0 : vi < 0
      · have hb3 : decide (vi < 0) = true := by simpa using hv0
        go_wp2_with fail
        go_ret
        exact ⟨rfl, HI.out.below⟩
      · have hb3 : decide (vi < 0) = false := by simpa using hv0
        by_cases hx9 : x = 9
        · have hb4 : (x == 9) = true := by simpa using hx9
          clear hx9
          go_wp2_with fail
          go_ret
          exact ⟨rfl, HI.out.below⟩
        · have hb4 : (x == 9) = false := by simpa using hx9
          have H9 := Lib.hid hx9
          clear hx9
          go_wp2_with fail
          clear c0 c1' c2' c3 c4 c5 c6 c7 c8 c9 c10
          obtain ⟨c0, c1', c2', c3, c4, c5, c6, c7, c8, c9, c10⟩ := HAT.out _ HI.out.below
          go_wp2_with fail
          refine (does_i kd x y z d ow oi vw vi os vs H9.out HX.out HD.out HW.out HVI.out (by omega) (by omega : k ≤ 1000) hcn HI.out).mono ?_
          rintro e w6 ⟨rfl, hI6⟩
          clear c0 c1' c2' c3 c4 c5 c6 c7 c8 c9 c10
          obtain ⟨c0, c1', c2', c3, c4, c5, c6, c7, c8, c9, c10⟩ := HAT.out _ hI6.below
          have hcw : wrap64 (cnt + 1) = cnt + 1 := by
            obtain ⟨_, _, _, _, _, _, _, _, _, _, _, _, q, _, _, _, _, _, _, _, _, hq, _⟩ := HI.out
            obtain ⟨h0, h1, h2, h3, h4⟩ := hq
            exact w64 _ (by omega)
          by_cases h1 : 1 ≤ kd
          · have hb5 : decide (1 ≤ kd) = true := by simpa using h1
            by_cases h5 : kd ≤ 5
            · have hb6 : decide (kd ≤ 5) = true := by simpa using h5
              rw [if_pos ⟨h1, h5⟩] at hI6
              clear h1 h5
              go_wp2_with fail
              exact ⟨⟨k + 1, cnt + 1, by omega, by omega, by omega, by simp [hcw], by simp, hI6⟩, by simp [intOf]; omega⟩
            · have hb6 : decide (kd ≤ 5) = false := by simpa using h5
              rw [if_neg (fun h => h5 h.2), Int.add_zero] at hI6
              clear h1 h5
              go_wp2_with fail
              exact ⟨⟨k + 1, cnt, by omega, by omega, by omega, by simp, by simp, hI6⟩, by simp [intOf]; omega⟩
          · have hb5 : decide (1 ≤ kd) = false := by simpa using h1
            rw [if_neg (fun h => h1 h.1), Int.add_zero] at hI6
            clear h1
            go_wp2_with fail
            exact ⟨⟨k + 1, cnt, by omega, by omega, by omega, by simp, by simp, hI6⟩, by simp [intOf]; omega⟩
    · by_cases hl1 : k < xs.length
      · have hl2 : ¬ k < 150 := fun h => hlt ⟨hl1, h⟩
        have hb1 : decide ((k : Int) < xs.length) = true := by simp; omega
        have hb2 : decide ((k : Int) < 150) = false := by simp; omega
        obtain ⟨v1, v2, v3, lc, li, l, mp, h, m, S, F, f, q, n, hlc, hli, hll, hn, hm, hf, hh, hq, hE⟩ := HI.out
        obtain ⟨A3, q3, rfl⟩ := ownsRow_slice (hE.row 3 rfl)
        have HL := Lib.hid (show l.length ≤ 1000000 by omega)
        obtain ⟨j0, j1, j2, j3, j4⟩ := hq
        have hw1 : IntKind.i64.wrap (q.l + q.s) = q.l + q.s := by rw [wrap_i]; exact w64 _ (by omega)
        have hw2 : IntKind.i64.wrap (q.l + q.s + q.w) = q.l + q.s + q.w := by rw [wrap_i]; exact w64 _ (by omega)
        have hw3 : IntKind.i64.wrap (q.l + q.s + q.w + q.a) = cnt := by rw [wrap_i, w64 _ (by omega)]; exact j0
        clear j0 j1 j2 j3 j4 hlc hli hll hn hm hf hh HI
        go_wp2_with fail
        refine (count_i 4 hE rfl rfl).mono ?_
        rintro e w7 ⟨rfl, hb⟩
        replace hE := (hE.over hb).box w7.heap.size rfl [.int .i64 q.l, .int .i64 q.s, .int .i64 q.w, .int .i64 q.f, .int .i64 q.a] 46
        clear hb
        go_wp2_with fail
        generalize w7.alloc _ = w8 at *
        generalize w7.heap.size = B at *
        refine Ord.wp_chain [] (fun w' => Env w [boxI B [.int .i64 q.l, .int .i64 q.s, .int .i64 q.w, .int .i64 q.f, .int .i64 q.a], boxI u (uv9 v1 v2 (.slice A3 l.length q3)), rowO v1 lc, rowO v2 li, intsI (.slice A3 l.length q3) l, boxI g (iv c mp so), leadsI mp h m, soulI so S l, cellI c F f q n] w') (fun _ _ => True) (by kernel_rfl) (by kernel_rfl) (by kernel_rfl) hE.drew trivial (fun hT => ?_)
        have hT9 := Lib.hid hT
        clear hT
        repeat (first
          | (refine Ord.ch_value (v := ?_) hT9.out (by decide) (by rfl) ?_ ?_; rotate_left; (focus (intro w5 hS; have r := hS.rule 0 rfl; have r1 := hS.rule 1 rfl; unfold uv9 at r1; go_simp <;> with_reducible rfl)); (try simp only [Act.put, List.setIfInBounds_toArray, List.set_cons_zero, List.set_cons_succ]))
          | (refine Ord.ch_off hT9.out (by decide) (by rfl) ?_; (try simp only [Act.put, List.setIfInBounds_toArray, List.set_cons_zero, List.set_cons_succ]))
          | (refine Ord.ch_call (v := ?_) (f := ?_) (args := ?_) hT9.out (by decide) (by rfl) ?_ ?_ ?_; rotate_left 3; (focus (intro w5 hS; have r := hS.rule 0 rfl; have r1 := hS.rule 1 rfl; unfold uv9 at r1; go_simp; constructor <;> with_reducible rfl)); (focus (intro w5 hS; (first | (with_reducible refine (souls_i (hS.iblk 5 rfl)).mono ?_; rintro e w6 ⟨rfl, rfl⟩; constructor; with_reducible rfl; exact ⟨hS, fun _ h => h⟩) | (with_reducible refine (countS_any HL.out (hS.soul 7 rfl)).mono ?_; rintro e w6 ⟨rfl, rfl⟩; constructor; with_reducible rfl; exact ⟨hS, fun _ h => h⟩)))); (try simp only [Act.put, List.setIfInBounds_toArray, List.set_cons_zero, List.set_cons_succ])))
        refine Ord.InText.nil fun w5 hS => ?_
        clear hT9
        obtain ⟨hC9, hA9⟩ := Ord.chain_end hS
        clear hS
        clear hA9
        go_wp2_with fail
        go_ret
        exact ⟨by simp, hC9.below⟩
      · have hb1 : decide ((k : Int) < xs.length) = false := by simp; omega
        obtain ⟨v1, v2, v3, lc, li, l, mp, h, m, S, F, f, q, n, hlc, hli, hll, hn, hm, hf, hh, hq, hE⟩ := HI.out
        obtain ⟨A3, q3, rfl⟩ := ownsRow_slice (hE.row 3 rfl)
        have HL := Lib.hid (show l.length ≤ 1000000 by omega)
        obtain ⟨j0, j1, j2, j3, j4⟩ := hq
        have hw1 : IntKind.i64.wrap (q.l + q.s) = q.l + q.s := by rw [wrap_i]; exact w64 _ (by omega)
        have hw2 : IntKind.i64.wrap (q.l + q.s + q.w) = q.l + q.s + q.w := by rw [wrap_i]; exact w64 _ (by omega)
        have hw3 : IntKind.i64.wrap (q.l + q.s + q.w + q.a) = cnt := by rw [wrap_i, w64 _ (by omega)]; exact j0
        clear j0 j1 j2 j3 j4 hlc hli hll hn hm hf hh HI
        go_wp2_with fail
        refine (count_i 4 hE rfl rfl).mono ?_
        rintro e w7 ⟨rfl, hb⟩
        replace hE := (hE.over hb).box w7.heap.size rfl [.int .i64 q.l, .int .i64 q.s, .int .i64 q.w, .int .i64 q.f, .int .i64 q.a] 46
        clear hb
        go_wp2_with fail
        generalize w7.alloc _ = w8 at *
        generalize w7.heap.size = B at *
        refine Ord.wp_chain [] (fun w' => Env w [boxI B [.int .i64 q.l, .int .i64 q.s, .int .i64 q.w, .int .i64 q.f, .int .i64 q.a], boxI u (uv9 v1 v2 (.slice A3 l.length q3)), rowO v1 lc, rowO v2 li, intsI (.slice A3 l.length q3) l, boxI g (iv c mp so), leadsI mp h m, soulI so S l, cellI c F f q n] w') (fun _ _ => True) (by kernel_rfl) (by kernel_rfl) (by kernel_rfl) hE.drew trivial (fun hT => ?_)
        have hT9 := Lib.hid hT
        clear hT
        repeat (first
          | (refine Ord.ch_value (v := ?_) hT9.out (by decide) (by rfl) ?_ ?_; rotate_left; (focus (intro w5 hS; have r := hS.rule 0 rfl; have r1 := hS.rule 1 rfl; unfold uv9 at r1; go_simp <;> with_reducible rfl)); (try simp only [Act.put, List.setIfInBounds_toArray, List.set_cons_zero, List.set_cons_succ]))
          | (refine Ord.ch_off hT9.out (by decide) (by rfl) ?_; (try simp only [Act.put, List.setIfInBounds_toArray, List.set_cons_zero, List.set_cons_succ]))
          | (refine Ord.ch_call (v := ?_) (f := ?_) (args := ?_) hT9.out (by decide) (by rfl) ?_ ?_ ?_; rotate_left 3; (focus (intro w5 hS; have r := hS.rule 0 rfl; have r1 := hS.rule 1 rfl; unfold uv9 at r1; go_simp; constructor <;> with_reducible rfl)); (focus (intro w5 hS; (first | (with_reducible refine (souls_i (hS.iblk 5 rfl)).mono ?_; rintro e w6 ⟨rfl, rfl⟩; constructor; with_reducible rfl; exact ⟨hS, fun _ h => h⟩) | (with_reducible refine (countS_any HL.out (hS.soul 7 rfl)).mono ?_; rintro e w6 ⟨rfl, rfl⟩; constructor; with_reducible rfl; exact ⟨hS, fun _ h => h⟩)))); (try simp only [Act.put, List.setIfInBounds_toArray, List.set_cons_zero, List.set_cons_succ])))
        refine Ord.InText.nil fun w5 hS => ?_
        clear hT9
        obtain ⟨hC9, hA9⟩ := Ord.chain_end hS
        clear hS
        clear hA9
        go_wp2_with fail
        go_ret
        exact ⟨by simp, hC9.below⟩

theorem own : ownKnob Try.prog.godebug = none := by kernel_rfl
theorem laidOut : laidOutB Try.prog = true := by kernel_rfl

set_option maxRecDepth 100000 in
theorem lifted (os : Os) (started : os.Started) (H : Type) (enc : TypeId × Value → H) :
    ReturnsInHanded {} Try.checked os 3 .any (Rows.idealExactSpec.pre6 enc Try.prog Try.f3 Rows.idealExactRow.domain false) (Rows.idealExactSpec.post enc Try.prog Try.f3 false true false false) := by
  refine returnsInHanded_of_change (C := Try.checked) own started (by kernel_rfl) Try.func3
    (ChangeSpec.witness6 (enc := enc) (C := Try.checked) false ⟨#[], #[.slice none 0 0], []⟩ 8 (by kernel_rfl) (by kernel_rfl) (by kernel_rfl) (by kernel_rfl)) ?_
  intro W base args ds gs before hval0 hW hcnd _
  have hval : ∀ (j : Nat) t v, Try.f3.params[j]? = some t → args[j]? = some v → Value.okWide Try.prog W .any base t v := hval0
  have hW' := hW
  obtain ⟨p, q, hA0, hV, rfl, hfz, hnd⟩ := hW
  have hA : DataW.TrodAll enc Try.prog W 0 (fun _ => true) true Try.f3.params.toList args.toList ds p := hA0
  rw [Try.params3] at hA hval
  obtain ⟨v0, vs0, d0, ds0, p0, q0, hargs, rfl, rfl, g0, r0⟩ := trodAll_cons hA
  obtain ⟨rfl, rfl, rfl⟩ := trodAll_nil r0
  obtain rfl : args = #[v0] := by cases args; simp_all
  obtain ⟨rfl, rfl⟩ := trodVars_none hV
  obtain ⟨A0, n0, cap0, rfl⟩ := okWide_slice Try.underlying22 (hval 0 22 v0 rfl rfl)
  obtain ⟨zs0, rfl, h0, w0, row0⟩ := open_ActI g0 (fun x hx => hW'.lt x (by simp [hx]))
  unfold maxLen at h0
  clear hA0 hval0
  refine (walk zs0 A0 cap0 w0 h0 W row0).mono fun e W' ⟨he, hg⟩ => ?_
  subst he
  exact ⟨_, rfl, law_post laidOut (by kernel_rfl) (by kernel_rfl) Try.underlying4 rfl rfl hW' hg⟩

theorem over : Rows.idealExactRow.holds Try.pinned (OpenSpec.ofChange Rows.idealExactSpec) :=
  OpenClaim.holds_of_wide 3 Try.f3 rfl rfl rfl rfl rfl rfl rfl ⟨rfl, rfl, rfl, rfl, rfl⟩ rfl rfl rfl rfl rfl (by kernel_rfl) Try.func3 (by kernel_rfl)
    (of_decide_eq_true (by kernel_rfl)) (by unfold Func.isWrapper; first | (rw [if_pos (by decide +kernel)]; kernel_rfl) | (rw [if_neg (by decide +kernel)]; exact ⟨rfl, rfl⟩))
    (fun os started H enc _ => lifted os started H enc)

/-- THE STATEMENT. -/
theorem proved : Rows.IdealExactSaid := over
#print axioms proved
end Go.Proofs.Ytnlepgbmbdmjbaa.idealExact
