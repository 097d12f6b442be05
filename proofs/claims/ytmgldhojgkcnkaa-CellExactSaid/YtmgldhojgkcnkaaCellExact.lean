/- CellExact: of every row of accesses each answer, all words and how many there were are the reference's: so the law answers true, for every input. -/
import Derived.Test.YtmgldhojgkcnkaaRefH
import Derived.Test.YtmgldhojgkcnkaaRows
namespace Go.Proofs.Ytmgldhojgkcnkaa.cellExact
open Go.ChangeShapes Go.WideShapes Go.ChangeAt Go.RowKit Go.Maps

set_option maxRecDepth 100000 in
set_option maxHeartbeats 6400000 in
theorem walk (xs : List ActR) (A : Option Addr) (cap : Nat) (hok : ∀ r ∈ xs, ActOk r) (hlen : xs.length ≤ 9223372036854775807) (w : World) (hr : RowA w A xs) :
    Calls Try.prog 3 #[.slice A xs.length cap] w fun e w' => e = .returned (.bool true) ∧ Below w.heap.size w w' := by
  have hE := Env.start w
  have HZ := Lib.hid hok
  have HR := Lib.hid hr
  clear hok hr
  go_enter Try.func3, Try.ntmps3
  go_wp2_with fail
  refine (awake4 _).mono ?_
  rintro e w1 ⟨rfl, hb⟩
  replace hE := hE.over hb
  clear hb
  go_wp2_with fail
  refine (new_any w1).mono ?_
  rintro e w2 ⟨rfl, hC, hb⟩
  replace hE := hE.made hC (Nat.le_refl _) hb
  clear hC hb
  generalize w1.heap.size = c at *
  have hE := ((hE.newU _ rfl 29).box (w2.heap.size + 1) (by simp) (bv ⟨0, 0, 0, 0, 0⟩) 32).perm (List.reverse_perm [_, _, _]).symm
  go_wp2_with fail
  go_loopw [3, 4, 5, 6] (fun vc vu vn i wr => ∃ (k c u B n : Nat) (F G : Nat → Prop) (l : List OneR) (q : Cnt), k ≤ xs.length ∧ k ≤ 200 ∧ n ≤ k ∧ LOk l k ∧ vc = .pointer (some ⟨c, 0, none⟩) ∧ vu = .pointer (some ⟨u, 0, none⟩) ∧ vn = .pointer (some ⟨B, 0, none⟩) ∧ i = .int .i64 k ∧ Env w [cellI c F (getL l) q n, refI u G l, boxI B (bv q)] wr) (fun _ _ _ i _ => xs.length - (intOf i).toNat)
  case atStart => exact ⟨0, _, _, _, 0, _, _, [], ⟨0, 0, 0, 0, 0⟩, by omega, by omega, by omega, ⟨by simp, by simp⟩, rfl, rfl, rfl, rfl, hE⟩
  case round =>
    obtain ⟨k, c, u, B, n, F, G, l, q, hk, hk1, hn, hl, rfl, rfl, rfl, rfl, hEr⟩ := hrel
    clear hE
    by_cases hlt : k < xs.length ∧ k < 200
    · obtain ⟨hlt, hlt1⟩ := hlt
      have hb1 : decide ((k : Int) < xs.length) = true := by simp; omega
      have hb2 : decide ((k : Int) < 200) = true := by simp; omega
      rcases HR.out with hz0 | ⟨blk, off, rfl, hbw, hc⟩
      · rw [hz0] at hlt; simp at hlt
      have hok : ActOk (xs.getD k default) := HZ.out _ (by simp [hlt])
      have hat : ∀ w', Below w.heap.size w w' → ActAt w' blk (off + k * 6) (xs.getD k default) := fun w' hb => (hc k hlt).below hb hbw
      clear hc
      generalize xs.getD k default = r at *
      obtain ⟨kd, x, y, z, va, vb⟩ := r
      have HAT : Hid (∀ w', Below w.heap.size w w' → ActAt w' blk (off + k * 6) ⟨kd, x, y, z, va, vb⟩) := Lib.hid hat
      obtain ⟨_, hw, ha, hvb⟩ := hok
      obtain ⟨c0, c1, c2, c3, c4, c5⟩ := hat _ hEr.below
      simp only at c0 c1 c2 c3 c4 c5
      have HW := Lib.hid hw
      have HA := Lib.hid ha
      have HB := Lib.hid hvb
      have HL := Lib.hid hl
      clear hw ha hvb hat hl
      by_cases h6 : kd = 6
      · subst h6
        go_wp2_with fail
        refine (copy_any (hEr.cell 0 rfl)).mono ?_
        rintro e w5 ⟨c', F', rfl, hC, hF, hb⟩
        have hE := hEr.made2 hC hF hb
        clear hC hF hb c0 c1 c2 c3 c4 c5
        go_wp2_with fail
        refine (store_any (-1) 0 0 77 (by unfold Wf In64; simp) (by unfold InU; simp) (by unfold maxLen; omega) (hE.cell 1 rfl)).mono ?_
        rintro e w6 ⟨rfl, F6, hC, hs⟩
        replace hE := hE.turn 1 rfl hC hs
        simp only [List.set_cons_succ, List.set_cons_zero] at hE
        clear hC hs
        go_wp2_with fail
        refine (same_any (hE.cell 0 rfl) (hE.cell 1 rfl)).mono ?_
        rintro e w7 ⟨rfl, hb⟩
        rw [same_upd]
        obtain ⟨g0, hg0⟩ : ∃ v, getL l (-1, 0, 0) = v := ⟨_, rfl⟩
        rw [hg0]
        have HG0 := Lib.hid hg0
        clear hg0
        replace hE := hE.over hb
        clear hb
        go_wp2_with fail
        refine (refGet_any (-1) 0 0 (by have := HL.out.len; omega) (hE.ref 2 rfl)).mono ?_
        rintro e w8 ⟨rfl, hb⟩
        replace hE := hE.over hb
        clear hb
        rw [HG0.out]
        rcases Classical.em (g0 = 77) with h77 | h77
        all_goals
          go_wp2_with fail
          refine (refCopy_any (by have := HL.out.len; omega) (hE.ref 2 rfl)).mono ?_
          rintro e w9 ⟨u2, G2, rfl, hU, hb, hG⟩
          replace hE := (((hE.addU hU hG hb).box _ rfl (bv ⟨0, 0, 0, 0, 0⟩) 32).sub (.cons_cons _ (.cons_cons _ (.cons_cons _ (List.nil_sublist _))))).perm (List.reverse_perm [_, _, _]).symm
          clear hU hG hb
          go_wp2_with fail
          exact ⟨⟨k + 1, c', u2, _, n, F', G2, l, ⟨0, 0, 0, 0, 0⟩, by omega, by omega, by omega, HL.out.more, rfl, rfl, rfl, by simp, hE⟩, by simp [intOf]; omega⟩
      · go_wp2_with fail
        have HG := Lib.hid fun (w' : World) (h : Env w [cellI c F (getL l) q n, refI u G l, boxI B (bv q)] w') => does_any kd x y z va vb HW.out HA.out HB.out (by omega : k ≤ 1000) hn HL.out h
        generalize gA kd va (getL l (x, y, z)) q = q1 at HG
        refine Ord.wp_chain2 [7] (fun w' => Below w.heap.size w w') (Stage [Env w [cellI c F (getL l) q n, refI u G l, boxI B (bv q)], After w c u B q1 q1 k []]) (by kernel_rfl) (by kernel_rfl) (by kernel_rfl) hEr.drew.below ⟨_, rfl, hEr.drew⟩ (fun hT => ?_)
        have hT9 := Lib.hid hT
        clear hT
        repeat (refine Ord.ch2_value (v := ?_) hT9.out (by decide) (by rfl) ?_ ?_; rotate_left; (focus (intro w5 hS; obtain ⟨c0, c1, c2, c3, c4, c5⟩ := HAT.out _ hS; simp only at c0 c1 c2 c3 c4 c5; go_simp <;> with_reducible rfl)); (try simp only [Act.put, List.setIfInBounds_toArray, List.set_cons_zero, List.set_cons_succ]))
        refine Ord.ch2_turn 0 hT9.out (by rfl) (by decide) (Or.inl rfl) (by rfl) (v := .bool true) ?_ ?_
        · rintro w5 hC5 ⟨P5, hP5, hA5⟩
          cases hP5
          go_simp
          simp only [Ord.LandsIn]
          refine (HG.out _ hA5).mono ?_
          rintro e w6 ⟨rfl, hA6⟩
          refine ⟨rfl, ?_, _, rfl, hA6⟩
          obtain ⟨_, _, _, _, _, _, hE6⟩ := hA6
          exact hE6.below
        (try simp only [Act.put, List.setIfInBounds_toArray, List.set_cons_zero, List.set_cons_succ])
        repeat (refine Ord.ch2_value (v := ?_) hT9.out (by decide) (by rfl) ?_ ?_; rotate_left; (focus (intro w5 hS; skip; go_simp <;> with_reducible rfl)); (try simp only [Act.put, List.setIfInBounds_toArray, List.set_cons_zero, List.set_cons_succ]))
        refine Ord.ch2_late_call 0 9 [8, 7] hT9.out (by decide) (by kernel_rfl) (by kernel_rfl) rfl rfl (by rfl) (v := .agg #[.int .i64 q1.l, .int .i64 q1.s, .int .i64 q1.w, .int .i64 q1.f, .int .i64 q1.a]) ?_ ?_
        · rintro w5 j hj hj1 hC5 ⟨P5, hP5, hA5⟩
          obtain rfl : j = 1 := by simp at hj1; omega
          cases hP5
          obtain ⟨F5, G5, l5, n5, hn5, hl5, hE5⟩ := hA5
          go_simp
          simp only [Ord.LandsIn]
          refine (count_any (hE5.cell 0 rfl)).mono ?_
          rintro e w6 ⟨rfl, hb6⟩
          exact ⟨rfl, (hE5.over hb6).below, _, rfl, F5, G5, l5, n5, hn5, hl5, hE5.over hb6⟩
        (try simp only [Act.put, List.setIfInBounds_toArray, List.set_cons_zero, List.set_cons_succ])
        repeat (refine Ord.ch2_value (v := ?_) hT9.out (by decide) (by rfl) ?_ ?_; rotate_left; (focus (intro w5 hS; skip; go_simp <;> with_reducible rfl)); (try simp only [Act.put, List.setIfInBounds_toArray, List.set_cons_zero, List.set_cons_succ]))
        refine Ord.ch2_late 0 9 [8, 7] hT9.out (by decide) (by kernel_rfl) (by kernel_rfl) rfl rfl (by rfl) (v := .agg #[.int .i64 q1.l, .int .i64 q1.s, .int .i64 q1.w, .int .i64 q1.f, .int .i64 q1.a]) ?_ ?_
        · rintro w5 j hj hj1 hC5 ⟨P5, hP5, hA5⟩
          obtain rfl : j = 1 := by simp at hj1; omega
          cases hP5
          obtain ⟨F5, G5, l5, n5, hn5, hl5, hE5⟩ := hA5
          have rB := hE5.rule 2 rfl
          unfold bv at rB
          go_simp
        (try simp only [Act.put, List.setIfInBounds_toArray, List.set_cons_zero, List.set_cons_succ])
        refine Ord.ch2_value (v := .bool false) hT9.out (by decide) (by rfl) ?_ ?_
        · intro w5 hS
          go_simp
        (try simp only [Act.put, List.setIfInBounds_toArray, List.set_cons_zero, List.set_cons_succ])
        repeat (refine Ord.ch2_value (v := ?_) hT9.out (by decide) (by rfl) ?_ ?_; rotate_left; (focus (intro w5 hS; skip; go_simp <;> with_reducible rfl)); (try simp only [Act.put, List.setIfInBounds_toArray, List.set_cons_zero, List.set_cons_succ]))
        refine Ord.InText.nil fun w5 hS => ?_
        clear hT9
        obtain ⟨hC9, hA9⟩ := Ord.chain2_end hS
        clear hS
        obtain ⟨P9, hP9, hA9⟩ := hA9
        cases hP9
        obtain ⟨F9, G9, l9, n9, hn9, hl9, hE9⟩ := hA9
        go_wp2_with fail
        exact ⟨⟨k + 1, c, u, B, n9, F9, G9, l9, q1, by omega, by omega, by omega, hl9, rfl, rfl, rfl, by simp, hE9⟩, by simp [intOf]; omega⟩
    · have HL := Lib.hid hl
      clear hl
      by_cases hl1 : k < xs.length
      · have hl2 : ¬ k < 200 := fun h => hlt ⟨hl1, h⟩
        have hb1 : decide ((k : Int) < xs.length) = true := by simp; omega
        have hb2 : decide ((k : Int) < 200) = false := by simp; omega
        go_wp2_with fail
        refine (places_any (by omega) (hEr.cell 0 rfl)).mono ?_
        rintro e w5 ⟨v5, m5, rfl, hp5, hr5, hb⟩
        have hE5 := hEr.over hb
        clear hb
        go_wp2_with fail
        refine (refPlaces_any (by have := HL.out.len; omega) HL.out.nodup (hE5.ref 1 rfl)).mono ?_
        rintro e w6 ⟨m6, v6, rfl, hp6, hm6, ho6, hb⟩
        have hE6 := hE5.over hb
        obtain rfl := hp5.eq hp6
        have hr5' := hr5.below hb
        have hr6 := ownsRow_rowP ho6
        clear hb
        go_wp2_with fail
        refine (placesLaw_any (by have := HL.out.len; omega) hr5' hr6).mono ?_
        rintro e w7 ⟨rfl, hb⟩
        have hE7 := hE6.over hb
        go_wp2
        go_ret
        exact ⟨rfl, hE7.below⟩
      · have hb1 : decide ((k : Int) < xs.length) = false := by simp; omega
        go_wp2_with fail
        refine (places_any (by omega) (hEr.cell 0 rfl)).mono ?_
        rintro e w5 ⟨v5, m5, rfl, hp5, hr5, hb⟩
        have hE5 := hEr.over hb
        clear hb
        go_wp2_with fail
        refine (refPlaces_any (by have := HL.out.len; omega) HL.out.nodup (hE5.ref 1 rfl)).mono ?_
        rintro e w6 ⟨m6, v6, rfl, hp6, hm6, ho6, hb⟩
        have hE6 := hE5.over hb
        obtain rfl := hp5.eq hp6
        have hr5' := hr5.below hb
        have hr6 := ownsRow_rowP ho6
        clear hb
        go_wp2_with fail
        refine (placesLaw_any (by have := HL.out.len; omega) hr5' hr6).mono ?_
        rintro e w7 ⟨rfl, hb⟩
        have hE7 := hE6.over hb
        go_wp2
        go_ret
        exact ⟨rfl, hE7.below⟩

theorem own : ownKnob Try.prog.godebug = none := by kernel_rfl
theorem laidOut : laidOutB Try.prog = true := by kernel_rfl

set_option maxRecDepth 100000 in
theorem lifted (os : Os) (started : os.Started) (H : Type) (enc : TypeId × Value → H) :
    ReturnsInHanded {} Try.checked os 3 .any (Rows.cellExactSpec.pre6 enc Try.prog Try.f3 Rows.cellExactRow.domain false) (Rows.cellExactSpec.post enc Try.prog Try.f3 false true false false) := by
  refine returnsInHanded_of_change (C := Try.checked) own started (by kernel_rfl) Try.func3
    (ChangeSpec.witness6 (enc := enc) (C := Try.checked) false ⟨#[], #[.slice none 0 0], []⟩ 8 (by kernel_rfl) (by kernel_rfl) (by kernel_rfl) (by kernel_rfl)) ?_
  intro W base args ds gs before hval0 hW hcnd _
  have hval : ∀ (j : Nat) t v, Try.f3.params[j]? = some t → args[j]? = some v → Value.okWide Try.prog W .any base t v := hval0
  have hW' := hW
  obtain ⟨p, q, hA0, hV, rfl, hfz, hnd⟩ := hW
  have hA : DataW.TrodAll enc Try.prog W 0 (fun _ => true) true Try.f3.params.toList args.toList ds p := hA0
  rw [Try.params3] at hA hval
  obtain ⟨v0, vs0, d0, ds0, p0, q0, hargs, rfl, rfl, g0, r0⟩ := trodAll_cons hA
  obtain ⟨rfl, rfl, rfl⟩ := trodAll_nil r0
  obtain rfl : args = #[v0] := by cases args; simp_all
  obtain ⟨rfl, rfl⟩ := trodVars_none hV
  obtain ⟨A0, n0, cap0, rfl⟩ := okWide_slice Try.underlying22 (hval 0 22 v0 rfl rfl)
  obtain ⟨zs0, rfl, h0, w0, row0⟩ := open_acts g0 (fun x hx => hW'.lt x (by simp [hx]))
  unfold maxLen at h0
  clear hA0 hval0
  refine (walk zs0 A0 cap0 w0 h0 W row0).mono fun e W' ⟨he, hg⟩ => ?_
  subst he
  exact ⟨_, rfl, law_post laidOut (by kernel_rfl) (by kernel_rfl) Try.underlying4 rfl rfl hW' hg⟩

theorem over : Rows.cellExactRow.holds Try.pinned (OpenSpec.ofChange Rows.cellExactSpec) :=
  OpenClaim.holds_of_wide 3 Try.f3 rfl rfl rfl rfl rfl rfl rfl ⟨rfl, rfl, rfl, rfl, rfl⟩ rfl rfl rfl rfl rfl (by kernel_rfl) Try.func3 (by kernel_rfl)
    (of_decide_eq_true (by kernel_rfl)) (by unfold Func.isWrapper; first | (rw [if_pos (by decide +kernel)]; kernel_rfl) | (rw [if_neg (by decide +kernel)]; exact ⟨rfl, rfl⟩))
    (fun os started H enc _ => lifted os started H enc)

/-- THE STATEMENT. -/
theorem proved : Rows.CellExactSaid := over
#print axioms proved
end Go.Proofs.Ytmgldhojgkcnkaa.cellExact
