/- CellNil: of nothing there is nothing; two are the same if and only if each has the words of the other: so the law answers true, for every input. -/
import Derived.Test.YtmgldhojgkcnkaaRefN
import Derived.Test.YtmgldhojgkcnkaaRows
namespace Go.Proofs.Ytmgldhojgkcnkaa.cellNil
open Go.ChangeShapes Go.WideShapes Go.ChangeAt Go.RowKit Go.Maps

set_option maxRecDepth 100000 in
set_option maxHeartbeats 12800000 in
theorem walk (xs : List ActR) (A : Option Addr) (cap : Nat) (ys : List ActR) (A2 : Option Addr) (cap2 : Nat) (a b d : Int) (hok : ∀ r ∈ xs, ActOk r) (hlen : xs.length ≤ 9223372036854775807) (hok2 : ∀ r ∈ ys, ActOk r) (hlen2 : ys.length ≤ 9223372036854775807) (hx : Wf (a, b, d)) (w : World) (hr : RowA w A xs) (hr2 : RowA w A2 ys) :
    Calls Try.prog 4 #[.slice A xs.length cap, .slice A2 ys.length cap2, .agg #[.int .i64 a, .int .i64 b, .int .i64 d]] w fun e w' => e = .returned (.bool true) ∧ Below w.heap.size w w' := by
  have hE := (Env.start w).box w.heap.size rfl [.int .i64 a, .int .i64 b, .int .i64 d] 34
  have HZ := Lib.hid hok
  have HR := Lib.hid hr
  have HZ2 := Lib.hid hok2
  have HR2 := Lib.hid hr2
  have HX := Lib.hid hx
  clear hok hr hok2 hr2 hx
  go_enter Try.func4, Try.ntmps4
  go_wp2_with fail
  refine (awake4 _).mono ?_
  rintro e w1 ⟨rfl, hb⟩
  replace hE := hE.over hb
  clear hb
  obtain ⟨P, hPw⟩ : ∃ P, P = w.heap.size := ⟨_, rfl⟩
  rw [← hPw] at hE ⊢
  have HPW := Lib.hid hPw
  clear hPw
  have r := hE.rule 0 rfl
  go_wp2_with fail
  refine (storeNil a b d 1 w1).mono ?_
  rintro e w2 ⟨rfl, hb⟩
  replace hE := hE.over hb
  clear hb r
  go_wp2_with fail
  refine Ord.wp_chain [] (fun w' => Env w [boxI P [.int .i64 a, .int .i64 b, .int .i64 d]] w') (fun _ _ => True) (by kernel_rfl) (by kernel_rfl) (by kernel_rfl) hE.drew trivial (fun hT => ?_)
  have hT9 := Lib.hid hT
  clear hT
  repeat (first
    | (refine Ord.ch_value (v := ?_) hT9.out (by decide) (by rfl) ?_ ?_; rotate_left; (focus (intro w5 hS; have r := hS.rule 0 rfl; go_simp <;> with_reducible rfl)); (try simp only [Act.put, List.setIfInBounds_toArray, List.set_cons_zero, List.set_cons_succ]))
    | (refine Ord.ch_off hT9.out (by decide) (by rfl) ?_; (try simp only [Act.put, List.setIfInBounds_toArray, List.set_cons_zero, List.set_cons_succ]))
    | (refine Ord.ch_call (v := ?_) (f := ?_) (args := ?_) hT9.out (by decide) (by rfl) ?_ ?_ ?_; rotate_left 3; (focus (intro w5 hS; have r := hS.rule 0 rfl; go_simp; constructor <;> with_reducible rfl)); (focus (intro w5 hS; (first | (with_reducible refine (loadNil _ _ _ _).mono ?_; rintro e w6 ⟨rfl, hb5⟩; constructor; with_reducible rfl; exact ⟨hS.over hb5, fun _ h => h⟩) | (with_reducible refine (peekNil _ _ _ _).mono ?_; rintro e w6 ⟨rfl, hb5⟩; constructor; with_reducible rfl; exact ⟨hS.over hb5, fun _ h => h⟩) | (with_reducible refine (addNil _ _ _ _ _).mono ?_; rintro e w6 ⟨rfl, hb5⟩; constructor; with_reducible rfl; exact ⟨hS.over hb5, fun _ h => h⟩) | (with_reducible refine (swapNil _ _ _ _ _ _).mono ?_; rintro e w6 ⟨rfl, hb5⟩; constructor; with_reducible rfl; exact ⟨hS.over hb5, fun _ h => h⟩) | (with_reducible refine (countNil _).mono ?_; rintro e w6 ⟨rfl, hb5⟩; constructor; with_reducible rfl; exact ⟨hS.over hb5, fun _ h => h⟩) | (with_reducible refine (placesNil _).mono ?_; rintro e w6 ⟨rfl, hb5⟩; constructor; with_reducible rfl; exact ⟨hS.over hb5, fun _ h => h⟩) | (with_reducible refine (copyNil _).mono ?_; rintro e w6 ⟨rfl, hb5⟩; constructor; with_reducible rfl; exact ⟨hS.over hb5, fun _ h => h⟩) | (with_reducible refine (sameNil _ _).mono ?_; rintro e w6 ⟨rfl, hb5⟩; constructor; with_reducible rfl; exact ⟨hS.over hb5, fun _ h => h⟩)))); (try simp only [Act.put, List.setIfInBounds_toArray, List.set_cons_zero, List.set_cons_succ])))
  refine Ord.InText.nil fun w5 hS => ?_
  clear hT9
  obtain ⟨hE, hC⟩ := Ord.chain_end hS
  clear hS
  clear hC
  have e0 : IntKind.u64.wrap 0 = 0 := by decide
  go_wp2_with fail
  clear e0
  refine (new_any w5).mono ?_
  rintro e w6 ⟨rfl, hC, hb⟩
  replace hE := hE.made hC (Nat.le_refl _) hb
  clear hC hb
  generalize w5.heap.size = c at *
  go_wp2_with fail
  refine (new_any w6).mono ?_
  rintro e w7 ⟨rfl, hC, hb⟩
  replace hE := hE.made hC (Nat.le_refl _) hb
  clear hC hb
  generalize w6.heap.size = e2 at *
  replace hE := (((hE.newU _ rfl 29).newU (w7.heap.size + 1) (by simp) 29).box (w7.heap.size + 1 + 1) (by simp) (bv ⟨0, 0, 0, 0, 0⟩) 32).perm (perm6' _ _ _ _ _ _)
  go_wp2_with fail
  generalize w7.heap.size + 1 + 1 = N at *
  generalize w7.heap.size + 1 = u2 at *
  generalize w7.heap.size = u at *
  go_loopw [13] (fun i wr => ∃ (k n : Nat) (F G : Nat → Prop) (l : List OneR) (q t : Cnt), k ≤ xs.length ∧ k ≤ 40 ∧ n ≤ k ∧ LOk l k ∧ i = .int .i64 k ∧ Env w [cellI c F (getL l) q n, refI u G l, boxI N (bv t), cellI e2 (fun k => k = e2) (getL []) ⟨0, 0, 0, 0, 0⟩ 0, refI u2 (fun k => k = u2) [], boxI P [.int .i64 a, .int .i64 b, .int .i64 d]] wr) (fun i _ => xs.length - (intOf i).toNat)
  case atStart => exact ⟨0, 0, _, _, [], ⟨0, 0, 0, 0, 0⟩, ⟨0, 0, 0, 0, 0⟩, by omega, by omega, by omega, ⟨by simp, by simp⟩, rfl, hE⟩
  case round =>
    obtain ⟨k, n, F, G, l, q, t, hk, hk1, hn, hl, rfl, hEr⟩ := hrel
    clear hE
    by_cases hlt : k < xs.length ∧ k < 40
    · skip
      obtain ⟨hlt, hlt1⟩ := hlt
      have hb1 : decide ((k : Int) < xs.length) = true := by simp; omega
      have hb2 : decide ((k : Int) < 40) = true := by simp; omega
      rcases HR.out with hz0 | ⟨blk, off, rfl, hbw, hc⟩
      · rw [hz0] at hlt; simp at hlt
      have hok : ActOk (xs.getD k default) := HZ.out _ (by simp [hlt])
      have hat : ActAt wr blk (off + k * 6) (xs.getD k default) := (hc k hlt).below hEr.below hbw
      clear hc
      generalize xs.getD k default = r at *
      obtain ⟨kd, x, y, z, va, vb⟩ := r
      obtain ⟨_, hw, ha, hvb⟩ := hok
      obtain ⟨c0, c1, c2, c3, c4, c5⟩ := hat
      simp only at c0 c1 c2 c3 c4 c5
      have HL := Lib.hid hl
      have HW := Lib.hid hw
      have HA := Lib.hid ha
      have HVB := Lib.hid hvb
      clear hl hw ha hvb
      go_wp2_with fail
      refine (does_any kd x y z va vb HW.out HA.out HVB.out (by omega : k ≤ 1000) hn HL.out hEr).mono ?_
      rintro e w5 ⟨rfl, F5, G5, l5, n5, hn5, hl5, hE5⟩
      go_wp2_with fail
      exact ⟨⟨k + 1, n5, F5, G5, l5, _, _, by omega, by omega, by omega, hl5, by simp, hE5⟩, by simp [intOf]; omega⟩
    · by_cases hl1 : k < xs.length
      · have hl2 : ¬ k < 40 := fun h => hlt ⟨hl1, h⟩
        have hb1 : decide ((k : Int) < xs.length) = true := by simp; omega
        have hb2 : decide ((k : Int) < 40) = false := by simp; omega
        go_wp2_with fail
        go_loopw [14] (fun i wr => ∃ (k n2 : Nat) (F2 G2 : Nat → Prop) (l2 : List OneR) (q2 t2 : Cnt), k ≤ ys.length ∧ k ≤ 40 ∧ n2 ≤ k ∧ LOk l2 k ∧ i = .int .i64 k ∧ Env w [cellI e2 F2 (getL l2) q2 n2, refI u2 G2 l2, boxI N (bv t2), cellI c F (getL l) q n, refI u G l, boxI P [.int .i64 a, .int .i64 b, .int .i64 d]] wr) (fun i _ => ys.length - (intOf i).toNat)
        case atStart => exact ⟨0, 0, _, _, [], ⟨0, 0, 0, 0, 0⟩, t, by omega, by omega, by omega, ⟨by simp, by simp⟩, rfl, hEr.perm (perm6 _ _ _ _ _ _)⟩
        case round =>
          have HLl := Lib.hid hl
          have hn1 := hn
          have hk1' := hk1
          clear hEr hl hn hk hk1 hlt
          obtain ⟨k, n2, F2, G2, l2, q2, t2, hk, hk1, hn, hl, rfl, hEr⟩ := hrel
          by_cases hlt : k < ys.length ∧ k < 40
          · skip
            obtain ⟨hlt, hlt1⟩ := hlt
            have hb1 : decide ((k : Int) < ys.length) = true := by simp; omega
            have hb2 : decide ((k : Int) < 40) = true := by simp; omega
            rcases HR2.out with hz0 | ⟨blk, off, rfl, hbw, hc⟩
            · rw [hz0] at hlt; simp at hlt
            have hok : ActOk (ys.getD k default) := HZ2.out _ (by simp [hlt])
            have hat : ActAt wr blk (off + k * 6) (ys.getD k default) := (hc k hlt).below hEr.below hbw
            clear hc
            generalize ys.getD k default = r at *
            obtain ⟨kd, x, y, z, va, vb⟩ := r
            obtain ⟨_, hw, ha, hvb⟩ := hok
            obtain ⟨c0, c1, c2, c3, c4, c5⟩ := hat
            simp only at c0 c1 c2 c3 c4 c5
            have HL := Lib.hid hl
            have HW := Lib.hid hw
            have HA := Lib.hid ha
            have HVB := Lib.hid hvb
            clear hl hw ha hvb
            go_wp2_with fail
            refine (does_any kd x y z va vb HW.out HA.out HVB.out (by omega : k ≤ 1000) hn HL.out hEr).mono ?_
            rintro e w5 ⟨rfl, F5, G5, l5, n5, hn5, hl5, hE5⟩
            go_wp2_with fail
            exact ⟨⟨k + 1, n5, F5, G5, l5, _, _, by omega, by omega, by omega, hl5, by simp, hE5⟩, by simp [intOf]; omega⟩
          · have HL := Lib.hid hl
            clear hl
            by_cases hl1 : k < ys.length
            · have hl2 : ¬ k < 40 := fun h => hlt ⟨hl1, h⟩
              have hb1 : decide ((k : Int) < ys.length) = true := by simp; omega
              have hb2 : decide ((k : Int) < 40) = false := by simp; omega
              go_wp2_with fail
              have hl40 : l.length ≤ 40 := by have := HLl.out.len; omega
              have hl240 : l2.length ≤ 40 := by have := HL.out.len; omega
              refine (refPlaces_any (by omega) HLl.out.nodup (hEr.ref 4 rfl)).mono ?_
              rintro e v5 ⟨m1, r1, rfl, hp1, hm1, ho1, hb5⟩
              have hE5 := hEr.over hb5
              go_wp2_with fail
              refine (refPlaces_any (by omega) HL.out.nodup (hE5.ref 1 rfl)).mono ?_
              rintro e v6 ⟨m2, r2, rfl, hp2, hm2, ho2, hb6⟩
              have ho1' : v6.ownsRow wr.heap.size 34 3 r1 m1.length (flatP m1) := ownsRow_kept ho1 fun k e => hb6.block k (ho1.lt k e).2
              obtain ⟨A5, c5, rfl⟩ := ownsRow_slice ho1
              obtain ⟨A6, c6, rfl⟩ := ownsRow_slice ho2
              obtain ⟨i0, hi, hz0, hz1, hz2⟩ := info_parts infoPlace
              have hbv6 : Below wr.heap.size wr v6 := hb5.trans (hb6.mono hb5.size)
              obtain ⟨r7, v7, hrun, hown7, hgrow, _⟩ := run_append_rows (P := Try.prog) 45 45 wr.heap.size 34 i0 (.agg #[.int .i64 0, .int .i64 0, .int .i64 0]) 3 24 Try.underlying45 hi hz0 hz1 hz2 rfl (by decide) _ _ _ _ ho1' A6 m2.length c6 (flatP m2) (flatP_length m2)
                (by
                  rcases ho2.2 with ⟨hv, h0⟩ | ⟨g, cap', cur, hv, _⟩
                  · left
                    simp only [Value.slice.injEq] at hv
                    exact ⟨hv.1, h0⟩
                  · right
                    simp only [Value.slice.injEq] at hv
                    refine ⟨⟨g, 0, none⟩, hv.1, ?_⟩
                    exact ho2.cells (by rw [hv.1]; rfl))
                (fun x hx => by
                  obtain ⟨o, _, ho⟩ := List.mem_flatMap.1 hx
                  simp [encP] at ho
                  rcases ho with rfl | rfl | rfl <;> rfl) (by simp [maxLen]; omega) (by omega) hbv6.size
              rw [← flatP_append, ← List.length_append] at hown7
              obtain ⟨A7, c7, rfl⟩ := ownsRow_slice hown7
              have hb7 : Below wr.heap.size wr v7 := Turn.below hbv6 (T := fun k => (Value.slice A5 m1.length c5).ownBlock = some k) ⟨hgrow.os, hgrow.tape, hgrow.output, hgrow.size, fun k hk hn => hgrow.block k hk (fun e => hn e.symm)⟩ hbv6.size fun k hk => (ho1'.lt k hk).1
              have hE7 := hEr.over hb7
              have HROW := Lib.hid (ownsRow_rowP hown7)
              have HSB := Lib.hid (sameB_of hp1 hp2)
              have hmm : (m1 ++ m2).length ≤ 1000 := by simp; omega
              generalize m1 ++ m2 = ms at *
              have HRUN := Lib.hid hrun
              clear hrun hown7 hgrow ho1 ho1' ho2 hE5 hb5 hb6 hb7 hbv6 hEr hp1 hp2 hm1 hm2
              go_wp2_with (first | (at_builtin; refine wpList_append_run rfl _ _ 45 rfl HRUN.out rfl rfl ?_))
              go_loopw [16, 17] (fun s i wq => ∃ k : Nat, k ≤ ms.length ∧ i = .int .i64 k ∧ s = .bool (decide (∀ x ∈ ms.take k, getL l x = getL l2 x)) ∧ Below v7.heap.size v7 wq) (fun _ i _ => ms.length - (intOf i).toNat)
              case atStart => exact ⟨0, by omega, rfl, by simp, Below.refl _ _⟩
              case round =>
                clear hlt hk hk1 hn hn1 hk1'
                obtain ⟨k, hk, rfl, rfl, hB⟩ := hrel
                by_cases hlt : k < ms.length
                · rcases HROW.out with ⟨h0, _⟩ | ⟨g, cp, he, hg, hc⟩
                  · rw [h0] at hlt; simp at hlt
                  simp only [Value.slice.injEq] at he
                  obtain ⟨rfl, -, rfl⟩ := he
                  obtain ⟨d0, d1, d2⟩ := hc k hlt
                  clear hc
                  have hnext : (∀ x ∈ ms.take (k + 1), getL l x = getL l2 x) ↔ ((∀ x ∈ ms.take k, getL l x = getL l2 x) ∧ getL l (ms.getD k z3) = getL l2 (ms.getD k z3)) := by
                    rw [List.take_succ_eq_append_getElem hlt]
                    have e : ms.getD k z3 = ms[k] := by simp [hlt]
                    rw [e]
                    constructor
                    · intro h; exact ⟨fun x hx => h x (List.mem_append.2 (.inl hx)), h _ (List.mem_append.2 (.inr (List.mem_singleton.2 rfl)))⟩
                    · rintro ⟨h1, h2⟩ x hx
                      rcases List.mem_append.1 hx with hx | hx
                      · exact h1 x hx
                      · rw [List.mem_singleton.1 hx]; exact h2
                  generalize ms.getD k z3 = o at d0 d1 d2 hnext
                  obtain ⟨x, y, z⟩ := o
                  simp only at d0 d1 d2
                  have HC : Hid (∀ w', Below v7.heap.size v7 w' → (w'.cell? ⟨g, k * 3, none⟩ = some (.int .i64 x) ∧ w'.cell? ⟨g, k * 3 + 1, none⟩ = some (.int .i64 y) ∧ w'.cell? ⟨g, k * 3 + 2, none⟩ = some (.int .i64 z))) := Lib.hid fun w' hb => by
                    refine ⟨?_, ?_, ?_⟩
                    · rw [hb.cell (p := ⟨g, k * 3, none⟩) hg]; exact d0
                    · rw [hb.cell (p := ⟨g, k * 3 + 1, none⟩) hg]; exact d1
                    · rw [hb.cell (p := ⟨g, k * 3 + 2, none⟩) hg]; exact d2
                  clear d0 d1 d2
                  have HN := Lib.hid hnext
                  clear hnext
                  have HE7 := Lib.hid hE7
                  obtain ⟨g1, hg1⟩ : ∃ v, getL l (x, y, z) = v := ⟨_, rfl⟩
                  obtain ⟨g2, hg2⟩ : ∃ v, getL l2 (x, y, z) = v := ⟨_, rfl⟩
                  have HG1 := Lib.hid hg1
                  have HG2 := Lib.hid hg2
                  clear hg1 hg2 hE7
                  by_cases hall : ∀ x ∈ ms.take k, getL l x = getL l2 x
                  · rw [decide_eq_true hall]
                    have HALL := Lib.hid hall
                    clear hall
                    go_wp2_with fail
                    refine Ord.wp_chain [] (fun w' => Below v7.heap.size v7 w') (fun _ _ => True) (by kernel_rfl) (by kernel_rfl) (by kernel_rfl) hB.drew trivial (fun hT => ?_)
                    have hT9 := Lib.hid hT
                    clear hT
                    repeat (first
                      | (refine Ord.ch_value (v := ?_) hT9.out (by decide) (by rfl) ?_ ?_; rotate_left; (focus (intro w5 hS; obtain ⟨d0, d1, d2⟩ := HC.out _ hS; go_simp <;> with_reducible rfl)); (try simp only [Act.put, List.setIfInBounds_toArray, List.set_cons_zero, List.set_cons_succ]))
                      | (refine Ord.ch_off hT9.out (by decide) (by rfl) ?_; (try simp only [Act.put, List.setIfInBounds_toArray, List.set_cons_zero, List.set_cons_succ]))
                      | (refine Ord.ch_call (v := ?_) (f := ?_) (args := ?_) hT9.out (by decide) (by rfl) ?_ ?_ ?_; rotate_left 3; (focus (intro w5 hS; obtain ⟨d0, d1, d2⟩ := HC.out _ hS; go_simp; constructor <;> with_reducible rfl)); (focus (intro w5 hS; (first | (with_reducible refine (refGet_any _ _ _ (by omega : l.length ≤ 1000000) ((HE7.out.over hS).ref 4 rfl)).mono ?_; rintro e w6 ⟨rfl, hb5⟩; rw [HG1.out]; constructor; with_reducible rfl; exact ⟨hS.trans (hb5.mono hS.size), fun _ h => h⟩) | (with_reducible refine (refGet_any _ _ _ (by omega : l2.length ≤ 1000000) ((HE7.out.over hS).ref 1 rfl)).mono ?_; rintro e w6 ⟨rfl, hb5⟩; rw [HG2.out]; constructor; with_reducible rfl; exact ⟨hS.trans (hb5.mono hS.size), fun _ h => h⟩)))); (try simp only [Act.put, List.setIfInBounds_toArray, List.set_cons_zero, List.set_cons_succ])))
                    refine Ord.InText.nil fun w5 hS => ?_
                    clear hT9
                    obtain ⟨hB5, hC⟩ := Ord.chain_end hS
                    clear hS
                    clear hC
                    go_wp2_with fail
                    have heq : (∀ x ∈ ms.take (k + 1), getL l x = getL l2 x) ↔ g1 = g2 := by rw [HN.out, HG1.out, HG2.out]; exact ⟨And.right, fun h => ⟨HALL.out, h⟩⟩
                    exact ⟨⟨k + 1, by omega, by simp, congrArg Value.bool (Bool.eq_iff_iff.2 (by simp only [beq_iff_eq, decide_eq_true_eq]; exact heq.symm)), hB5⟩, by simp [intOf]; omega⟩
                  · rw [decide_eq_false hall]
                    have HALL := Lib.hid hall
                    clear hall
                    go_wp2_with fail
                    refine Ord.wp_chain [] (fun w' => Below v7.heap.size v7 w') (fun _ _ => True) (by kernel_rfl) (by kernel_rfl) (by kernel_rfl) hB.drew trivial (fun hT => ?_)
                    have hT9 := Lib.hid hT
                    clear hT
                    repeat (first
                      | (refine Ord.ch_value (v := ?_) hT9.out (by decide) (by rfl) ?_ ?_; rotate_left; (focus (intro w5 hS; skip; go_simp <;> with_reducible rfl)); (try simp only [Act.put, List.setIfInBounds_toArray, List.set_cons_zero, List.set_cons_succ]))
                      | (refine Ord.ch_off hT9.out (by decide) (by rfl) ?_; (try simp only [Act.put, List.setIfInBounds_toArray, List.set_cons_zero, List.set_cons_succ]))
                      | (refine Ord.ch_call (v := ?_) (f := ?_) (args := ?_) hT9.out (by decide) (by rfl) ?_ ?_ ?_; rotate_left 3; (focus (intro w5 hS; skip; go_simp; constructor <;> with_reducible rfl)); (focus (intro w5 hS; (first | fail))); (try simp only [Act.put, List.setIfInBounds_toArray, List.set_cons_zero, List.set_cons_succ])))
                    refine Ord.InText.nil fun w5 hS => ?_
                    clear hT9
                    obtain ⟨hB5, hC⟩ := Ord.chain_end hS
                    clear hS
                    clear hC
                    go_wp2_with fail
                    exact ⟨⟨k + 1, by omega, by simp, by rw [decide_eq_false (fun h => HALL.out (HN.out.1 h).1)], hB5⟩, by simp [intOf]; omega⟩
                · have hke : k = ms.length := by omega
                  subst hke
                  rw [List.take_length, ← HSB.out]
                  obtain ⟨bb, hbb⟩ : ∃ v, sameB (getL l) (getL l2) = v := ⟨_, rfl⟩
                  rw [hbb]
                  have HBB := Lib.hid hbb
                  clear hbb HSB
                  replace hE7 := hE7.over hB
                  rcases bb with _ | _
                  all_goals
                    go_wp2_with fail
                    refine (same_any (hE7.cell 3 rfl) (hE7.cell 0 rfl)).mono ?_
                    rintro e v8 ⟨rfl, hb8⟩
                    rw [HBB.out]
                    have hE8 := hE7.over hb8
                    go_wp2_with fail
                    refine (same_any (hE8.cell 0 rfl) (hE8.cell 3 rfl)).mono ?_
                    rintro e v9 ⟨rfl, hb9⟩
                    rw [sameB_symm, HBB.out]
                    have hE9 := hE8.over hb9
                    go_wp2_with fail
                    refine (copy_any (hE9.cell 3 rfl)).mono ?_
                    rintro e v10 ⟨c10, F10, rfl, hC, hF, hb10⟩
                    have hE10 := hE9.made2 hC hF hb10
                    go_wp2_with fail
                    refine (same_any (hE10.cell 4 rfl) (hE10.cell 0 rfl)).mono ?_
                    rintro e v11 ⟨rfl, hb11⟩
                    rw [sameB_yes rfl]
                    have hE11 := hE10.over hb11
                    go_wp2_with fail
                    refine (sameNil _ _).mono ?_
                    rintro e v12 ⟨rfl, hb12⟩
                    have hE12 := hE11.over hb12
                    go_wp2
                    go_ret
                    exact ⟨rfl, HPW.out ▸ hE12.below⟩
            · have hb1 : decide ((k : Int) < ys.length) = false := by simp; omega
              go_wp2_with fail
              have hl40 : l.length ≤ 40 := by have := HLl.out.len; omega
              have hl240 : l2.length ≤ 40 := by have := HL.out.len; omega
              refine (refPlaces_any (by omega) HLl.out.nodup (hEr.ref 4 rfl)).mono ?_
              rintro e v5 ⟨m1, r1, rfl, hp1, hm1, ho1, hb5⟩
              have hE5 := hEr.over hb5
              go_wp2_with fail
              refine (refPlaces_any (by omega) HL.out.nodup (hE5.ref 1 rfl)).mono ?_
              rintro e v6 ⟨m2, r2, rfl, hp2, hm2, ho2, hb6⟩
              have ho1' : v6.ownsRow wr.heap.size 34 3 r1 m1.length (flatP m1) := ownsRow_kept ho1 fun k e => hb6.block k (ho1.lt k e).2
              obtain ⟨A5, c5, rfl⟩ := ownsRow_slice ho1
              obtain ⟨A6, c6, rfl⟩ := ownsRow_slice ho2
              obtain ⟨i0, hi, hz0, hz1, hz2⟩ := info_parts infoPlace
              have hbv6 : Below wr.heap.size wr v6 := hb5.trans (hb6.mono hb5.size)
              obtain ⟨r7, v7, hrun, hown7, hgrow, _⟩ := run_append_rows (P := Try.prog) 45 45 wr.heap.size 34 i0 (.agg #[.int .i64 0, .int .i64 0, .int .i64 0]) 3 24 Try.underlying45 hi hz0 hz1 hz2 rfl (by decide) _ _ _ _ ho1' A6 m2.length c6 (flatP m2) (flatP_length m2)
                (by
                  rcases ho2.2 with ⟨hv, h0⟩ | ⟨g, cap', cur, hv, _⟩
                  · left
                    simp only [Value.slice.injEq] at hv
                    exact ⟨hv.1, h0⟩
                  · right
                    simp only [Value.slice.injEq] at hv
                    refine ⟨⟨g, 0, none⟩, hv.1, ?_⟩
                    exact ho2.cells (by rw [hv.1]; rfl))
                (fun x hx => by
                  obtain ⟨o, _, ho⟩ := List.mem_flatMap.1 hx
                  simp [encP] at ho
                  rcases ho with rfl | rfl | rfl <;> rfl) (by simp [maxLen]; omega) (by omega) hbv6.size
              rw [← flatP_append, ← List.length_append] at hown7
              obtain ⟨A7, c7, rfl⟩ := ownsRow_slice hown7
              have hb7 : Below wr.heap.size wr v7 := Turn.below hbv6 (T := fun k => (Value.slice A5 m1.length c5).ownBlock = some k) ⟨hgrow.os, hgrow.tape, hgrow.output, hgrow.size, fun k hk hn => hgrow.block k hk (fun e => hn e.symm)⟩ hbv6.size fun k hk => (ho1'.lt k hk).1
              have hE7 := hEr.over hb7
              have HROW := Lib.hid (ownsRow_rowP hown7)
              have HSB := Lib.hid (sameB_of hp1 hp2)
              have hmm : (m1 ++ m2).length ≤ 1000 := by simp; omega
              generalize m1 ++ m2 = ms at *
              have HRUN := Lib.hid hrun
              clear hrun hown7 hgrow ho1 ho1' ho2 hE5 hb5 hb6 hb7 hbv6 hEr hp1 hp2 hm1 hm2
              go_wp2_with (first | (at_builtin; refine wpList_append_run rfl _ _ 45 rfl HRUN.out rfl rfl ?_))
              go_loopw [16, 17] (fun s i wq => ∃ k : Nat, k ≤ ms.length ∧ i = .int .i64 k ∧ s = .bool (decide (∀ x ∈ ms.take k, getL l x = getL l2 x)) ∧ Below v7.heap.size v7 wq) (fun _ i _ => ms.length - (intOf i).toNat)
              case atStart => exact ⟨0, by omega, rfl, by simp, Below.refl _ _⟩
              case round =>
                clear hlt hk hk1 hn hn1 hk1'
                obtain ⟨k, hk, rfl, rfl, hB⟩ := hrel
                by_cases hlt : k < ms.length
                · rcases HROW.out with ⟨h0, _⟩ | ⟨g, cp, he, hg, hc⟩
                  · rw [h0] at hlt; simp at hlt
                  simp only [Value.slice.injEq] at he
                  obtain ⟨rfl, -, rfl⟩ := he
                  obtain ⟨d0, d1, d2⟩ := hc k hlt
                  clear hc
                  have hnext : (∀ x ∈ ms.take (k + 1), getL l x = getL l2 x) ↔ ((∀ x ∈ ms.take k, getL l x = getL l2 x) ∧ getL l (ms.getD k z3) = getL l2 (ms.getD k z3)) := by
                    rw [List.take_succ_eq_append_getElem hlt]
                    have e : ms.getD k z3 = ms[k] := by simp [hlt]
                    rw [e]
                    constructor
                    · intro h; exact ⟨fun x hx => h x (List.mem_append.2 (.inl hx)), h _ (List.mem_append.2 (.inr (List.mem_singleton.2 rfl)))⟩
                    · rintro ⟨h1, h2⟩ x hx
                      rcases List.mem_append.1 hx with hx | hx
                      · exact h1 x hx
                      · rw [List.mem_singleton.1 hx]; exact h2
                  generalize ms.getD k z3 = o at d0 d1 d2 hnext
                  obtain ⟨x, y, z⟩ := o
                  simp only at d0 d1 d2
                  have HC : Hid (∀ w', Below v7.heap.size v7 w' → (w'.cell? ⟨g, k * 3, none⟩ = some (.int .i64 x) ∧ w'.cell? ⟨g, k * 3 + 1, none⟩ = some (.int .i64 y) ∧ w'.cell? ⟨g, k * 3 + 2, none⟩ = some (.int .i64 z))) := Lib.hid fun w' hb => by
                    refine ⟨?_, ?_, ?_⟩
                    · rw [hb.cell (p := ⟨g, k * 3, none⟩) hg]; exact d0
                    · rw [hb.cell (p := ⟨g, k * 3 + 1, none⟩) hg]; exact d1
                    · rw [hb.cell (p := ⟨g, k * 3 + 2, none⟩) hg]; exact d2
                  clear d0 d1 d2
                  have HN := Lib.hid hnext
                  clear hnext
                  have HE7 := Lib.hid hE7
                  obtain ⟨g1, hg1⟩ : ∃ v, getL l (x, y, z) = v := ⟨_, rfl⟩
                  obtain ⟨g2, hg2⟩ : ∃ v, getL l2 (x, y, z) = v := ⟨_, rfl⟩
                  have HG1 := Lib.hid hg1
                  have HG2 := Lib.hid hg2
                  clear hg1 hg2 hE7
                  by_cases hall : ∀ x ∈ ms.take k, getL l x = getL l2 x
                  · rw [decide_eq_true hall]
                    have HALL := Lib.hid hall
                    clear hall
                    go_wp2_with fail
                    refine Ord.wp_chain [] (fun w' => Below v7.heap.size v7 w') (fun _ _ => True) (by kernel_rfl) (by kernel_rfl) (by kernel_rfl) hB.drew trivial (fun hT => ?_)
                    have hT9 := Lib.hid hT
                    clear hT
                    repeat (first
                      | (refine Ord.ch_value (v := ?_) hT9.out (by decide) (by rfl) ?_ ?_; rotate_left; (focus (intro w5 hS; obtain ⟨d0, d1, d2⟩ := HC.out _ hS; go_simp <;> with_reducible rfl)); (try simp only [Act.put, List.setIfInBounds_toArray, List.set_cons_zero, List.set_cons_succ]))
                      | (refine Ord.ch_off hT9.out (by decide) (by rfl) ?_; (try simp only [Act.put, List.setIfInBounds_toArray, List.set_cons_zero, List.set_cons_succ]))
                      | (refine Ord.ch_call (v := ?_) (f := ?_) (args := ?_) hT9.out (by decide) (by rfl) ?_ ?_ ?_; rotate_left 3; (focus (intro w5 hS; obtain ⟨d0, d1, d2⟩ := HC.out _ hS; go_simp; constructor <;> with_reducible rfl)); (focus (intro w5 hS; (first | (with_reducible refine (refGet_any _ _ _ (by omega : l.length ≤ 1000000) ((HE7.out.over hS).ref 4 rfl)).mono ?_; rintro e w6 ⟨rfl, hb5⟩; rw [HG1.out]; constructor; with_reducible rfl; exact ⟨hS.trans (hb5.mono hS.size), fun _ h => h⟩) | (with_reducible refine (refGet_any _ _ _ (by omega : l2.length ≤ 1000000) ((HE7.out.over hS).ref 1 rfl)).mono ?_; rintro e w6 ⟨rfl, hb5⟩; rw [HG2.out]; constructor; with_reducible rfl; exact ⟨hS.trans (hb5.mono hS.size), fun _ h => h⟩)))); (try simp only [Act.put, List.setIfInBounds_toArray, List.set_cons_zero, List.set_cons_succ])))
                    refine Ord.InText.nil fun w5 hS => ?_
                    clear hT9
                    obtain ⟨hB5, hC⟩ := Ord.chain_end hS
                    clear hS
                    clear hC
                    go_wp2_with fail
                    have heq : (∀ x ∈ ms.take (k + 1), getL l x = getL l2 x) ↔ g1 = g2 := by rw [HN.out, HG1.out, HG2.out]; exact ⟨And.right, fun h => ⟨HALL.out, h⟩⟩
                    exact ⟨⟨k + 1, by omega, by simp, congrArg Value.bool (Bool.eq_iff_iff.2 (by simp only [beq_iff_eq, decide_eq_true_eq]; exact heq.symm)), hB5⟩, by simp [intOf]; omega⟩
                  · rw [decide_eq_false hall]
                    have HALL := Lib.hid hall
                    clear hall
                    go_wp2_with fail
                    refine Ord.wp_chain [] (fun w' => Below v7.heap.size v7 w') (fun _ _ => True) (by kernel_rfl) (by kernel_rfl) (by kernel_rfl) hB.drew trivial (fun hT => ?_)
                    have hT9 := Lib.hid hT
                    clear hT
                    repeat (first
                      | (refine Ord.ch_value (v := ?_) hT9.out (by decide) (by rfl) ?_ ?_; rotate_left; (focus (intro w5 hS; skip; go_simp <;> with_reducible rfl)); (try simp only [Act.put, List.setIfInBounds_toArray, List.set_cons_zero, List.set_cons_succ]))
                      | (refine Ord.ch_off hT9.out (by decide) (by rfl) ?_; (try simp only [Act.put, List.setIfInBounds_toArray, List.set_cons_zero, List.set_cons_succ]))
                      | (refine Ord.ch_call (v := ?_) (f := ?_) (args := ?_) hT9.out (by decide) (by rfl) ?_ ?_ ?_; rotate_left 3; (focus (intro w5 hS; skip; go_simp; constructor <;> with_reducible rfl)); (focus (intro w5 hS; (first | fail))); (try simp only [Act.put, List.setIfInBounds_toArray, List.set_cons_zero, List.set_cons_succ])))
                    refine Ord.InText.nil fun w5 hS => ?_
                    clear hT9
                    obtain ⟨hB5, hC⟩ := Ord.chain_end hS
                    clear hS
                    clear hC
                    go_wp2_with fail
                    exact ⟨⟨k + 1, by omega, by simp, by rw [decide_eq_false (fun h => HALL.out (HN.out.1 h).1)], hB5⟩, by simp [intOf]; omega⟩
                · have hke : k = ms.length := by omega
                  subst hke
                  rw [List.take_length, ← HSB.out]
                  obtain ⟨bb, hbb⟩ : ∃ v, sameB (getL l) (getL l2) = v := ⟨_, rfl⟩
                  rw [hbb]
                  have HBB := Lib.hid hbb
                  clear hbb HSB
                  replace hE7 := hE7.over hB
                  rcases bb with _ | _
                  all_goals
                    go_wp2_with fail
                    refine (same_any (hE7.cell 3 rfl) (hE7.cell 0 rfl)).mono ?_
                    rintro e v8 ⟨rfl, hb8⟩
                    rw [HBB.out]
                    have hE8 := hE7.over hb8
                    go_wp2_with fail
                    refine (same_any (hE8.cell 0 rfl) (hE8.cell 3 rfl)).mono ?_
                    rintro e v9 ⟨rfl, hb9⟩
                    rw [sameB_symm, HBB.out]
                    have hE9 := hE8.over hb9
                    go_wp2_with fail
                    refine (copy_any (hE9.cell 3 rfl)).mono ?_
                    rintro e v10 ⟨c10, F10, rfl, hC, hF, hb10⟩
                    have hE10 := hE9.made2 hC hF hb10
                    go_wp2_with fail
                    refine (same_any (hE10.cell 4 rfl) (hE10.cell 0 rfl)).mono ?_
                    rintro e v11 ⟨rfl, hb11⟩
                    rw [sameB_yes rfl]
                    have hE11 := hE10.over hb11
                    go_wp2_with fail
                    refine (sameNil _ _).mono ?_
                    rintro e v12 ⟨rfl, hb12⟩
                    have hE12 := hE11.over hb12
                    go_wp2
                    go_ret
                    exact ⟨rfl, HPW.out ▸ hE12.below⟩
      · have hb1 : decide ((k : Int) < xs.length) = false := by simp; omega
        go_wp2_with fail
        go_loopw [14] (fun i wr => ∃ (k n2 : Nat) (F2 G2 : Nat → Prop) (l2 : List OneR) (q2 t2 : Cnt), k ≤ ys.length ∧ k ≤ 40 ∧ n2 ≤ k ∧ LOk l2 k ∧ i = .int .i64 k ∧ Env w [cellI e2 F2 (getL l2) q2 n2, refI u2 G2 l2, boxI N (bv t2), cellI c F (getL l) q n, refI u G l, boxI P [.int .i64 a, .int .i64 b, .int .i64 d]] wr) (fun i _ => ys.length - (intOf i).toNat)
        case atStart => exact ⟨0, 0, _, _, [], ⟨0, 0, 0, 0, 0⟩, t, by omega, by omega, by omega, ⟨by simp, by simp⟩, rfl, hEr.perm (perm6 _ _ _ _ _ _)⟩
        case round =>
          have HLl := Lib.hid hl
          have hn1 := hn
          have hk1' := hk1
          clear hEr hl hn hk hk1 hlt
          obtain ⟨k, n2, F2, G2, l2, q2, t2, hk, hk1, hn, hl, rfl, hEr⟩ := hrel
          by_cases hlt : k < ys.length ∧ k < 40
          · skip
            obtain ⟨hlt, hlt1⟩ := hlt
            have hb1 : decide ((k : Int) < ys.length) = true := by simp; omega
            have hb2 : decide ((k : Int) < 40) = true := by simp; omega
            rcases HR2.out with hz0 | ⟨blk, off, rfl, hbw, hc⟩
            · rw [hz0] at hlt; simp at hlt
            have hok : ActOk (ys.getD k default) := HZ2.out _ (by simp [hlt])
            have hat : ActAt wr blk (off + k * 6) (ys.getD k default) := (hc k hlt).below hEr.below hbw
            clear hc
            generalize ys.getD k default = r at *
            obtain ⟨kd, x, y, z, va, vb⟩ := r
            obtain ⟨_, hw, ha, hvb⟩ := hok
            obtain ⟨c0, c1, c2, c3, c4, c5⟩ := hat
            simp only at c0 c1 c2 c3 c4 c5
            have HL := Lib.hid hl
            have HW := Lib.hid hw
            have HA := Lib.hid ha
            have HVB := Lib.hid hvb
            clear hl hw ha hvb
            go_wp2_with fail
            refine (does_any kd x y z va vb HW.out HA.out HVB.out (by omega : k ≤ 1000) hn HL.out hEr).mono ?_
            rintro e w5 ⟨rfl, F5, G5, l5, n5, hn5, hl5, hE5⟩
            go_wp2_with fail
            exact ⟨⟨k + 1, n5, F5, G5, l5, _, _, by omega, by omega, by omega, hl5, by simp, hE5⟩, by simp [intOf]; omega⟩
          · have HL := Lib.hid hl
            clear hl
            by_cases hl1 : k < ys.length
            · have hl2 : ¬ k < 40 := fun h => hlt ⟨hl1, h⟩
              have hb1 : decide ((k : Int) < ys.length) = true := by simp; omega
              have hb2 : decide ((k : Int) < 40) = false := by simp; omega
              go_wp2_with fail
              have hl40 : l.length ≤ 40 := by have := HLl.out.len; omega
              have hl240 : l2.length ≤ 40 := by have := HL.out.len; omega
              refine (refPlaces_any (by omega) HLl.out.nodup (hEr.ref 4 rfl)).mono ?_
              rintro e v5 ⟨m1, r1, rfl, hp1, hm1, ho1, hb5⟩
              have hE5 := hEr.over hb5
              go_wp2_with fail
              refine (refPlaces_any (by omega) HL.out.nodup (hE5.ref 1 rfl)).mono ?_
              rintro e v6 ⟨m2, r2, rfl, hp2, hm2, ho2, hb6⟩
              have ho1' : v6.ownsRow wr.heap.size 34 3 r1 m1.length (flatP m1) := ownsRow_kept ho1 fun k e => hb6.block k (ho1.lt k e).2
              obtain ⟨A5, c5, rfl⟩ := ownsRow_slice ho1
              obtain ⟨A6, c6, rfl⟩ := ownsRow_slice ho2
              obtain ⟨i0, hi, hz0, hz1, hz2⟩ := info_parts infoPlace
              have hbv6 : Below wr.heap.size wr v6 := hb5.trans (hb6.mono hb5.size)
              obtain ⟨r7, v7, hrun, hown7, hgrow, _⟩ := run_append_rows (P := Try.prog) 45 45 wr.heap.size 34 i0 (.agg #[.int .i64 0, .int .i64 0, .int .i64 0]) 3 24 Try.underlying45 hi hz0 hz1 hz2 rfl (by decide) _ _ _ _ ho1' A6 m2.length c6 (flatP m2) (flatP_length m2)
                (by
                  rcases ho2.2 with ⟨hv, h0⟩ | ⟨g, cap', cur, hv, _⟩
                  · left
                    simp only [Value.slice.injEq] at hv
                    exact ⟨hv.1, h0⟩
                  · right
                    simp only [Value.slice.injEq] at hv
                    refine ⟨⟨g, 0, none⟩, hv.1, ?_⟩
                    exact ho2.cells (by rw [hv.1]; rfl))
                (fun x hx => by
                  obtain ⟨o, _, ho⟩ := List.mem_flatMap.1 hx
                  simp [encP] at ho
                  rcases ho with rfl | rfl | rfl <;> rfl) (by simp [maxLen]; omega) (by omega) hbv6.size
              rw [← flatP_append, ← List.length_append] at hown7
              obtain ⟨A7, c7, rfl⟩ := ownsRow_slice hown7
              have hb7 : Below wr.heap.size wr v7 := Turn.below hbv6 (T := fun k => (Value.slice A5 m1.length c5).ownBlock = some k) ⟨hgrow.os, hgrow.tape, hgrow.output, hgrow.size, fun k hk hn => hgrow.block k hk (fun e => hn e.symm)⟩ hbv6.size fun k hk => (ho1'.lt k hk).1
              have hE7 := hEr.over hb7
              have HROW := Lib.hid (ownsRow_rowP hown7)
              have HSB := Lib.hid (sameB_of hp1 hp2)
              have hmm : (m1 ++ m2).length ≤ 1000 := by simp; omega
              generalize m1 ++ m2 = ms at *
              have HRUN := Lib.hid hrun
              clear hrun hown7 hgrow ho1 ho1' ho2 hE5 hb5 hb6 hb7 hbv6 hEr hp1 hp2 hm1 hm2
              go_wp2_with (first | (at_builtin; refine wpList_append_run rfl _ _ 45 rfl HRUN.out rfl rfl ?_))
              go_loopw [16, 17] (fun s i wq => ∃ k : Nat, k ≤ ms.length ∧ i = .int .i64 k ∧ s = .bool (decide (∀ x ∈ ms.take k, getL l x = getL l2 x)) ∧ Below v7.heap.size v7 wq) (fun _ i _ => ms.length - (intOf i).toNat)
              case atStart => exact ⟨0, by omega, rfl, by simp, Below.refl _ _⟩
              case round =>
                clear hlt hk hk1 hn hn1 hk1'
                obtain ⟨k, hk, rfl, rfl, hB⟩ := hrel
                by_cases hlt : k < ms.length
                · rcases HROW.out with ⟨h0, _⟩ | ⟨g, cp, he, hg, hc⟩
                  · rw [h0] at hlt; simp at hlt
                  simp only [Value.slice.injEq] at he
                  obtain ⟨rfl, -, rfl⟩ := he
                  obtain ⟨d0, d1, d2⟩ := hc k hlt
                  clear hc
                  have hnext : (∀ x ∈ ms.take (k + 1), getL l x = getL l2 x) ↔ ((∀ x ∈ ms.take k, getL l x = getL l2 x) ∧ getL l (ms.getD k z3) = getL l2 (ms.getD k z3)) := by
                    rw [List.take_succ_eq_append_getElem hlt]
                    have e : ms.getD k z3 = ms[k] := by simp [hlt]
                    rw [e]
                    constructor
                    · intro h; exact ⟨fun x hx => h x (List.mem_append.2 (.inl hx)), h _ (List.mem_append.2 (.inr (List.mem_singleton.2 rfl)))⟩
                    · rintro ⟨h1, h2⟩ x hx
                      rcases List.mem_append.1 hx with hx | hx
                      · exact h1 x hx
                      · rw [List.mem_singleton.1 hx]; exact h2
                  generalize ms.getD k z3 = o at d0 d1 d2 hnext
                  obtain ⟨x, y, z⟩ := o
                  simp only at d0 d1 d2
                  have HC : Hid (∀ w', Below v7.heap.size v7 w' → (w'.cell? ⟨g, k * 3, none⟩ = some (.int .i64 x) ∧ w'.cell? ⟨g, k * 3 + 1, none⟩ = some (.int .i64 y) ∧ w'.cell? ⟨g, k * 3 + 2, none⟩ = some (.int .i64 z))) := Lib.hid fun w' hb => by
                    refine ⟨?_, ?_, ?_⟩
                    · rw [hb.cell (p := ⟨g, k * 3, none⟩) hg]; exact d0
                    · rw [hb.cell (p := ⟨g, k * 3 + 1, none⟩) hg]; exact d1
                    · rw [hb.cell (p := ⟨g, k * 3 + 2, none⟩) hg]; exact d2
                  clear d0 d1 d2
                  have HN := Lib.hid hnext
                  clear hnext
                  have HE7 := Lib.hid hE7
                  obtain ⟨g1, hg1⟩ : ∃ v, getL l (x, y, z) = v := ⟨_, rfl⟩
                  obtain ⟨g2, hg2⟩ : ∃ v, getL l2 (x, y, z) = v := ⟨_, rfl⟩
                  have HG1 := Lib.hid hg1
                  have HG2 := Lib.hid hg2
                  clear hg1 hg2 hE7
                  by_cases hall : ∀ x ∈ ms.take k, getL l x = getL l2 x
                  · rw [decide_eq_true hall]
                    have HALL := Lib.hid hall
                    clear hall
                    go_wp2_with fail
                    refine Ord.wp_chain [] (fun w' => Below v7.heap.size v7 w') (fun _ _ => True) (by kernel_rfl) (by kernel_rfl) (by kernel_rfl) hB.drew trivial (fun hT => ?_)
                    have hT9 := Lib.hid hT
                    clear hT
                    repeat (first
                      | (refine Ord.ch_value (v := ?_) hT9.out (by decide) (by rfl) ?_ ?_; rotate_left; (focus (intro w5 hS; obtain ⟨d0, d1, d2⟩ := HC.out _ hS; go_simp <;> with_reducible rfl)); (try simp only [Act.put, List.setIfInBounds_toArray, List.set_cons_zero, List.set_cons_succ]))
                      | (refine Ord.ch_off hT9.out (by decide) (by rfl) ?_; (try simp only [Act.put, List.setIfInBounds_toArray, List.set_cons_zero, List.set_cons_succ]))
                      | (refine Ord.ch_call (v := ?_) (f := ?_) (args := ?_) hT9.out (by decide) (by rfl) ?_ ?_ ?_; rotate_left 3; (focus (intro w5 hS; obtain ⟨d0, d1, d2⟩ := HC.out _ hS; go_simp; constructor <;> with_reducible rfl)); (focus (intro w5 hS; (first | (with_reducible refine (refGet_any _ _ _ (by omega : l.length ≤ 1000000) ((HE7.out.over hS).ref 4 rfl)).mono ?_; rintro e w6 ⟨rfl, hb5⟩; rw [HG1.out]; constructor; with_reducible rfl; exact ⟨hS.trans (hb5.mono hS.size), fun _ h => h⟩) | (with_reducible refine (refGet_any _ _ _ (by omega : l2.length ≤ 1000000) ((HE7.out.over hS).ref 1 rfl)).mono ?_; rintro e w6 ⟨rfl, hb5⟩; rw [HG2.out]; constructor; with_reducible rfl; exact ⟨hS.trans (hb5.mono hS.size), fun _ h => h⟩)))); (try simp only [Act.put, List.setIfInBounds_toArray, List.set_cons_zero, List.set_cons_succ])))
                    refine Ord.InText.nil fun w5 hS => ?_
                    clear hT9
                    obtain ⟨hB5, hC⟩ := Ord.chain_end hS
                    clear hS
                    clear hC
                    go_wp2_with fail
                    have heq : (∀ x ∈ ms.take (k + 1), getL l x = getL l2 x) ↔ g1 = g2 := by rw [HN.out, HG1.out, HG2.out]; exact ⟨And.right, fun h => ⟨HALL.out, h⟩⟩
                    exact ⟨⟨k + 1, by omega, by simp, congrArg Value.bool (Bool.eq_iff_iff.2 (by simp only [beq_iff_eq, decide_eq_true_eq]; exact heq.symm)), hB5⟩, by simp [intOf]; omega⟩
                  · rw [decide_eq_false hall]
                    have HALL := Lib.hid hall
                    clear hall
                    go_wp2_with fail
                    refine Ord.wp_chain [] (fun w' => Below v7.heap.size v7 w') (fun _ _ => True) (by kernel_rfl) (by kernel_rfl) (by kernel_rfl) hB.drew trivial (fun hT => ?_)
                    have hT9 := Lib.hid hT
                    clear hT
                    repeat (first
                      | (refine Ord.ch_value (v := ?_) hT9.out (by decide) (by rfl) ?_ ?_; rotate_left; (focus (intro w5 hS; skip; go_simp <;> with_reducible rfl)); (try simp only [Act.put, List.setIfInBounds_toArray, List.set_cons_zero, List.set_cons_succ]))
                      | (refine Ord.ch_off hT9.out (by decide) (by rfl) ?_; (try simp only [Act.put, List.setIfInBounds_toArray, List.set_cons_zero, List.set_cons_succ]))
                      | (refine Ord.ch_call (v := ?_) (f := ?_) (args := ?_) hT9.out (by decide) (by rfl) ?_ ?_ ?_; rotate_left 3; (focus (intro w5 hS; skip; go_simp; constructor <;> with_reducible rfl)); (focus (intro w5 hS; (first | fail))); (try simp only [Act.put, List.setIfInBounds_toArray, List.set_cons_zero, List.set_cons_succ])))
                    refine Ord.InText.nil fun w5 hS => ?_
                    clear hT9
                    obtain ⟨hB5, hC⟩ := Ord.chain_end hS
                    clear hS
                    clear hC
                    go_wp2_with fail
                    exact ⟨⟨k + 1, by omega, by simp, by rw [decide_eq_false (fun h => HALL.out (HN.out.1 h).1)], hB5⟩, by simp [intOf]; omega⟩
                · have hke : k = ms.length := by omega
                  subst hke
                  rw [List.take_length, ← HSB.out]
                  obtain ⟨bb, hbb⟩ : ∃ v, sameB (getL l) (getL l2) = v := ⟨_, rfl⟩
                  rw [hbb]
                  have HBB := Lib.hid hbb
                  clear hbb HSB
                  replace hE7 := hE7.over hB
                  rcases bb with _ | _
                  all_goals
                    go_wp2_with fail
                    refine (same_any (hE7.cell 3 rfl) (hE7.cell 0 rfl)).mono ?_
                    rintro e v8 ⟨rfl, hb8⟩
                    rw [HBB.out]
                    have hE8 := hE7.over hb8
                    go_wp2_with fail
                    refine (same_any (hE8.cell 0 rfl) (hE8.cell 3 rfl)).mono ?_
                    rintro e v9 ⟨rfl, hb9⟩
                    rw [sameB_symm, HBB.out]
                    have hE9 := hE8.over hb9
                    go_wp2_with fail
                    refine (copy_any (hE9.cell 3 rfl)).mono ?_
                    rintro e v10 ⟨c10, F10, rfl, hC, hF, hb10⟩
                    have hE10 := hE9.made2 hC hF hb10
                    go_wp2_with fail
                    refine (same_any (hE10.cell 4 rfl) (hE10.cell 0 rfl)).mono ?_
                    rintro e v11 ⟨rfl, hb11⟩
                    rw [sameB_yes rfl]
                    have hE11 := hE10.over hb11
                    go_wp2_with fail
                    refine (sameNil _ _).mono ?_
                    rintro e v12 ⟨rfl, hb12⟩
                    have hE12 := hE11.over hb12
                    go_wp2
                    go_ret
                    exact ⟨rfl, HPW.out ▸ hE12.below⟩
            · have hb1 : decide ((k : Int) < ys.length) = false := by simp; omega
              go_wp2_with fail
              have hl40 : l.length ≤ 40 := by have := HLl.out.len; omega
              have hl240 : l2.length ≤ 40 := by have := HL.out.len; omega
              refine (refPlaces_any (by omega) HLl.out.nodup (hEr.ref 4 rfl)).mono ?_
              rintro e v5 ⟨m1, r1, rfl, hp1, hm1, ho1, hb5⟩
              have hE5 := hEr.over hb5
              go_wp2_with fail
              refine (refPlaces_any (by omega) HL.out.nodup (hE5.ref 1 rfl)).mono ?_
              rintro e v6 ⟨m2, r2, rfl, hp2, hm2, ho2, hb6⟩
              have ho1' : v6.ownsRow wr.heap.size 34 3 r1 m1.length (flatP m1) := ownsRow_kept ho1 fun k e => hb6.block k (ho1.lt k e).2
              obtain ⟨A5, c5, rfl⟩ := ownsRow_slice ho1
              obtain ⟨A6, c6, rfl⟩ := ownsRow_slice ho2
              obtain ⟨i0, hi, hz0, hz1, hz2⟩ := info_parts infoPlace
              have hbv6 : Below wr.heap.size wr v6 := hb5.trans (hb6.mono hb5.size)
              obtain ⟨r7, v7, hrun, hown7, hgrow, _⟩ := run_append_rows (P := Try.prog) 45 45 wr.heap.size 34 i0 (.agg #[.int .i64 0, .int .i64 0, .int .i64 0]) 3 24 Try.underlying45 hi hz0 hz1 hz2 rfl (by decide) _ _ _ _ ho1' A6 m2.length c6 (flatP m2) (flatP_length m2)
                (by
                  rcases ho2.2 with ⟨hv, h0⟩ | ⟨g, cap', cur, hv, _⟩
                  · left
                    simp only [Value.slice.injEq] at hv
                    exact ⟨hv.1, h0⟩
                  · right
                    simp only [Value.slice.injEq] at hv
                    refine ⟨⟨g, 0, none⟩, hv.1, ?_⟩
                    exact ho2.cells (by rw [hv.1]; rfl))
                (fun x hx => by
                  obtain ⟨o, _, ho⟩ := List.mem_flatMap.1 hx
                  simp [encP] at ho
                  rcases ho with rfl | rfl | rfl <;> rfl) (by simp [maxLen]; omega) (by omega) hbv6.size
              rw [← flatP_append, ← List.length_append] at hown7
              obtain ⟨A7, c7, rfl⟩ := ownsRow_slice hown7
              have hb7 : Below wr.heap.size wr v7 := Turn.below hbv6 (T := fun k => (Value.slice A5 m1.length c5).ownBlock = some k) ⟨hgrow.os, hgrow.tape, hgrow.output, hgrow.size, fun k hk hn => hgrow.block k hk (fun e => hn e.symm)⟩ hbv6.size fun k hk => (ho1'.lt k hk).1
              have hE7 := hEr.over hb7
              have HROW := Lib.hid (ownsRow_rowP hown7)
              have HSB := Lib.hid (sameB_of hp1 hp2)
              have hmm : (m1 ++ m2).length ≤ 1000 := by simp; omega
              generalize m1 ++ m2 = ms at *
              have HRUN := Lib.hid hrun
              clear hrun hown7 hgrow ho1 ho1' ho2 hE5 hb5 hb6 hb7 hbv6 hEr hp1 hp2 hm1 hm2
              go_wp2_with (first | (at_builtin; refine wpList_append_run rfl _ _ 45 rfl HRUN.out rfl rfl ?_))
              go_loopw [16, 17] (fun s i wq => ∃ k : Nat, k ≤ ms.length ∧ i = .int .i64 k ∧ s = .bool (decide (∀ x ∈ ms.take k, getL l x = getL l2 x)) ∧ Below v7.heap.size v7 wq) (fun _ i _ => ms.length - (intOf i).toNat)
              case atStart => exact ⟨0, by omega, rfl, by simp, Below.refl _ _⟩
              case round =>
                clear hlt hk hk1 hn hn1 hk1'
                obtain ⟨k, hk, rfl, rfl, hB⟩ := hrel
                by_cases hlt : k < ms.length
                · rcases HROW.out with ⟨h0, _⟩ | ⟨g, cp, he, hg, hc⟩
                  · rw [h0] at hlt; simp at hlt
                  simp only [Value.slice.injEq] at he
                  obtain ⟨rfl, -, rfl⟩ := he
                  obtain ⟨d0, d1, d2⟩ := hc k hlt
                  clear hc
                  have hnext : (∀ x ∈ ms.take (k + 1), getL l x = getL l2 x) ↔ ((∀ x ∈ ms.take k, getL l x = getL l2 x) ∧ getL l (ms.getD k z3) = getL l2 (ms.getD k z3)) := by
                    rw [List.take_succ_eq_append_getElem hlt]
                    have e : ms.getD k z3 = ms[k] := by simp [hlt]
                    rw [e]
                    constructor
                    · intro h; exact ⟨fun x hx => h x (List.mem_append.2 (.inl hx)), h _ (List.mem_append.2 (.inr (List.mem_singleton.2 rfl)))⟩
                    · rintro ⟨h1, h2⟩ x hx
                      rcases List.mem_append.1 hx with hx | hx
                      · exact h1 x hx
                      · rw [List.mem_singleton.1 hx]; exact h2
                  generalize ms.getD k z3 = o at d0 d1 d2 hnext
                  obtain ⟨x, y, z⟩ := o
                  simp only at d0 d1 d2
                  have HC : Hid (∀ w', Below v7.heap.size v7 w' → (w'.cell? ⟨g, k * 3, none⟩ = some (.int .i64 x) ∧ w'.cell? ⟨g, k * 3 + 1, none⟩ = some (.int .i64 y) ∧ w'.cell? ⟨g, k * 3 + 2, none⟩ = some (.int .i64 z))) := Lib.hid fun w' hb => by
                    refine ⟨?_, ?_, ?_⟩
                    · rw [hb.cell (p := ⟨g, k * 3, none⟩) hg]; exact d0
                    · rw [hb.cell (p := ⟨g, k * 3 + 1, none⟩) hg]; exact d1
                    · rw [hb.cell (p := ⟨g, k * 3 + 2, none⟩) hg]; exact d2
                  clear d0 d1 d2
                  have HN := Lib.hid hnext
                  clear hnext
                  have HE7 := Lib.hid hE7
                  obtain ⟨g1, hg1⟩ : ∃ v, getL l (x, y, z) = v := ⟨_, rfl⟩
                  obtain ⟨g2, hg2⟩ : ∃ v, getL l2 (x, y, z) = v := ⟨_, rfl⟩
                  have HG1 := Lib.hid hg1
                  have HG2 := Lib.hid hg2
                  clear hg1 hg2 hE7
                  by_cases hall : ∀ x ∈ ms.take k, getL l x = getL l2 x
                  · rw [decide_eq_true hall]
                    have HALL := Lib.hid hall
                    clear hall
                    go_wp2_with fail
                    refine Ord.wp_chain [] (fun w' => Below v7.heap.size v7 w') (fun _ _ => True) (by kernel_rfl) (by kernel_rfl) (by kernel_rfl) hB.drew trivial (fun hT => ?_)
                    have hT9 := Lib.hid hT
                    clear hT
                    repeat (first
                      | (refine Ord.ch_value (v := ?_) hT9.out (by decide) (by rfl) ?_ ?_; rotate_left; (focus (intro w5 hS; obtain ⟨d0, d1, d2⟩ := HC.out _ hS; go_simp <;> with_reducible rfl)); (try simp only [Act.put, List.setIfInBounds_toArray, List.set_cons_zero, List.set_cons_succ]))
                      | (refine Ord.ch_off hT9.out (by decide) (by rfl) ?_; (try simp only [Act.put, List.setIfInBounds_toArray, List.set_cons_zero, List.set_cons_succ]))
                      | (refine Ord.ch_call (v := ?_) (f := ?_) (args := ?_) hT9.out (by decide) (by rfl) ?_ ?_ ?_; rotate_left 3; (focus (intro w5 hS; obtain ⟨d0, d1, d2⟩ := HC.out _ hS; go_simp; constructor <;> with_reducible rfl)); (focus (intro w5 hS; (first | (with_reducible refine (refGet_any _ _ _ (by omega : l.length ≤ 1000000) ((HE7.out.over hS).ref 4 rfl)).mono ?_; rintro e w6 ⟨rfl, hb5⟩; rw [HG1.out]; constructor; with_reducible rfl; exact ⟨hS.trans (hb5.mono hS.size), fun _ h => h⟩) | (with_reducible refine (refGet_any _ _ _ (by omega : l2.length ≤ 1000000) ((HE7.out.over hS).ref 1 rfl)).mono ?_; rintro e w6 ⟨rfl, hb5⟩; rw [HG2.out]; constructor; with_reducible rfl; exact ⟨hS.trans (hb5.mono hS.size), fun _ h => h⟩)))); (try simp only [Act.put, List.setIfInBounds_toArray, List.set_cons_zero, List.set_cons_succ])))
                    refine Ord.InText.nil fun w5 hS => ?_
                    clear hT9
                    obtain ⟨hB5, hC⟩ := Ord.chain_end hS
                    clear hS
                    clear hC
                    go_wp2_with fail
                    have heq : (∀ x ∈ ms.take (k + 1), getL l x = getL l2 x) ↔ g1 = g2 := by rw [HN.out, HG1.out, HG2.out]; exact ⟨And.right, fun h => ⟨HALL.out, h⟩⟩
                    exact ⟨⟨k + 1, by omega, by simp, congrArg Value.bool (Bool.eq_iff_iff.2 (by simp only [beq_iff_eq, decide_eq_true_eq]; exact heq.symm)), hB5⟩, by simp [intOf]; omega⟩
                  · rw [decide_eq_false hall]
                    have HALL := Lib.hid hall
                    clear hall
                    go_wp2_with fail
                    refine Ord.wp_chain [] (fun w' => Below v7.heap.size v7 w') (fun _ _ => True) (by kernel_rfl) (by kernel_rfl) (by kernel_rfl) hB.drew trivial (fun hT => ?_)
                    have hT9 := Lib.hid hT
                    clear hT
                    repeat (first
                      | (refine Ord.ch_value (v := ?_) hT9.out (by decide) (by rfl) ?_ ?_; rotate_left; (focus (intro w5 hS; skip; go_simp <;> with_reducible rfl)); (try simp only [Act.put, List.setIfInBounds_toArray, List.set_cons_zero, List.set_cons_succ]))
                      | (refine Ord.ch_off hT9.out (by decide) (by rfl) ?_; (try simp only [Act.put, List.setIfInBounds_toArray, List.set_cons_zero, List.set_cons_succ]))
                      | (refine Ord.ch_call (v := ?_) (f := ?_) (args := ?_) hT9.out (by decide) (by rfl) ?_ ?_ ?_; rotate_left 3; (focus (intro w5 hS; skip; go_simp; constructor <;> with_reducible rfl)); (focus (intro w5 hS; (first | fail))); (try simp only [Act.put, List.setIfInBounds_toArray, List.set_cons_zero, List.set_cons_succ])))
                    refine Ord.InText.nil fun w5 hS => ?_
                    clear hT9
                    obtain ⟨hB5, hC⟩ := Ord.chain_end hS
                    clear hS
                    clear hC
                    go_wp2_with fail
                    exact ⟨⟨k + 1, by omega, by simp, by rw [decide_eq_false (fun h => HALL.out (HN.out.1 h).1)], hB5⟩, by simp [intOf]; omega⟩
                · have hke : k = ms.length := by omega
                  subst hke
                  rw [List.take_length, ← HSB.out]
                  obtain ⟨bb, hbb⟩ : ∃ v, sameB (getL l) (getL l2) = v := ⟨_, rfl⟩
                  rw [hbb]
                  have HBB := Lib.hid hbb
                  clear hbb HSB
                  replace hE7 := hE7.over hB
                  rcases bb with _ | _
                  all_goals
                    go_wp2_with fail
                    refine (same_any (hE7.cell 3 rfl) (hE7.cell 0 rfl)).mono ?_
                    rintro e v8 ⟨rfl, hb8⟩
                    rw [HBB.out]
                    have hE8 := hE7.over hb8
                    go_wp2_with fail
                    refine (same_any (hE8.cell 0 rfl) (hE8.cell 3 rfl)).mono ?_
                    rintro e v9 ⟨rfl, hb9⟩
                    rw [sameB_symm, HBB.out]
                    have hE9 := hE8.over hb9
                    go_wp2_with fail
                    refine (copy_any (hE9.cell 3 rfl)).mono ?_
                    rintro e v10 ⟨c10, F10, rfl, hC, hF, hb10⟩
                    have hE10 := hE9.made2 hC hF hb10
                    go_wp2_with fail
                    refine (same_any (hE10.cell 4 rfl) (hE10.cell 0 rfl)).mono ?_
                    rintro e v11 ⟨rfl, hb11⟩
                    rw [sameB_yes rfl]
                    have hE11 := hE10.over hb11
                    go_wp2_with fail
                    refine (sameNil _ _).mono ?_
                    rintro e v12 ⟨rfl, hb12⟩
                    have hE12 := hE11.over hb12
                    go_wp2
                    go_ret
                    exact ⟨rfl, HPW.out ▸ hE12.below⟩

theorem own : ownKnob Try.prog.godebug = none := by kernel_rfl
theorem laidOut : laidOutB Try.prog = true := by kernel_rfl

set_option maxRecDepth 100000 in
theorem lifted (os : Os) (started : os.Started) (H : Type) (enc : TypeId × Value → H) :
    ReturnsInHanded {} Try.checked os 4 .any (Rows.cellNilSpec.pre6 enc Try.prog Try.f4 Rows.cellNilRow.domain false) (Rows.cellNilSpec.post enc Try.prog Try.f4 false true false false) := by
  refine returnsInHanded_of_change (C := Try.checked) own started (by kernel_rfl) Try.func4
    (ChangeSpec.witness6 (enc := enc) (C := Try.checked) false ⟨#[], #[.slice none 0 0, .slice none 0 0, .agg #[.int .i64 0, .int .i64 0, .int .i64 0]], []⟩ 8 (by kernel_rfl) (by kernel_rfl) (by kernel_rfl) (by kernel_rfl)) ?_
  intro W base args ds gs before hval0 hW hcnd _
  have hval : ∀ (j : Nat) t v, Try.f4.params[j]? = some t → args[j]? = some v → Value.okWide Try.prog W .any base t v := hval0
  have hW' := hW
  obtain ⟨p, q, hA0, hV, rfl, hfz, hnd⟩ := hW
  have hA : DataW.TrodAll enc Try.prog W 0 (fun _ => true) true Try.f4.params.toList args.toList ds p := hA0
  rw [Try.params4] at hA hval
  obtain ⟨v0, vs0, d0, ds0, p0, q0, hargs, rfl, rfl, g0, r0⟩ := trodAll_cons hA
  obtain ⟨v1, vs1, d1, ds1, p1, q1, rfl, rfl, rfl, g1, r1⟩ := trodAll_cons r0
  obtain ⟨v2, vs2, d2, ds2, p2, q2, rfl, rfl, rfl, g2, r2⟩ := trodAll_cons r1
  obtain ⟨rfl, rfl, rfl⟩ := trodAll_nil r2
  obtain rfl : args = #[v0, v1, v2] := by cases args; simp_all
  obtain ⟨rfl, rfl⟩ := trodVars_none hV
  obtain ⟨cs2, rfl, z2, H2⟩ := open_flat (ss := [.num .i64, .num .i64, .num .i64]) Try.underlying34 (by kernel_rfl) (by kernel_rfl) ⟨Try.underlying3, Try.underlying3, Try.underlying3, trivial⟩ (hval 2 34 v2 rfl rfl) g2
  obtain ⟨l2, rfl, z2⟩ := list_of z2
  obtain ⟨x2_0, x2_1, x2_2, rfl⟩ := list3 z2
  obtain ⟨_, e, a2_0, rfl, w2_0⟩ := H2 0 _ rfl
  obtain rfl : x2_0 = .int .i64 a2_0 := by simpa using e
  clear e
  have h2_0 := i64_in w2_0
  obtain ⟨_, e, a2_1, rfl, w2_1⟩ := H2 1 _ rfl
  obtain rfl : x2_1 = .int .i64 a2_1 := by simpa using e
  clear e
  have h2_1 := i64_in w2_1
  obtain ⟨_, e, a2_2, rfl, w2_2⟩ := H2 2 _ rfl
  obtain rfl : x2_2 = .int .i64 a2_2 := by simpa using e
  clear e
  have h2_2 := i64_in w2_2
  clear H2
  obtain ⟨A0, n0, cap0, rfl⟩ := okWide_slice Try.underlying22 (hval 0 22 v0 rfl rfl)
  obtain ⟨zs0, rfl, h0, w0, row0⟩ := open_acts g0 (fun x hx => hW'.lt x (by simp [hx]))
  unfold maxLen at h0
  obtain ⟨A1, n1, cap1, rfl⟩ := okWide_slice Try.underlying22 (hval 1 22 v1 rfl rfl)
  obtain ⟨zs1, rfl, h1, w1, row1⟩ := open_acts g1 (fun x hx => hW'.lt x (by simp [hx]))
  unfold maxLen at h1
  clear hA0 hval0
  refine (walk zs0 A0 cap0 zs1 A1 cap1 a2_0 a2_1 a2_2 w0 h0 w1 h1 ⟨h2_0, h2_1, h2_2⟩ W row0 row1).mono fun e W' ⟨he, hg⟩ => ?_
  subst he
  exact ⟨_, rfl, law_post laidOut (by kernel_rfl) (by kernel_rfl) Try.underlying4 rfl rfl hW' hg⟩

theorem over : Rows.cellNilRow.holds Try.pinned (OpenSpec.ofChange Rows.cellNilSpec) :=
  OpenClaim.holds_of_wide 4 Try.f4 rfl rfl rfl rfl rfl rfl rfl ⟨rfl, rfl, rfl, rfl, rfl⟩ rfl rfl rfl rfl rfl (by kernel_rfl) Try.func4 (by kernel_rfl)
    (of_decide_eq_true (by kernel_rfl)) (by unfold Func.isWrapper; first | (rw [if_pos (by decide +kernel)]; kernel_rfl) | (rw [if_neg (by decide +kernel)]; exact ⟨rfl, rfl⟩))
    (fun os started H enc _ => lifted os started H enc)

/-- THE STATEMENT. -/
theorem proved : Rows.CellNilSaid := over
#print axioms proved
end Go.Proofs.Ytmgldhojgkcnkaa.cellNil
