/- LinkMarks: a mark stays, and changes neither slot nor version that were told; a link of the next version is unlike all of the elder ones, marked or not: so the law answers true, for every input, where the package's three variables hold what the program's text lays in them (tied). -/
import Derived.Test.YtbkdacbpapedgaaDoorLinkW
import Derived.Test.YtbkdacbpapedgaaDoorLinkG
import Derived.Test.YtbkdacbpapedgaaDoorCards
import Derived.SevenTiedAt
namespace Go.Proofs.YtbkdacbpapedgaaDoor.linkMarks
open Go.ChangeShapes Go.WideShapes Go.ChangeAt Go.RowKit Go.Joins

theorem cut_u (a m : Int) (h0 : 0 < m) (h1 : m ≤ 1099511627776) : ∃ r : Int, wrap64 ((IntKind.u64.wrap a).tmod m) = r ∧ 0 ≤ r ∧ r < m := by
  refine ⟨_, rfl, ?_⟩
  have e : 0 ≤ IntKind.u64.wrap a := by rw [IntKind.wrap_u64]; omega
  rw [Int.tmod_eq_emod_of_nonneg e]
  have := Int.emod_nonneg (IntKind.u64.wrap a) (show m ≠ 0 by omega)
  have := Int.emod_lt_of_pos (IntKind.u64.wrap a) h0
  unfold wrap64
  omega

theorem mark_stays (x s v : Int) (h : isL s v = true) : markB (markedW x s v) = true := by
  unfold markedW
  split
  · assumption
  · exact mark_word h
theorem marked_again (x s v t u : Int) (h : isL s v = true) : markedW (markedW x s v) t u = markedW x s v := by
  have := mark_stays x s v h
  generalize markedW x s v = m at *
  simp [markedW, this]
theorem marked_fresh (x s v : Int) (h : isL s v = true) (hm : markB x = false) : slotI (markedW x s v) = s ∧ verI (markedW x s v) = v := by
  have e : markedW x s v = wordI true s v := by simp [markedW, hm]
  rw [e]
  exact ⟨slot_word h, ver_word h⟩
theorem markB_zero : markB 0 = false := by decide

set_option maxRecDepth 100000 in
set_option maxHeartbeats 3200000 in
theorem walk (x a b c : Int) (h0 : 0 ≤ x) (h1 : x ≤ 18446744073709551615) (w : World) (hg : Glo w) :
    Calls Tryd.prog 6 #[.int .u64 x, .int .i64 a, .int .i64 b, .int .i64 c] w fun e w' => e = .returned (.bool true) ∧ Below w.heap.size w w' := by
  go_enter Tryd.func6, Tryd.ntmps6
  go_wp2_with fail
  refine (awake2 _ hg).mono ?_
  rintro e w1 ⟨rfl, hb⟩
  have hG := hg.keep' hb
  clear hg
  go_wp2_with fail
  obtain ⟨s, hs, s0, s1⟩ := cut_u a 8388608 (by decide) (by decide)
  obtain ⟨v, hv, v0, v1⟩ := cut_u b 1099511627776 (by decide) (by decide)
  rw [hs, hv]
  clear hs hv
  have hL : isL s v = true := isL_mk s0 (by omega) v0 (by omega)
  have hi := markedW_in x s v h0 h1
  obtain ⟨i0, i1⟩ := hi
  have M1 := Lib.hid (mark_stays x s v hL)
  have M2 := Lib.hid (marked_again x s v 1 1 hL)
  have M3 : Hid (markB x = false → slotI (markedW x s v) = s ∧ verI (markedW x s v) = v) := Lib.hid (marked_fresh x s v hL)
  have M4 := Lib.hid (mark_word (m := false) hL)
  have j0 := (wordI_in false s v).1
  have j1 := (wordI_in false s v).2
  have HL := Lib.hid hL
  clear hL
  refine (marked_any x s v _ hG h0 h1).mono ?_
  rintro e w2 ⟨rfl, hb2⟩
  have hG2 := hG.keep' hb2
  have hB : Below w.heap.size w w2 := hb.trans (hb2.mono (by have := hb.size; omega))
  clear hb hb2 hG
  generalize markedW x s v = m at *
  go_wp2_with fail
  refine (isMarked_any m _ hG2 i0 i1).mono ?_
  rintro e w3 ⟨rfl, hb⟩
  rw [M1.out]
  have hG := hG2.keep' hb
  have hB2 : Below w.heap.size w w3 := hB.trans (hb.mono (by have := hB.size; omega))
  clear hb hG2 hB
  go_wp2_with fail
  refine (marked_any m 1 1 _ hG i0 i1).mono ?_
  rintro e w4 ⟨rfl, hb⟩
  rw [M2.out]
  have hG2 := hG.keep' hb
  have hB : Below w.heap.size w w4 := hB2.trans (hb.mono (by have := hB2.size; omega))
  clear hb hG hB2
  go_wp2_with fail
  refine (to_any s v _ hG2).mono ?_
  rintro e w5 ⟨rfl, hb⟩
  have hG := hG2.keep' hb
  have hB2 : Below w.heap.size w w5 := hB.trans (hb.mono (by have := hB.size; omega))
  clear hb hG2 hB
  go_wp2_with fail
  refine (isMarked_any _ _ hG j0 j1).mono ?_
  rintro e w6 ⟨rfl, hb⟩
  rw [M4.out]
  have hG2 := hG.keep' hb
  have hB : Below w.heap.size w w6 := hB2.trans (hb.mono (by have := hB2.size; omega))
  clear hb hG hB2 j0 j1 M1 M2 M4
  go_wp2_with fail
  refine (isMarked_any x _ hG2 h0 h1).mono ?_
  rintro e w7 ⟨rfl, hb⟩
  have hG := hG2.keep' hb
  have hB2 : Below w.heap.size w w7 := hB.trans (hb.mono (by have := hB.size; omega))
  clear hb hG2 hB
  have F0 : Hid (verI x = 1099511627775 → nextE x s = 7 ∧ nextW x s = 0) := Lib.hid fun h => by simp [nextE, nextW, h, isS_mk s0 (show s ≤ 8388607 by omega)]
  have F1 : Hid (¬ verI x = 1099511627775 → nextE x s = 0 ∧ nextW x s = wordI false s (verI x + 1)) := Lib.hid fun h => by simp [nextE, nextW, h, isS_mk s0 (show s ≤ 8388607 by omega)]
  cases hm : markB x
  case' false =>
    obtain ⟨e1, e2⟩ := M3.out hm
    have E1 := Lib.hid e1
    have E2 := Lib.hid e2
    clear e1 e2 hm M3
    go_wp2_with fail
    refine (slot_any m _ hG i0 i1).mono ?_
    rintro e w8 ⟨rfl, hb⟩
    rw [E1.out]
    have hG2 := hG.keep' hb
    have hB : Below w.heap.size w w8 := hB2.trans (hb.mono (by have := hB2.size; omega))
    clear hb hG hB2
    go_wp2_with fail
    refine (version_any m _ hG2 i0 i1).mono ?_
    rintro e w9 ⟨rfl, hb⟩
    rw [E2.out]
    have hG := hG2.keep' hb
    have hB2 : Below w.heap.size w w9 := hB.trans (hb.mono (by have := hB.size; omega))
    clear hb hG2 hB E1 E2
    go_wp2_with fail
    refine (next_any x s _ hG h0 h1).mono ?_
  case' true =>
    clear hm M3
    go_wp2_with fail
    refine (next_any x s _ hG h0 h1).mono ?_
  all_goals
    rintro e w10 ⟨rfl, hb⟩
    have hG2 := hG.keep' hb
    have hB : Below w.heap.size w w10 := hB2.trans (hb.mono (by have := hB2.size; omega))
    clear hb hG hB2
    by_cases hmax : verI x = 1099511627775
    · obtain ⟨e1, e2⟩ := F0.out hmax
      have HM := Lib.hid hmax
      rw [e1, e2]
      clear e1 e2 hmax F0 F1
      go_wp2_with fail
      refine (version_any x _ hG2 h0 h1).mono ?_
      rintro e w11 ⟨rfl, hb⟩
      rw [HM.out]
      go_wp2_with fail
      go_ret
      exact ⟨rfl, hB.trans (hb.mono (by have := hB.size; omega))⟩
    · obtain ⟨e1, e2⟩ := F1.out hmax
      obtain ⟨p0, p1⟩ := verI_in x
      have p2 : verI x < 1099511627775 := by omega
      rw [e1, e2]
      have hL : isL s (verI x + 1) = true := isL_mk s0 (by omega) (by omega) (by omega)
      have V1 := Lib.hid (ver_word (m := false) hL)
      have V2 := Lib.hid (mark_word (m := false) hL)
      have j0 := (wordI_in false s (verI x + 1)).1
      have j1 := (wordI_in false s (verI x + 1)).2
      have hne : Hid (∀ k : Int, 0 ≤ k → k < verI x + 1 → ∀ mk : Bool, ¬ wordI false s (verI x + 1) = wordI mk s k) := Lib.hid fun k k0 k1 mk h => by
        have := (word_inj hL (isL_mk s0 (by omega) k0 (by omega)) h).2.2
        omega
      have V3 : Hid (∀ k : Int, 0 ≤ k → k < verI x + 1 → verI (wordI false 1 k) = k) := Lib.hid fun k k0 k1 => ver_word (isL_mk (by decide) (by decide) k0 (by omega))
      clear e1 e2 hmax F0 F1 hL HL
      generalize wordI false s (verI x + 1) = y at *
      generalize hq : verI x = q at *
      have HQ := Lib.hid hq
      clear hq
      go_wp2_with fail
      refine (version_any x _ hG2 h0 h1).mono ?_
      rintro e w11 ⟨rfl, hb⟩
      rw [HQ.out]
      have hG := hG2.keep' hb
      have hB2 : Below w.heap.size w w11 := hB.trans (hb.mono (by have := hB.size; omega))
      clear hb hG2 hB
      obtain ⟨k, hk, k0, k1⟩ := cut_u c (q + 1) (by omega) (by omega)
      have C1 := Lib.hid (show cmpI (verI y) (verI x) = 1 by rw [V1.out, HQ.out]; exact cmpI_gt (by omega))
      have C2 := Lib.hid (show cmpI (verI x) (verI y) = -1 by rw [V1.out, HQ.out]; exact cmpI_lt (by omega))
      have C3 := Lib.hid (show cmpI (verI (wordI false 1 k)) (verI y) = -1 by rw [V1.out, V3.out k k0 k1]; exact cmpI_lt (by omega))
      have n1 := hne.out k k0 k1 false
      have n2 := hne.out k k0 k1 true
      have t0 := (wordI_in false 1 k).1
      have t1 := (wordI_in false 1 k).2
      have C4 := Lib.hid (show markedW 0 s k = wordI true s k by simp [markedW, markB_zero])
      clear hne V3 V1 HQ
      go_wp2_with fail
      rw [hk]
      clear hk
      refine (newer_any y x _ hG j0 j1 h0 h1).mono ?_
      rintro e w12 ⟨rfl, hb⟩
      rw [C1.out]
      have hG2 := hG.keep' hb
      have hB : Below w.heap.size w w12 := hB2.trans (hb.mono (by have := hB2.size; omega))
      clear hb hG hB2
      go_wp2_with fail
      refine (newer_any x y _ hG2 h0 h1 j0 j1).mono ?_
      rintro e w13 ⟨rfl, hb⟩
      rw [C2.out]
      have hG := hG2.keep' hb
      have hB2 : Below w.heap.size w w13 := hB.trans (hb.mono (by have := hB.size; omega))
      clear hb hG2 hB
      go_wp2_with fail
      refine (to_any s k _ hG).mono ?_
      rintro e w14 ⟨rfl, hb⟩
      have hG2 := hG.keep' hb
      have hB : Below w.heap.size w w14 := hB2.trans (hb.mono (by have := hB2.size; omega))
      clear hb hG hB2
      generalize wordI false s k = T at *
      have b1 : (y != T) = true := by simpa using n1
      go_wp2_with fail
      refine (marked_any 0 s k _ hG2 (by decide) (by decide)).mono ?_
      rintro e w15 ⟨rfl, hb⟩
      rw [C4.out]
      have hG := hG2.keep' hb
      have hB2 : Below w.heap.size w w15 := hB.trans (hb.mono (by have := hB.size; omega))
      clear hb hG2 hB C4
      generalize wordI true s k = U at *
      have b2 : (y != U) = true := by simpa using n2
      go_wp2_with fail
      refine (isMarked_any y _ hG j0 j1).mono ?_
      rintro e w16 ⟨rfl, hb⟩
      rw [V2.out]
      have hG2 := hG.keep' hb
      have hB : Below w.heap.size w w16 := hB2.trans (hb.mono (by have := hB2.size; omega))
      clear hb hG hB2
      go_wp2_with fail
      refine (to_any 1 k _ hG2).mono ?_
      rintro e w17 ⟨rfl, hb⟩
      have hG := hG2.keep' hb
      have hB2 : Below w.heap.size w w17 := hB.trans (hb.mono (by have := hB.size; omega))
      clear hb hG2 hB
      go_wp2_with fail
      refine (newer_any _ y _ hG t0 t1 j0 j1).mono ?_
      rintro e w18 ⟨rfl, hb⟩
      rw [C3.out]
      have hB : Below w.heap.size w w18 := hB2.trans (hb.mono (by have := hB2.size; omega))
      clear hb hG hB2
      go_wp2_with fail
      go_ret
      exact ⟨ret_bool (by simp), hB⟩

theorem own : ownKnob Tryd.prog.godebug = none := by kernel_rfl
theorem laidOut : laidOutB Tryd.prog = true := by kernel_rfl

set_option maxRecDepth 100000 in
theorem lifted (os : Os) (started : os.Started) (H : Type) (enc : TypeId × Value → H) :
    ReturnsInHanded {} Tryd.checked os 6 .any (fun w args => (Rows.linkMarksSpec.pre enc Tryd.prog Tryd.f6 [] false w args ∧ laidMetH Tryd.prog laid3 w) ∧ sizedMet enc Tryd.prog Tryd.f6 (OpenSpec.ofChange Rows.linkMarksSpec) false w args)
      (Rows.linkMarksSpec.post enc Tryd.prog Tryd.f6 false true false false) := by
  refine returnsInHanded_of_change_and (C := Tryd.checked) (X := fun w _ => laidMetH Tryd.prog laid3 w) (fun _ _ _ hh h => h.of_heap hh) own started (by kernel_rfl) Tryd.func6
    (ChangeSpec.witness_shaped (enc := enc) (C := Tryd.checked) (os := os) (X := fun w _ => laidMetH Tryd.prog laid3 w) false (World.doorLaid Tryd.prog 24 os) #[.int .u64 0, .int .i64 0, .int .i64 0, .int .i64 0] 8 rfl (World.shaped_of_RefB (by kernel_rfl) (by kernel_rfl)) (by kernel_rfl) (by kernel_rfl) (by kernel_rfl) (door_met os _)) ?_
  intro W base args ds gs before hval0 hW _ _ hL _
  have hval : ∀ (j : Nat) t v, Tryd.f6.params[j]? = some t → args[j]? = some v → Value.okWide Tryd.prog W .any base t v := hval0
  have hW' := hW
  obtain ⟨p, q, hA0, hV, rfl, hfz, hnd⟩ := hW
  have hA : DataW.TrodAll enc Tryd.prog W 0 (fun _ => true) true Tryd.f6.params.toList args.toList ds p := hA0
  rw [Tryd.params6] at hA hval
  obtain ⟨v0, vs0, d0, ds0, p0, q0, hargs, rfl, rfl, g0, r0⟩ := trodAll_cons hA
  obtain ⟨v1, vs1, d1, ds1, p1, q1, rfl, rfl, rfl, g1, r1⟩ := trodAll_cons r0
  obtain ⟨v2, vs2, d2, ds2, p2, q2, rfl, rfl, rfl, g2, r2⟩ := trodAll_cons r1
  obtain ⟨v3, vs3, d3, ds3, p3, q3, rfl, rfl, rfl, g3, r3⟩ := trodAll_cons r2
  obtain ⟨rfl, rfl, rfl⟩ := trodAll_nil r3
  obtain rfl : args = #[v0, v1, v2, v3] := by cases args; simp_all
  obtain ⟨rfl, rfl⟩ := trodVars_none hV
  obtain ⟨a0, rfl, rfl, rfl, w0⟩ := open_int Tryd.underlying24 (hval 0 24 v0 rfl rfl) g0
  have h0 := u64_in w0
  obtain ⟨a1, rfl, rfl, rfl, w1⟩ := open_int Tryd.underlying3 (hval 1 3 v1 rfl rfl) g1
  obtain ⟨a2, rfl, rfl, rfl, w2⟩ := open_int Tryd.underlying3 (hval 2 3 v2 rfl rfl) g2
  obtain ⟨a3, rfl, rfl, rfl, w3⟩ := open_int Tryd.underlying3 (hval 3 3 v3 rfl rfl) g3
  clear hA0 hval0
  have hG := glo_of_laid hL
  refine (walk a0 a1 a2 a3 h0.1 h0.2 W hG).mono fun e W' ⟨he, hg⟩ => ?_
  subst he
  exact ⟨_, rfl, law_post laidOut (by kernel_rfl) (by kernel_rfl) Tryd.underlying4 rfl rfl hW' hg⟩

theorem over : Rows.linkMarksRow.holds Tryd.pinned (OpenSpec.ofChange Rows.linkMarksSpec) :=
  OpenClaim.holds_of_wide 6 Tryd.f6 rfl rfl rfl rfl rfl rfl rfl ⟨rfl, rfl, rfl, rfl, rfl⟩ rfl rfl rfl rfl rfl (by kernel_rfl) Tryd.func6 (by kernel_rfl)
    (of_decide_eq_true (by kernel_rfl)) (by unfold Func.isWrapper; first | (rw [if_pos (by decide +kernel)]; kernel_rfl) | (rw [if_neg (by decide +kernel)]; exact ⟨rfl, rfl⟩))
    (fun os started H enc _ => lifted os started H enc)

/-- THE STATEMENT. -/
theorem proved : Rows.LinkMarksCardSaid :=
  Claim7.holds_tied_plain_at .later [] [.wider, .wider, .wider] true _ false
    over (fun _ h => by cases h) (by kernel_rfl) (fun _ h => by cases h) linkMarks_row_tie rfl ⟨rfl, rfl⟩ (by kernel_rfl) rfl
    (fun f fn hf hfn => by
      obtain rfl : f = 6 := Option.some.inj ((show Tryd.prog.funcNamed "revenant/revenantlaw02.LinkMarks" = some 6 by kernel_rfl).symm.trans hf) |>.symm
      obtain rfl : fn = Tryd.f6 := (Option.some.inj (Tryd.func6.symm.trans hfn)).symm
      exact ⟨by kernel_rfl, fun j t ht => by
        rw [Tryd.params6] at ht
        have hm : t ∈ [24, 3, 3, 3] := by simpa using Array.mem_of_getElem? ht
        have hall : ([24, 3, 3, 3].all fun u => !Tryd.prog.wantsStandIn u) = true := by kernel_rfl
        exact (show Tryd.prog.wantsStandIn t = false by simpa using List.all_eq_true.1 hall t hm)⟩)
    (by kernel_rfl)
#print axioms proved
end Go.Proofs.YtbkdacbpapedgaaDoor.linkMarks
