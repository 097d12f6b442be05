/- LinkNext: for every two words and every slot, the next version's link, or why there is none, and how the two versions stand, are the document's: so the law answers true, for every input, where the package's three variables hold what the program's text lays in them (tied). -/
import Derived.Test.YtbkdacbpapedgaaDoorLinkW
import Derived.Test.YtbkdacbpapedgaaDoorLinkG
import Derived.Test.YtbkdacbpapedgaaDoorCards
import Derived.SevenTiedAt
namespace Go.Proofs.YtbkdacbpapedgaaDoor.linkNext
open Go.ChangeShapes Go.WideShapes Go.ChangeAt Go.RowKit Go.Joins

/-- The third field of a link by value. -/
theorem third (v : World) (m : Bool) (s b : Int) : (Instr.field 26 (.agg #[.bool m, .int .i64 s, .int .i64 b]) 2).run Tryd.prog v = .ok (.int .i64 b) v := by kernel_rfl

set_option maxRecDepth 100000 in
set_option maxHeartbeats 3200000 in
theorem walk (x s y : Int) (h0 : 0 ≤ x) (h1 : x ≤ 18446744073709551615) (k0 : 0 ≤ y) (k1 : y ≤ 18446744073709551615) (w : World) (hg : Glo w) :
    Calls Tryd.prog 4 #[.int .u64 x, .int .i64 s, .int .u64 y] w fun e w' => e = .returned (.bool true) ∧ Below w.heap.size w w' := by
  obtain ⟨p0, p1⟩ := verI_in x
  obtain ⟨p2, p3⟩ := verI_in y
  have HS : Hid (isS s = true → nextE x s = (if verI x = 1099511627775 then 7 else 0) ∧ nextW x s = (if verI x = 1099511627775 then 0 else wordI false s (verI x + 1))) := Lib.hid fun h => by simp [nextE, nextW, h]
  have HN : Hid (isS s = false → nextE x s = 3 ∧ nextW x s = 0) := Lib.hid fun h => by simp [nextE, nextW, h]
  go_enter Tryd.func4, Tryd.ntmps4
  go_wp2_with fail
  refine (awake2 _ hg).mono ?_
  rintro e w1 ⟨rfl, hb1⟩
  have hg1 := hg.keep' hb1
  go_wp2_with fail
  refine (next_any x s _ hg1 h0 h1).mono ?_
  rintro e w2 ⟨rfl, hb2⟩
  have hg2 := hg1.keep' hb2
  have hB : Below w.heap.size w w2 := hb1.trans (hb2.mono (by have := hb1.size; omega))
  clear hb1 hb2 hg1 hg
  go_wp2_with fail
  refine (refOf_any x _ h0 h1).mono ?_
  rintro e w3 ⟨rfl, hb3⟩
  have hg3 := hg2.keep' hb3
  have hB3 : Below w.heap.size w w3 := hB.trans (hb3.mono (by have := hB.size; omega))
  clear hb3 hg2 hB
  go_wp2_with fail
  refine (refOf_any y _ k0 k1).mono ?_
  rintro e w4 ⟨rfl, hb4⟩
  obtain ⟨c0, c1, c2, hB4, hs4⟩ := hold3 (n := w3.heap.size) (w := w3) (x := .bool (markB x)) (y := .int .i64 (slotI x)) (z := .int .i64 (verI x)) (by simp) (by simp) (by simp) ((Below.refl _ _).alloc (Nat.le_refl _) _) (by simp) hb4
  have hg4 := (hg3.alloc _).keep' hb4
  have hB5 : Below w.heap.size w w4 := hB3.trans (hB4.mono (by have := hB3.size; omega))
  clear hb4 hg3 hB3 hB4
  have hcmp : (verI x < verI y → cmpI (verI x) (verI y) = -1) ∧ (verI y < verI x → cmpI (verI x) (verI y) = 1) ∧ (verI x = verI y → cmpI (verI x) (verI y) = 0) := ⟨cmpI_lt, cmpI_gt, fun h => by rw [h]; exact cmpI_self _⟩
  have HC := Lib.hid hcmp
  clear hcmp
  have HNW : Hid (∀ v : World, Glo v → Calls Tryd.prog 21 #[.int .u64 x, .int .u64 y] v fun e w' => e = .returned (.int .i64 (cmpI (verI x) (verI y))) ∧ Below v.heap.size v w') := Lib.hid fun v hv => newer_any x y v hv h0 h1 k0 k1
  have hcase : (verI x < verI y ∧ cmpI (verI x) (verI y) = -1) ∨ (verI y < verI x ∧ cmpI (verI x) (verI y) = 1) ∨ (¬ verI x < verI y ∧ ¬ verI y < verI x ∧ cmpI (verI x) (verI y) = 0) := by
    have := HC.out
    rcases Int.lt_trichotomy (verI x) (verI y) with h | h | h
    · exact Or.inl ⟨h, this.1 h⟩
    · exact Or.inr (Or.inr ⟨by omega, by omega, this.2.2 h⟩)
    · exact Or.inr (Or.inl ⟨h, this.2.1 h⟩)
  have hslot : (s < 0 ∧ nextE x s = 3 ∧ nextW x s = 0) ∨ (¬ s < 0 ∧ 8388607 < s ∧ nextE x s = 3 ∧ nextW x s = 0) ∨ (¬ s < 0 ∧ ¬ 8388607 < s ∧ verI x = 1099511627775 ∧ nextE x s = 7 ∧ nextW x s = 0) ∨
      (¬ s < 0 ∧ ¬ 8388607 < s ∧ ¬ verI x = 1099511627775 ∧ nextE x s = 0 ∧ nextW x s = wordI false s (verI x + 1)) := by
    by_cases q1 : s < 0
    · exact Or.inl ⟨q1, HN.out (by simp [isS]; omega)⟩
    · by_cases q2 : 8388607 < s
      · exact Or.inr (Or.inl ⟨q1, q2, HN.out (by simp [isS]; omega)⟩)
      · have := HS.out (isS_mk (by omega) (by omega))
        by_cases q3 : verI x = 1099511627775
        · rw [if_pos q3, if_pos q3] at this
          exact Or.inr (Or.inr (Or.inl ⟨q1, q2, q3, this⟩))
        · rw [if_neg q3, if_neg q3] at this
          exact Or.inr (Or.inr (Or.inr ⟨q1, q2, q3, this⟩))
  clear HC HS HN
  generalize cmpI (verI x) (verI y) = C at *
  generalize verI y = b at *
  generalize nextE x s = E at *
  generalize nextW x s = N at *
  generalize verI x = a at *
  rcases hcase with ⟨hlt, rfl⟩ | ⟨hgt, rfl⟩ | ⟨hlt, hgt, rfl⟩ <;> rcases hslot with ⟨q1, rfl, rfl⟩ | ⟨q1, q2, rfl, rfl⟩ | ⟨q1, q2, rfl, rfl, rfl⟩ | ⟨q1, q2, q3, rfl, rfl⟩
  all_goals first
    | (exfalso; omega)
    | (have hthird := third
       go_wp2_with fail
       refine (HNW.out _ hg4).mono ?_
       rintro e w5 ⟨rfl, hb5⟩
       obtain ⟨d0, d1, d2, -, -⟩ := hold3 c0 c1 c2 (Below.refl _ _) hs4 hb5
       have hB6 : Below w.heap.size w w5 := hB5.trans (hb5.mono (by have := hB5.size; omega))
       clear hb5 HNW hg4 hB5 c0 c1 c2 hs4 hthird
       go_wp2_with fail
       first
         | (go_ret; exact ⟨ret_bool (by simp), hB6⟩)
         | (refine (refWord_any false s (a + 1) _).mono ?_
            rintro e w6 ⟨rfl, hb6⟩
            go_wp2_with fail
            go_ret
            exact ⟨ret_bool (by simp), hB6.trans (hb6.mono (by have := hB6.size; omega))⟩))

theorem own : ownKnob Tryd.prog.godebug = none := by kernel_rfl
theorem laidOut : laidOutB Tryd.prog = true := by kernel_rfl

set_option maxRecDepth 100000 in
theorem lifted (os : Os) (started : os.Started) (H : Type) (enc : TypeId × Value → H) :
    ReturnsInHanded {} Tryd.checked os 4 .any (fun w args => (Rows.linkNextSpec.pre enc Tryd.prog Tryd.f4 [] false w args ∧ laidMetH Tryd.prog laid3 w) ∧ sizedMet enc Tryd.prog Tryd.f4 (OpenSpec.ofChange Rows.linkNextSpec) false w args)
      (Rows.linkNextSpec.post enc Tryd.prog Tryd.f4 false true false false) := by
  refine returnsInHanded_of_change_and (C := Tryd.checked) (X := fun w _ => laidMetH Tryd.prog laid3 w) (fun _ _ _ hh h => h.of_heap hh) own started (by kernel_rfl) Tryd.func4
    (ChangeSpec.witness_shaped (enc := enc) (C := Tryd.checked) (os := os) (X := fun w _ => laidMetH Tryd.prog laid3 w) false (World.doorLaid Tryd.prog 24 os) #[.int .u64 0, .int .i64 0, .int .u64 0] 8 rfl (World.shaped_of_RefB (by kernel_rfl) (by kernel_rfl)) (by kernel_rfl) (by kernel_rfl) (by kernel_rfl) (door_met os _)) ?_
  intro W base args ds gs before hval0 hW _ _ hL _
  have hval : ∀ (j : Nat) t v, Tryd.f4.params[j]? = some t → args[j]? = some v → Value.okWide Tryd.prog W .any base t v := hval0
  have hW' := hW
  obtain ⟨p, q, hA0, hV, rfl, hfz, hnd⟩ := hW
  have hA : DataW.TrodAll enc Tryd.prog W 0 (fun _ => true) true Tryd.f4.params.toList args.toList ds p := hA0
  rw [Tryd.params4] at hA hval
  obtain ⟨v0, vs0, d0, ds0, p0, q0, hargs, rfl, rfl, g0, r0⟩ := trodAll_cons hA
  obtain ⟨v1, vs1, d1, ds1, p1, q1, rfl, rfl, rfl, g1, r1⟩ := trodAll_cons r0
  obtain ⟨v2, vs2, d2, ds2, p2, q2, rfl, rfl, rfl, g2, r2⟩ := trodAll_cons r1
  obtain ⟨rfl, rfl, rfl⟩ := trodAll_nil r2
  obtain rfl : args = #[v0, v1, v2] := by cases args; simp_all
  obtain ⟨rfl, rfl⟩ := trodVars_none hV
  obtain ⟨a0, rfl, rfl, rfl, w0⟩ := open_int Tryd.underlying24 (hval 0 24 v0 rfl rfl) g0
  have h0 := u64_in w0
  obtain ⟨a1, rfl, rfl, rfl, w1⟩ := open_int Tryd.underlying3 (hval 1 3 v1 rfl rfl) g1
  have h1 := i64_in w1
  obtain ⟨a2, rfl, rfl, rfl, w2⟩ := open_int Tryd.underlying24 (hval 2 24 v2 rfl rfl) g2
  have h2 := u64_in w2
  clear hA0 hval0
  have hG := glo_of_laid hL
  refine (walk a0 a1 a2 h0.1 h0.2 h2.1 h2.2 W hG).mono fun e W' ⟨he, hg⟩ => ?_
  subst he
  exact ⟨_, rfl, law_post laidOut (by kernel_rfl) (by kernel_rfl) Tryd.underlying4 rfl rfl hW' hg⟩

theorem over : Rows.linkNextRow.holds Tryd.pinned (OpenSpec.ofChange Rows.linkNextSpec) :=
  OpenClaim.holds_of_wide 4 Tryd.f4 rfl rfl rfl rfl rfl rfl rfl ⟨rfl, rfl, rfl, rfl, rfl⟩ rfl rfl rfl rfl rfl (by kernel_rfl) Tryd.func4 (by kernel_rfl)
    (of_decide_eq_true (by kernel_rfl)) (by unfold Func.isWrapper; first | (rw [if_pos (by decide +kernel)]; kernel_rfl) | (rw [if_neg (by decide +kernel)]; exact ⟨rfl, rfl⟩))
    (fun os started H enc _ => lifted os started H enc)

/-- THE STATEMENT. -/
theorem proved : Rows.LinkNextCardSaid :=
  Claim7.holds_tied_plain_at .later [] [.wider, .wider, .wider] true _ false
    over (fun _ h => by cases h) (by kernel_rfl) (fun _ h => by cases h) linkNext_row_tie rfl ⟨rfl, rfl⟩ (by kernel_rfl) rfl
    (fun f fn hf hfn => by
      obtain rfl : f = 4 := Option.some.inj ((show Tryd.prog.funcNamed "revenant/revenantlaw02.LinkNext" = some 4 by kernel_rfl).symm.trans hf) |>.symm
      obtain rfl : fn = Tryd.f4 := (Option.some.inj (Tryd.func4.symm.trans hfn)).symm
      exact ⟨by kernel_rfl, fun j t ht => by
        rw [Tryd.params4] at ht
        have hm : t ∈ [24, 3, 24] := by simpa using Array.mem_of_getElem? ht
        have hall : ([24, 3, 24].all fun u => !Tryd.prog.wantsStandIn u) = true := by kernel_rfl
        exact (show Tryd.prog.wantsStandIn t = false by simpa using List.all_eq_true.1 hall t hm)⟩)
    (by kernel_rfl)
#print axioms proved
end Go.Proofs.YtbkdacbpapedgaaDoor.linkNext
