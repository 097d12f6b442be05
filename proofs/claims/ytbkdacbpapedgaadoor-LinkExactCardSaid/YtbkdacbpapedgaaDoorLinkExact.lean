/- LinkExact: of every link, raw ones too, the word, and of every word the link, are the document's; To and Marked too: so the law answers true, for every input, where the package's three variables hold what the program's text lays in them (tied). -/
import Derived.Test.YtbkdacbpapedgaaDoorLinkW
import Derived.Test.YtbkdacbpapedgaaDoorLinkG
import Derived.Test.YtbkdacbpapedgaaDoorCards
import Derived.SevenTiedAt
namespace Go.Proofs.YtbkdacbpapedgaaDoor.linkExact
open Go.ChangeShapes Go.WideShapes Go.ChangeAt Go.RowKit Go.Joins

/-- What the law's blocks hold, at n, and that nothing below is changed. -/
def At (n : Nat) (m : Bool) (s v : Int) (w : World) : Prop := w.cell? ⟨n, 0, none⟩ = some (.bool m) ∧ w.cell? ⟨n, 1, none⟩ = some (.int .i64 s) ∧ w.cell? ⟨n, 2, none⟩ = some (.int .i64 v) ∧ n < w.heap.size
theorem At.over {n : Nat} {m : Bool} {s v : Int} {w w' : World} (h : At n m s v w) (hb : Below w.heap.size w w') : At n m s v w' := by
  obtain ⟨c0, c1, c2, hn⟩ := h
  obtain ⟨d0, d1, d2, -, hn'⟩ := hold3 c0 c1 c2 (Below.refl n w) hn hb
  exact ⟨d0, d1, d2, hn'⟩
theorem At.more {n : Nat} {m : Bool} {s v : Int} {w : World} (h : At n m s v w) (o : Obj) : At n m s v (w.alloc o) := by
  obtain ⟨c0, c1, c2, hn⟩ := h
  exact ⟨by rw [World.cell?_alloc_lt w _ _ hn]; exact c0, by rw [World.cell?_alloc_lt w _ _ hn]; exact c1, by rw [World.cell?_alloc_lt w _ _ hn]; exact c2, by simp; omega⟩
theorem At.lt {n : Nat} {m : Bool} {s v : Int} {w : World} (h : At n m s v w) : n < w.heap.size := h.2.2.2
theorem At.new (m : Bool) (s v : Int) (w : World) (t : TypeId) : At w.heap.size m s v (w.alloc (.cells #[.bool m, .int .i64 s, .int .i64 v] t)) := ⟨by simp, by simp, by simp, by simp⟩

set_option maxRecDepth 100000 in
set_option maxHeartbeats 3200000 in
theorem walk (m : Bool) (s v x : Int) (h0 : 0 ≤ x) (h1 : x ≤ 18446744073709551615) (w : World) (hg : Glo w) :
    Calls Tryd.prog 3 #[.agg #[.bool m, .int .i64 s, .int .i64 v], .int .u64 x] w fun e w' => e = .returned (.bool true) ∧ Below w.heap.size w w' := by
  have hOf : Hid (∀ v' : World, Glo v' → Calls Tryd.prog 9 #[.int .u64 x] v' fun e w' => e = .returned (.agg #[.bool (markB x), .int .i64 (slotI x), .int .i64 (verI x)]) ∧ Below v'.heap.size v' w') := Lib.hid fun v' hv => of_any x v' hv h0 h1
  have hRf : Hid (∀ v' : World, Calls Tryd.prog 10 #[.int .u64 x] v' fun e w' => e = .returned (.agg #[.bool (markB x), .int .i64 (slotI x), .int .i64 (verI x)]) ∧ Below v'.heap.size v' w') := Lib.hid fun v' => refOf_any x v' h0 h1
  have hFm : Hid (∀ v' : World, Calls Tryd.prog 8 #[.agg #[.bool (markB x), .int .i64 (slotI x), .int .i64 (verI x)]] v' fun e w' => e = .returned (.agg #[.bool (markB x), .int .i64 (slotI x), .int .i64 (verI x)]) ∧ Below v'.heap.size v' w') := Lib.hid fun v' => form_any _ _ _ v'
  have hSl : Hid (∀ v' : World, Glo v' → Calls Tryd.prog 15 #[.int .u64 x] v' fun e w' => e = .returned (.int .i64 (slotI x)) ∧ Below v'.heap.size v' w') := Lib.hid fun v' hv => slot_any x v' hv h0 h1
  have hVe : Hid (∀ v' : World, Glo v' → Calls Tryd.prog 16 #[.int .u64 x] v' fun e w' => e = .returned (.int .i64 (verI x)) ∧ Below v'.heap.size v' w') := Lib.hid fun v' hv => version_any x v' hv h0 h1
  have hMk : Hid (∀ v' : World, Glo v' → Calls Tryd.prog 17 #[.int .u64 x] v' fun e w' => e = .returned (.bool (markB x)) ∧ Below v'.heap.size v' w') := Lib.hid fun v' hv => isMarked_any x v' hv h0 h1
  have hMw : Hid (∀ v' : World, Glo v' → Calls Tryd.prog 19 #[.int .u64 x, .int .i64 s, .int .i64 v] v' fun e w' => e = .returned (.int .u64 (markedW x s v)) ∧ Below v'.heap.size v' w') := Lib.hid fun v' hv => marked_any x s v v' hv h0 h1
  have hM1 : Hid (markB x = true → markedW x s v = x) := Lib.hid fun h => by simp [markedW, h]
  have hM2 : Hid (markB x = false → markedW x s v = wordI true s v) := Lib.hid fun h => by simp [markedW, h]
  have hIs1 : Hid (∀ v' : World, Calls Tryd.prog 11 #[.agg #[.bool m, .int .i64 s, .int .i64 v]] v' fun e w' => e = .returned (.bool (isL s v)) ∧ Below v'.heap.size v' w') := Lib.hid fun v' => linkIs_any m s v v'
  have hIs2 : Hid (∀ v' : World, Calls Tryd.prog 12 #[.agg #[.bool m, .int .i64 s, .int .i64 v]] v' fun e w' => e = .returned (.bool (isL s v)) ∧ Below v'.heap.size v' w') := Lib.hid fun v' => refLinkIs_any m s v v'
  have hW1 : Hid (∀ v' : World, Glo v' → Calls Tryd.prog 13 #[.agg #[.bool m, .int .i64 s, .int .i64 v]] v' fun e w' => e = .returned (.int .u64 (wordI m s v)) ∧ Below v'.heap.size v' w') := Lib.hid fun v' hv => word_any m s v v' hv
  have hW2 : Hid (∀ v' : World, Calls Tryd.prog 14 #[.agg #[.bool m, .int .i64 s, .int .i64 v]] v' fun e w' => e = .returned (.int .u64 (wordI m s v)) ∧ Below v'.heap.size v' w') := Lib.hid fun v' => refWord_any m s v v'
  have hW3 : Hid (∀ v' : World, Calls Tryd.prog 14 #[.agg #[.bool true, .int .i64 s, .int .i64 v]] v' fun e w' => e = .returned (.int .u64 (wordI true s v)) ∧ Below v'.heap.size v' w') := Lib.hid fun v' => refWord_any true s v v'
  have hW4 : Hid (∀ v' : World, Calls Tryd.prog 14 #[.agg #[.bool false, .int .i64 s, .int .i64 v]] v' fun e w' => e = .returned (.int .u64 (wordI false s v)) ∧ Below v'.heap.size v' w') := Lib.hid fun v' => refWord_any false s v v'
  have hTo : Hid (∀ v' : World, Glo v' → Calls Tryd.prog 18 #[.int .i64 s, .int .i64 v] v' fun e w' => e = .returned (.int .u64 (wordI false s v)) ∧ Below v'.heap.size v' w') := Lib.hid fun v' hv => to_any s v v' hv
  clear h0 h1
  generalize wordI m s v = A at *
  generalize wordI true s v = B at *
  generalize wordI false s v = C at *
  generalize markedW x s v = M at *
  generalize isL s v = I at *
  generalize markB x = k at *
  generalize slotI x = p at *
  generalize verI x = q at *
  have hA := hg.alloc (.cells #[.bool m, .int .i64 s, .int .i64 v] 23)
  have hO := At.new m s v w 23
  clear hg
  go_enter Tryd.func3, Tryd.ntmps3
  go_wp2_with fail
  refine (awake2 _ hA).mono ?_
  rintro e w1 ⟨rfl, hb⟩
  have hG := hA.keep' hb
  have hP := hO.over hb
  have hB : Below w.heap.size w w1 := ((Below.refl _ _).alloc (Nat.le_refl _) _).trans (hb.mono (by simp))
  clear hb hA hO
  obtain ⟨c0, c1, c2, hn⟩ := id hP
  go_wp2_with fail
  refine (form_any m s v _).mono ?_
  rintro e w2 ⟨rfl, hb⟩
  have hA := hG.keep' hb
  have hO := hP.over hb
  have hB2 : Below w.heap.size w w2 := hB.trans (hb.mono (by have := hB.size; omega))
  clear hb hG hP hB c0 c1 c2 hn
  have hA' := hA.alloc (.cells #[.bool m, .int .i64 s, .int .i64 v] 26)
  have hO' := hO.more (.cells #[.bool m, .int .i64 s, .int .i64 v] 26)
  have hU := At.new m s v w2 26
  have hB : Below w.heap.size w _ := hB2.alloc (by have := hB2.size; omega) (.cells #[.bool m, .int .i64 s, .int .i64 v] 26)
  clear hA hO hB2
  go_wp2_with fail
  refine (hOf.out _ hA').mono ?_
  rintro e w3 ⟨rfl, hb⟩
  have hA := hA'.keep' hb
  have hO := hO'.over hb
  have hV := hU.over hb
  have hB3 : Below w.heap.size w w3 := hB.trans (hb.mono (by have := hB.size; omega))
  have hA3 := hA.alloc (.cells #[.bool k, .int .i64 p, .int .i64 q] 23)
  have hO3 := hO.more (.cells #[.bool k, .int .i64 p, .int .i64 q] 23)
  have hV3 := hV.more (.cells #[.bool k, .int .i64 p, .int .i64 q] 23)
  have hX3 := At.new k p q w3 23
  have hB4 : Below w.heap.size w _ := hB3.alloc (by have := hB3.size; omega) (.cells #[.bool k, .int .i64 p, .int .i64 q] 23)
  clear hb hA' hO' hU hB hA hO hV hB3
  go_wp2_with fail
  refine (hRf.out _).mono ?_
  rintro e w4 ⟨rfl, hb⟩
  have hA := hA3.keep' hb
  have hO := hO3.over hb
  have hV := hV3.over hb
  have hX := hX3.over hb
  have hB5 : Below w.heap.size w w4 := hB4.trans (hb.mono (by have := hB4.size; omega))
  have hA5 := hA.alloc (.cells #[.bool k, .int .i64 p, .int .i64 q] 26)
  have hO5 := hO.more (.cells #[.bool k, .int .i64 p, .int .i64 q] 26)
  have hV5 := hV.more (.cells #[.bool k, .int .i64 p, .int .i64 q] 26)
  have hX5 := hX.more (.cells #[.bool k, .int .i64 p, .int .i64 q] 26)
  have hY5 := At.new k p q w4 26
  have hB6 : Below w.heap.size w _ := hB5.alloc (by have := hB5.size; omega) (.cells #[.bool k, .int .i64 p, .int .i64 q] 26)
  clear hb hA3 hO3 hV3 hX3 hB4 hA hO hV hX hB5
  go_wp2_with fail
  generalize w2.heap.size = n2 at *
  generalize w3.heap.size = n3 at *
  generalize hn4 : w4.heap.size = n4 at *
  clear hn4
  generalize hn1 : w.heap.size = n1 at *
  have HN1 := Lib.hid hn1
  clear hn1
  refine wp_text (S := fun w' => At n1 m s v w' ∧ At n2 m s v w' ∧ At n3 k p q w' ∧ At n4 k p q w' ∧ Below n1 w w' ∧ Glo w') (by kernel_rfl) (by kernel_rfl) ?hS (fun hT => ?_)
  case hS => exact ⟨hO5, hV5, hX5, hY5, hB6.drew, hA5⟩
  have HT := Lib.hid hT
  clear hT hO5 hV5 hX5 hY5 hB6 hA5
  repeat (first
    | (refine text_value (v := ?_) HT.out (by rfl) ?_ ?_; rotate_left; (focus (intro w5 hS; obtain ⟨⟨a0, a1, a2, -⟩, ⟨b0, b1, b2, -⟩, ⟨c0, c1, c2, -⟩, ⟨d0, d1, d2, -⟩, -, -⟩ := hS; go_simp <;> with_reducible rfl)); (try simp only [Act.put, List.setIfInBounds_toArray, List.set_cons_zero, List.set_cons_succ]))
    | (refine text_off HT.out (by rfl) ?_; (try simp only [Act.put, List.setIfInBounds_toArray, List.set_cons_zero, List.set_cons_succ]))
    | (refine text_call (v := ?_) (f := ?_) (args := ?_) HT.out (by rfl) ?_ ?_ ?_; rotate_left 3; (focus (intro w5 hS; go_simp; constructor <;> with_reducible rfl)); (focus (intro w5 hS; obtain ⟨a, b, c, d, hB, hG⟩ := hS; (first | (with_reducible refine (hIs1.out _).mono ?_) | (with_reducible refine (hIs2.out _).mono ?_) | (with_reducible refine (hW1.out _ hG).mono ?_) | (with_reducible refine (hW2.out _).mono ?_) | (with_reducible refine (hFm.out _).mono ?_) | (with_reducible refine (hSl.out _ hG).mono ?_) | (with_reducible refine (hVe.out _ hG).mono ?_) | (with_reducible refine (hMk.out _ hG).mono ?_)); rintro e w6 ⟨rfl, hb5⟩; constructor; with_reducible rfl; exact ⟨a.over hb5, b.over hb5, c.over hb5, d.over hb5, hB.trans (hb5.mono (Nat.le_of_lt a.lt)), hG.keep' hb5⟩)); (try simp only [Act.put, List.setIfInBounds_toArray, List.set_cons_zero, List.set_cons_succ])))
  refine InText.nil fun w5 hS => ?_
  obtain ⟨a, b, c, d, hB, hG⟩ := hS
  clear HT hIs1 hIs2 hW1 hW2 hFm hSl hVe hMk hOf hRf b c
  obtain ⟨a0, a1, a2, a3⟩ := id a
  go_wp2_with fail
  refine (hW3.out _).mono ?_
  rintro e w6 ⟨rfl, hb⟩
  have a' := a.over hb
  have d' := d.over hb
  have hB' : Below n1 w w6 := hB.trans (hb.mono (Nat.le_of_lt a3))
  have hG' := hG.keep' hb
  clear hb a d hB hG a0 a1 a2 a3 hW3
  obtain ⟨d0, d1, d2, d3⟩ := id d'
  cases k
  case' true => have e := hM1.out rfl
  case' false => have e := hM2.out rfl
  all_goals
    subst e
    clear hM1 hM2
    go_wp2_with fail
    refine wp_text (S := fun w' => At n1 m s v w' ∧ Below n1 w w' ∧ Glo w') (by kernel_rfl) (by kernel_rfl) ?hS (fun hT => ?_)
    case hS => exact ⟨a', hB'.drew, hG'⟩
    have HT := Lib.hid hT
    clear hT d0 d1 d2 d3 d' a' hB' hG'
    repeat (first
      | (refine text_value (v := ?_) HT.out (by rfl) ?_ ?_; rotate_left; (focus (intro w5 hS; obtain ⟨⟨a0, a1, a2, -⟩, -, -⟩ := hS; go_simp <;> with_reducible rfl)); (try simp only [Act.put, List.setIfInBounds_toArray, List.set_cons_zero, List.set_cons_succ]))
      | (refine text_off HT.out (by rfl) ?_; (try simp only [Act.put, List.setIfInBounds_toArray, List.set_cons_zero, List.set_cons_succ]))
      | (refine text_call (v := ?_) (f := ?_) (args := ?_) HT.out (by rfl) ?_ ?_ ?_; rotate_left 3; (focus (intro w5 hS; go_simp; constructor <;> with_reducible rfl)); (focus (intro w5 hS; obtain ⟨a, hB, hG⟩ := hS; (first | (with_reducible refine (hTo.out _ hG).mono ?_) | (with_reducible refine (hW4.out _).mono ?_) | (with_reducible refine (hMw.out _ hG).mono ?_)); rintro e w6 ⟨rfl, hb5⟩; constructor; with_reducible rfl; exact ⟨a.over hb5, hB.trans (hb5.mono (Nat.le_of_lt a.lt)), hG.keep' hb5⟩)); (try simp only [Act.put, List.setIfInBounds_toArray, List.set_cons_zero, List.set_cons_succ])))
    refine InText.nil fun w7 hS => ?_
    obtain ⟨-, hB, -⟩ := hS
    go_wp2_with fail
    go_ret
    exact ⟨ret_bool (by simp), by rw [HN1.out]; exact hB⟩

theorem cellsLink : Tryd.prog.cellsOf 23 = 3 := by kernel_rfl

theorem own : ownKnob Tryd.prog.godebug = none := by kernel_rfl
theorem laidOut : laidOutB Tryd.prog = true := by kernel_rfl

set_option maxRecDepth 100000 in
theorem lifted (os : Os) (started : os.Started) (H : Type) (enc : TypeId × Value → H) :
    ReturnsInHanded {} Tryd.checked os 3 .any (fun w args => (Rows.linkExactSpec.pre enc Tryd.prog Tryd.f3 [] false w args ∧ laidMetH Tryd.prog laid3 w) ∧ sizedMet enc Tryd.prog Tryd.f3 (OpenSpec.ofChange Rows.linkExactSpec) false w args)
      (Rows.linkExactSpec.post enc Tryd.prog Tryd.f3 false true false false) := by
  refine returnsInHanded_of_change_and (C := Tryd.checked) (X := fun w _ => laidMetH Tryd.prog laid3 w) (fun _ _ _ hh h => h.of_heap hh) own started (by kernel_rfl) Tryd.func3
    (ChangeSpec.witness_shaped (enc := enc) (C := Tryd.checked) (os := os) (X := fun w _ => laidMetH Tryd.prog laid3 w) false (World.doorLaid Tryd.prog 24 os) #[.agg #[.bool false, .int .i64 0, .int .i64 0], .int .u64 0] 8 rfl (World.shaped_of_RefB (by kernel_rfl) (by kernel_rfl)) (by kernel_rfl) (by kernel_rfl) (by kernel_rfl) (door_met os _)) ?_
  intro W base args ds gs before hval0 hW _ _ hL _
  have hval : ∀ (j : Nat) t v, Tryd.f3.params[j]? = some t → args[j]? = some v → Value.okWide Tryd.prog W .any base t v := hval0
  have hW' := hW
  obtain ⟨p, q, hA0, hV, rfl, hfz, hnd⟩ := hW
  have hA : DataW.TrodAll enc Tryd.prog W 0 (fun _ => true) true Tryd.f3.params.toList args.toList ds p := hA0
  rw [Tryd.params3] at hA hval
  obtain ⟨v0, vs0, d0, ds0, p0, q0, hargs, rfl, rfl, g0, r0⟩ := trodAll_cons hA
  obtain ⟨v1, vs1, d1, ds1, p1, q1, rfl, rfl, rfl, g1, r1⟩ := trodAll_cons r0
  obtain ⟨rfl, rfl, rfl⟩ := trodAll_nil r1
  obtain rfl : args = #[v0, v1] := by cases args; simp_all
  obtain ⟨rfl, rfl⟩ := trodVars_none hV
  obtain ⟨a1, rfl, rfl, rfl, w1⟩ := open_int Tryd.underlying24 (hval 1 24 v1 rfl rfl) g1
  have h1 := u64_in w1
  obtain ⟨e0a, e0b, e0c, y0a, y0b, y0c, n0, rfl, rfl, rfl, z0a, z0b, z0c⟩ := open_agg3 Tryd.underlying23 (by kernel_rfl) cellsLink (hval 0 23 v0 rfl rfl) g0
  obtain ⟨m0, t0a, rfl⟩ := DataW.trod_bool Tryd.underlying4 z0a
  obtain ⟨s0, t0b, rfl, w0b⟩ := DataW.trod_int Tryd.underlying3 z0b
  obtain ⟨u0, t0c, rfl, w0c⟩ := DataW.trod_int Tryd.underlying3 z0c
  simp at t0a t0b t0c
  subst t0a t0b t0c
  clear hA0 hval0
  have hG := glo_of_laid hL
  refine (walk m0 s0 u0 a1 h1.1 h1.2 W hG).mono fun e W' ⟨he, hg⟩ => ?_
  subst he
  exact ⟨_, rfl, law_post laidOut (by kernel_rfl) (by kernel_rfl) Tryd.underlying4 rfl rfl hW' hg⟩

theorem over : Rows.linkExactRow.holds Tryd.pinned (OpenSpec.ofChange Rows.linkExactSpec) :=
  OpenClaim.holds_of_wide 3 Tryd.f3 rfl rfl rfl rfl rfl rfl rfl ⟨rfl, rfl, rfl, rfl, rfl⟩ rfl rfl rfl rfl rfl (by kernel_rfl) Tryd.func3 (by kernel_rfl)
    (of_decide_eq_true (by kernel_rfl)) (by unfold Func.isWrapper; first | (rw [if_pos (by decide +kernel)]; kernel_rfl) | (rw [if_neg (by decide +kernel)]; exact ⟨rfl, rfl⟩))
    (fun os started H enc _ => lifted os started H enc)

/-- THE STATEMENT. -/
theorem proved : Rows.LinkExactCardSaid :=
  Claim7.holds_tied_plain_at .later [] [.wider, .wider, .wider] true _ false
    over (fun _ h => by cases h) (by kernel_rfl) (fun _ h => by cases h) linkExact_row_tie rfl ⟨rfl, rfl⟩ (by kernel_rfl) rfl
    (fun f fn hf hfn => by
      obtain rfl : f = 3 := Option.some.inj ((show Tryd.prog.funcNamed "revenant/revenantlaw02.LinkExact" = some 3 by kernel_rfl).symm.trans hf) |>.symm
      obtain rfl : fn = Tryd.f3 := (Option.some.inj (Tryd.func3.symm.trans hfn)).symm
      exact ⟨by kernel_rfl, fun j t ht => by
        rw [Tryd.params3] at ht
        have hm : t ∈ [23, 24] := by simpa using Array.mem_of_getElem? ht
        have hall : ([23, 24].all fun u => !Tryd.prog.wantsStandIn u) = true := by kernel_rfl
        exact (show Tryd.prog.wantsStandIn t = false by simpa using List.all_eq_true.1 hall t hm)⟩)
    (by kernel_rfl)
#print axioms proved
end Go.Proofs.YtbkdacbpapedgaaDoor.linkExact
