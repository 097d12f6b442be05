/- LinkBack: of every two links and every word, each word is a link's, and that link's word; a link that can be is its word's link; two that can be have one word just if they are one: so the law answers true, for every input, where the package's three variables hold what the program's text lays in them (tied). -/
import Derived.Test.YtbkdacbpapedgaaDoorLinkW
import Derived.Test.YtbkdacbpapedgaaDoorLinkG
import Derived.Test.YtbkdacbpapedgaaDoorCards
import Derived.SevenTiedAt
namespace Go.Proofs.YtbkdacbpapedgaaDoor.linkBack
open Go.ChangeShapes Go.WideShapes Go.ChangeAt Go.RowKit Go.Joins

/-- Two blocks of three cells, and the variables, over a call. -/
theorem hold6 {n k : Nat} {w w1 w2 : World} {x y z x' y' z' : Value} (hb : Below w1.heap.size w1 w2) (c0 : w1.cell? ⟨n, 0, none⟩ = some x) (c1 : w1.cell? ⟨n, 1, none⟩ = some y) (c2 : w1.cell? ⟨n, 2, none⟩ = some z)
    (d0 : w1.cell? ⟨k, 0, none⟩ = some x') (d1 : w1.cell? ⟨k, 1, none⟩ = some y') (d2 : w1.cell? ⟨k, 2, none⟩ = some z') (hB : Below n w w1) (hn : n < w1.heap.size) (hk : k < w1.heap.size) (hg : Glo w1) :
    w2.cell? ⟨n, 0, none⟩ = some x ∧ w2.cell? ⟨n, 1, none⟩ = some y ∧ w2.cell? ⟨n, 2, none⟩ = some z ∧ w2.cell? ⟨k, 0, none⟩ = some x' ∧ w2.cell? ⟨k, 1, none⟩ = some y' ∧ w2.cell? ⟨k, 2, none⟩ = some z' ∧
      Below n w w2 ∧ n < w2.heap.size ∧ k < w2.heap.size ∧ Glo w2 := by
  obtain ⟨a0, a1, a2, hb1, hn1⟩ := hold3 c0 c1 c2 hB hn hb
  obtain ⟨b0, b1, b2, -, hk1⟩ := hold3 d0 d1 d2 (Below.refl k w1) hk hb
  exact ⟨a0, a1, a2, b0, b1, b2, hb1, hn1, hk1, hg.keep' hb⟩

set_option maxRecDepth 100000 in
set_option maxHeartbeats 3200000 in
theorem walk (m : Bool) (s v : Int) (n : Bool) (t u x : Int) (h0 : 0 ≤ x) (h1 : x ≤ 18446744073709551615) (w : World) (hg : Glo w) :
    Calls Tryd.prog 5 #[.agg #[.bool m, .int .i64 s, .int .i64 v], .agg #[.bool n, .int .i64 t, .int .i64 u], .int .u64 x] w fun e w' => e = .returned (.bool true) ∧ Below w.heap.size w w' := by
  have hIs : Hid (∀ v : World, Calls Tryd.prog 11 #[.agg #[.bool (markB x), .int .i64 (slotI x), .int .i64 (verI x)]] v fun e w' => e = .returned (.bool true) ∧ Below v.heap.size v w') :=
    Lib.hid fun v => by have := linkIs_any (markB x) (slotI x) (verI x) v; rwa [isL_of x] at this
  have hWd : Hid (∀ v : World, Glo v → Calls Tryd.prog 13 #[.agg #[.bool (markB x), .int .i64 (slotI x), .int .i64 (verI x)]] v fun e w' => e = .returned (.int .u64 x) ∧ Below v.heap.size v w') :=
    Lib.hid fun v hv => by have := word_any (markB x) (slotI x) (verI x) v hv; rwa [word_of x h0 h1] at this
  have hA := (hg.alloc (.cells #[.bool m, .int .i64 s, .int .i64 v] 23)).alloc (.cells #[.bool n, .int .i64 t, .int .i64 u] 23)
  clear hg
  go_enter Tryd.func5, Tryd.ntmps5
  go_wp2_with fail
  refine (awake2 _ hA).mono ?_
  rintro e w1 ⟨rfl, hb⟩
  obtain ⟨c0, c1, c2, d0, d1, d2, hB, hs, hs', hG⟩ := hold6 (n := w.heap.size) (k := w.heap.size + 1) (w := w) (x := .bool m) (y := .int .i64 s) (z := .int .i64 v) (x' := .bool n) (y' := .int .i64 t) (z' := .int .i64 u) hb (by simp) (by simp) (by simp) (by simp) (by simp) (by simp) (((Below.refl _ _).alloc (Nat.le_refl _) _).alloc (by simp) _) (by simp; omega) (by simp) hA
  clear hb hA
  go_wp2_with fail
  refine (of_any x _ hG h0 h1).mono ?_
  rintro e w2 ⟨rfl, hb⟩
  obtain ⟨a0, a1, a2, b0, b1, b2, hB2, hs2, hs2', hG2⟩ := hold6 hb c0 c1 c2 d0 d1 d2 hB hs hs' hG
  clear hb c0 c1 c2 d0 d1 d2 hB hs hs' hG
  obtain ⟨e0, e1, e2⟩ : (w2.alloc (.cells #[.bool (markB x), .int .i64 (slotI x), .int .i64 (verI x)] 23)).cell? ⟨w2.heap.size, 0, none⟩ = some (.bool (markB x)) ∧ (w2.alloc (.cells #[.bool (markB x), .int .i64 (slotI x), .int .i64 (verI x)] 23)).cell? ⟨w2.heap.size, 1, none⟩ = some (.int .i64 (slotI x)) ∧
      (w2.alloc (.cells #[.bool (markB x), .int .i64 (slotI x), .int .i64 (verI x)] 23)).cell? ⟨w2.heap.size, 2, none⟩ = some (.int .i64 (verI x)) := ⟨by simp, by simp, by simp⟩
  go_wp2_with fail
  refine (hIs.out _).mono ?_
  rintro e w3 ⟨rfl, hb⟩
  obtain ⟨g0, g1, g2, -, hs7⟩ := hold3 e0 e1 e2 (Below.refl w2.heap.size _) (by simp) hb
  obtain ⟨c0, c1, c2, d0, d1, d2, hB, hs, hs', hG⟩ := hold6 hb (by rw [World.cell?_alloc_lt w2 _ _ hs2]; exact a0) (by rw [World.cell?_alloc_lt w2 _ _ hs2]; exact a1) (by rw [World.cell?_alloc_lt w2 _ _ hs2]; exact a2) (by rw [World.cell?_alloc_lt w2 _ _ hs2']; exact b0) (by rw [World.cell?_alloc_lt w2 _ _ hs2']; exact b1) (by rw [World.cell?_alloc_lt w2 _ _ hs2']; exact b2)
    (hB2.alloc (by omega) _) (by simp; omega) (by simp; omega) (hG2.alloc _)
  clear hb e0 e1 e2 a0 a1 a2 b0 b1 b2 hB2 hs2 hs2' hG2
  go_wp2_with fail
  refine (hWd.out _ hG).mono ?_
  rintro e w4 ⟨rfl, hb⟩
  obtain ⟨a0, a1, a2, b0, b1, b2, hB2, hs2, hs2', hG2⟩ := hold6 hb c0 c1 c2 d0 d1 d2 hB hs hs' hG
  clear hb c0 c1 c2 d0 d1 d2 hB hs hs' hG g0 g1 g2 hs7
  go_wp2_with fail
  refine (linkIs_any m s v _).mono ?_
  rintro e w5 ⟨rfl, hb⟩
  obtain ⟨c0, c1, c2, d0, d1, d2, hB, hs, hs', hG⟩ := hold6 hb a0 a1 a2 b0 b1 b2 hB2 hs2 hs2' hG2
  clear hb a0 a1 a2 b0 b1 b2 hB2 hs2 hs2' hG2
  cases hI : isL s v
  · go_wp2_with fail
    go_ret
    exact ⟨rfl, hB⟩
  have HI := Lib.hid hI
  clear hI
  go_wp2_with fail
  refine (linkIs_any n t u _).mono ?_
  rintro e w6 ⟨rfl, hb⟩
  obtain ⟨a0, a1, a2, b0, b1, b2, hB2, hs2, hs2', hG2⟩ := hold6 hb c0 c1 c2 d0 d1 d2 hB hs hs' hG
  clear hb c0 c1 c2 d0 d1 d2 hB hs hs' hG
  cases hJ : isL t u
  · go_wp2_with fail
    go_ret
    exact ⟨rfl, hB2⟩
  have HJ := Lib.hid hJ
  clear hJ
  have hOf : Hid (∀ v' : World, Glo v' → Calls Tryd.prog 9 #[.int .u64 (wordI m s v)] v' fun e w' => e = .returned (.agg #[.bool m, .int .i64 s, .int .i64 v]) ∧ Below v'.heap.size v' w') :=
    Lib.hid fun v' hv => by have := of_any (wordI m s v) v' hv (wordI_in m s v).1 (wordI_in m s v).2; rwa [mark_word HI.out, slot_word HI.out, ver_word HI.out] at this
  have hW1 : Hid (∀ v' : World, Glo v' → Calls Tryd.prog 13 #[.agg #[.bool m, .int .i64 s, .int .i64 v]] v' fun e w' => e = .returned (.int .u64 (wordI m s v)) ∧ Below v'.heap.size v' w') := Lib.hid fun v' hv => word_any m s v v' hv
  have hW2 : Hid (∀ v' : World, Glo v' → Calls Tryd.prog 13 #[.agg #[.bool n, .int .i64 t, .int .i64 u]] v' fun e w' => e = .returned (.int .u64 (wordI n t u)) ∧ Below v'.heap.size v' w') := Lib.hid fun v' hv => word_any n t u v' hv
  have hInj : Hid (wordI m s v = wordI n t u → m = n ∧ s = t ∧ v = u) := Lib.hid fun h => word_inj HI.out HJ.out h
  have hRef : Hid (m = n ∧ s = t ∧ v = u → wordI m s v = wordI n t u) := Lib.hid fun h => by rw [h.1, h.2.1, h.2.2]
  clear HI HJ hIs hWd
  generalize wordI m s v = A at *
  generalize wordI n t u = B at *
  go_wp2_with fail
  refine wp_text (S := fun w' => w'.cell? ⟨w.heap.size, 0, none⟩ = some (.bool m) ∧ w'.cell? ⟨w.heap.size, 1, none⟩ = some (.int .i64 s) ∧ w'.cell? ⟨w.heap.size, 2, none⟩ = some (.int .i64 v) ∧
      w'.cell? ⟨w.heap.size + 1, 0, none⟩ = some (.bool n) ∧ w'.cell? ⟨w.heap.size + 1, 1, none⟩ = some (.int .i64 t) ∧ w'.cell? ⟨w.heap.size + 1, 2, none⟩ = some (.int .i64 u) ∧ Below w.heap.size w w' ∧ w.heap.size < w'.heap.size ∧ w.heap.size + 1 < w'.heap.size ∧ Glo w') (by kernel_rfl) (by kernel_rfl) ?hS (fun hT => ?_)
  case hS => exact ⟨a0, a1, a2, b0, b1, b2, hB2.drew, hs2, hs2', hG2⟩
  have HT := Lib.hid hT
  clear hT a0 a1 a2 b0 b1 b2 hB2 hs2 hs2' hG2
  repeat (first
    | (refine text_value (v := ?_) HT.out (by rfl) ?_ ?_; rotate_left; (focus (intro w5 hS; go_simp <;> with_reducible rfl)); (try simp only [Act.put, List.setIfInBounds_toArray, List.set_cons_zero, List.set_cons_succ]))
    | (refine text_value (v := .bool (decide (m = n ∧ s = t ∧ v = u))) HT.out (by rfl) ?_ ?_; (focus (intro w5 hS; go_simp; by_cases q1 : m = n <;> by_cases q2 : s = t <;> by_cases q3 : v = u <;> simp [q1, q2, q3])); (try simp only [Act.put, List.setIfInBounds_toArray, List.set_cons_zero, List.set_cons_succ]))
    | (refine text_off HT.out (by rfl) ?_; (try simp only [Act.put, List.setIfInBounds_toArray, List.set_cons_zero, List.set_cons_succ]))
    | (refine text_call (v := ?_) (f := ?_) (args := ?_) HT.out (by rfl) ?_ ?_ ?_; rotate_left 3; (focus (intro w5 hS; go_simp; constructor <;> with_reducible rfl)); (focus (intro w5 hS; obtain ⟨s0, s1, s2, s3, s4, s5, s6, s7, s8, s9⟩ := hS; (first | (with_reducible refine (hOf.out _ s9).mono ?_) | (with_reducible refine (hW1.out _ s9).mono ?_) | (with_reducible refine (hW2.out _ s9).mono ?_)); rintro e w6 ⟨rfl, hb5⟩; constructor; with_reducible rfl; exact hold6 hb5 s0 s1 s2 s3 s4 s5 s6 s7 s8 s9)); (try simp only [Act.put, List.setIfInBounds_toArray, List.set_cons_zero, List.set_cons_succ])))
  refine InText.nil fun w5 hS => ?_
  obtain ⟨-, -, -, -, -, -, hB, -, -, -⟩ := hS
  go_wp2_with fail
  go_ret
  refine ⟨ret_bool ?_, hB⟩
  have h1 := hInj.out
  have h2 := hRef.out
  rw [beq_iff_eq, Bool.eq_iff_iff]
  simp only [beq_iff_eq, Bool.and_eq_true, decide_eq_true_eq]
  exact ⟨h1, h2⟩

theorem cellsLink : Tryd.prog.cellsOf 23 = 3 := by kernel_rfl

theorem own : ownKnob Tryd.prog.godebug = none := by kernel_rfl
theorem laidOut : laidOutB Tryd.prog = true := by kernel_rfl

set_option maxRecDepth 100000 in
theorem lifted (os : Os) (started : os.Started) (H : Type) (enc : TypeId × Value → H) :
    ReturnsInHanded {} Tryd.checked os 5 .any (fun w args => (Rows.linkBackSpec.pre enc Tryd.prog Tryd.f5 [] false w args ∧ laidMetH Tryd.prog laid3 w) ∧ sizedMet enc Tryd.prog Tryd.f5 (OpenSpec.ofChange Rows.linkBackSpec) false w args)
      (Rows.linkBackSpec.post enc Tryd.prog Tryd.f5 false true false false) := by
  refine returnsInHanded_of_change_and (C := Tryd.checked) (X := fun w _ => laidMetH Tryd.prog laid3 w) (fun _ _ _ hh h => h.of_heap hh) own started (by kernel_rfl) Tryd.func5
    (ChangeSpec.witness_shaped (enc := enc) (C := Tryd.checked) (os := os) (X := fun w _ => laidMetH Tryd.prog laid3 w) false (World.doorLaid Tryd.prog 24 os) #[.agg #[.bool false, .int .i64 0, .int .i64 0], .agg #[.bool false, .int .i64 0, .int .i64 0], .int .u64 0] 8 rfl (World.shaped_of_RefB (by kernel_rfl) (by kernel_rfl)) (by kernel_rfl) (by kernel_rfl) (by kernel_rfl) (door_met os _)) ?_
  intro W base args ds gs before hval0 hW _ _ hL _
  have hval : ∀ (j : Nat) t v, Tryd.f5.params[j]? = some t → args[j]? = some v → Value.okWide Tryd.prog W .any base t v := hval0
  have hW' := hW
  obtain ⟨p, q, hA0, hV, rfl, hfz, hnd⟩ := hW
  have hA : DataW.TrodAll enc Tryd.prog W 0 (fun _ => true) true Tryd.f5.params.toList args.toList ds p := hA0
  rw [Tryd.params5] at hA hval
  obtain ⟨v0, vs0, d0, ds0, p0, q0, hargs, rfl, rfl, g0, r0⟩ := trodAll_cons hA
  obtain ⟨v1, vs1, d1, ds1, p1, q1, rfl, rfl, rfl, g1, r1⟩ := trodAll_cons r0
  obtain ⟨v2, vs2, d2, ds2, p2, q2, rfl, rfl, rfl, g2, r2⟩ := trodAll_cons r1
  obtain ⟨rfl, rfl, rfl⟩ := trodAll_nil r2
  obtain rfl : args = #[v0, v1, v2] := by cases args; simp_all
  obtain ⟨rfl, rfl⟩ := trodVars_none hV
  obtain ⟨a2, rfl, rfl, rfl, w2⟩ := open_int Tryd.underlying24 (hval 2 24 v2 rfl rfl) g2
  have h2 := u64_in w2
  obtain ⟨e0a, e0b, e0c, y0a, y0b, y0c, n0, rfl, rfl, rfl, z0a, z0b, z0c⟩ := open_agg3 Tryd.underlying23 (by kernel_rfl) cellsLink (hval 0 23 v0 rfl rfl) g0
  obtain ⟨m0, t0a, rfl⟩ := DataW.trod_bool Tryd.underlying4 z0a
  obtain ⟨s0, t0b, rfl, w0b⟩ := DataW.trod_int Tryd.underlying3 z0b
  obtain ⟨u0, t0c, rfl, w0c⟩ := DataW.trod_int Tryd.underlying3 z0c
  simp at t0a t0b t0c
  subst t0a t0b t0c
  have h0 := i64_in w0b
  have k0 := i64_in w0c
  obtain ⟨e1a, e1b, e1c, y1a, y1b, y1c, n1, rfl, rfl, rfl, z1a, z1b, z1c⟩ := open_agg3 Tryd.underlying23 (by kernel_rfl) cellsLink (hval 1 23 v1 rfl rfl) g1
  obtain ⟨m1, t1a, rfl⟩ := DataW.trod_bool Tryd.underlying4 z1a
  obtain ⟨s1, t1b, rfl, w1b⟩ := DataW.trod_int Tryd.underlying3 z1b
  obtain ⟨u1, t1c, rfl, w1c⟩ := DataW.trod_int Tryd.underlying3 z1c
  simp at t1a t1b t1c
  subst t1a t1b t1c
  have h1 := i64_in w1b
  have k1 := i64_in w1c
  clear hA0 hval0
  have hG := glo_of_laid hL
  refine (walk m0 s0 u0 m1 s1 u1 a2 h2.1 h2.2 W hG).mono fun e W' ⟨he, hg⟩ => ?_
  subst he
  exact ⟨_, rfl, law_post laidOut (by kernel_rfl) (by kernel_rfl) Tryd.underlying4 rfl rfl hW' hg⟩

theorem over : Rows.linkBackRow.holds Tryd.pinned (OpenSpec.ofChange Rows.linkBackSpec) :=
  OpenClaim.holds_of_wide 5 Tryd.f5 rfl rfl rfl rfl rfl rfl rfl ⟨rfl, rfl, rfl, rfl, rfl⟩ rfl rfl rfl rfl rfl (by kernel_rfl) Tryd.func5 (by kernel_rfl)
    (of_decide_eq_true (by kernel_rfl)) (by unfold Func.isWrapper; first | (rw [if_pos (by decide +kernel)]; kernel_rfl) | (rw [if_neg (by decide +kernel)]; exact ⟨rfl, rfl⟩))
    (fun os started H enc _ => lifted os started H enc)

/-- THE STATEMENT. -/
theorem proved : Rows.LinkBackCardSaid :=
  Claim7.holds_tied_plain_at .later [] [.wider, .wider, .wider] true _ false
    over (fun _ h => by cases h) (by kernel_rfl) (fun _ h => by cases h) linkBack_row_tie rfl ⟨rfl, rfl⟩ (by kernel_rfl) rfl
    (fun f fn hf hfn => by
      obtain rfl : f = 5 := Option.some.inj ((show Tryd.prog.funcNamed "revenant/revenantlaw02.LinkBack" = some 5 by kernel_rfl).symm.trans hf) |>.symm
      obtain rfl : fn = Tryd.f5 := (Option.some.inj (Tryd.func5.symm.trans hfn)).symm
      exact ⟨by kernel_rfl, fun j t ht => by
        rw [Tryd.params5] at ht
        have hm : t ∈ [23, 23, 24] := by simpa using Array.mem_of_getElem? ht
        have hall : ([23, 23, 24].all fun u => !Tryd.prog.wantsStandIn u) = true := by kernel_rfl
        exact (show Tryd.prog.wantsStandIn t = false by simpa using List.all_eq_true.1 hall t hm)⟩)
    (by kernel_rfl)
#print axioms proved
end Go.Proofs.YtbkdacbpapedgaaDoor.linkBack
