/- PlaceNames: unlike places have unlike names, each of letters, digits and blanks: so the law answers true, for every input. -/
import Derived.Test.YtfajhblmjdjkbaaDoorPlaceN
import Derived.Test.YtfajhblmjdjkbaaDoorPlaceW
import Derived.Test.YtfajhblmjdjkbaaDoorPlaceG
import Derived.Test.YtfajhblmjdjkbaaDoorOpenFlat
import Derived.Test.YtfajhblmjdjkbaaDoorCards
namespace Go.Proofs.YtfajhblmjdjkbaaDoor.placeNames
open Go.ChangeShapes Go.WideShapes Go.ChangeAt Go.RowKit

theorem toList_bytes (l : List UInt8) : (bytes l).toList = l := by rw [ByteArray.toList_eq]; rfl
theorem same_yes {x y z x' y' z' : Int} (h1 : x = x') (h2 : y = y') (h3 : z = z') : ((bytes (nameL x y z)).toList == (bytes (nameL x' y' z')).toList) = true := by
  subst h1 h2 h3
  simp
theorem can_of {x y z : Int} (h : ((bytes (nameL x y z)).toList == [110, 111, 110, 101]) = false) : canB x y z = true := by
  cases hc : canB x y z
  · rw [name_none hc, toList_bytes] at h
    exact absurd h (by decide)
  · rfl
theorem same_no {x y z x' y' z' : Int} (hn : ¬ (x = x' ∧ y = y' ∧ z = z')) (h : ((bytes (nameL x y z)).toList == [110, 111, 110, 101]) = false ∧ ((bytes (nameL x' y' z')).toList == [110, 111, 110, 101]) = false) : (!((bytes (nameL x y z)).toList == (bytes (nameL x' y' z')).toList)) = true := by
  have h1 := can_of h.1
  have h2 := can_of h.2
  rw [toList_bytes, toList_bytes, Bool.not_eq_true', beq_eq_false_iff_ne]
  exact fun e => hn (name_inj h1 h2 e)

set_option maxRecDepth 100000 in
set_option maxHeartbeats 6400000 in
theorem walk (x y z x' y' z' : Int) (hy : y ≤ 9223372036854775807) (hz : z ≤ 9223372036854775807) (hy' : y' ≤ 9223372036854775807) (hz' : z' ≤ 9223372036854775807) (w : World) (hg : Glo w) :
    Calls Tryd.prog 6 #[.agg #[.int .i64 x, .int .i64 y, .int .i64 z], .agg #[.int .i64 x', .int .i64 y', .int .i64 z']] w fun e w' => e = .returned (.bool true) ∧ Below w.heap.size w w' := by
  have hF := ((Fr.start w).push w.heap.size rfl [.int .i64 x, .int .i64 y, .int .i64 z] 25).push (w.heap.size + 1) (by simp) [.int .i64 x', .int .i64 y', .int .i64 z'] 25
  have r := hF.rule 0 rfl
  have q := hF.rule 1 rfl
  have HG := Lib.hid hg
  have hsz : (bytes (nameL x y z)).size ≤ 60 := by rw [bytes_size]; exact nameL_length hy hz
  have hok : ∀ j (h : j < (bytes (nameL x y z)).size), okB (bytes (nameL x y z))[j] = true := fun j h => name_ok x y z _ (bytes_mem _ j h)
  have c1 : Hid (∀ v, Glo v → Calls Tryd.prog 23 #[.agg #[.int .i64 x, .int .i64 y, .int .i64 z]] v fun e w' => e = .returned (.string (bytes (nameL x y z))) ∧ Below v.heap.size v w') := Lib.hid fun v hv => name_any x y z hy hz v hv
  have c2 : Hid (∀ v, Glo v → Calls Tryd.prog 23 #[.agg #[.int .i64 x', .int .i64 y', .int .i64 z']] v fun e w' => e = .returned (.string (bytes (nameL x' y' z'))) ∧ Below v.heap.size v w') := Lib.hid fun v hv => name_any x' y' z' hy' hz' v hv
  have HOK := Lib.hid hok
  clear hg hok
  go_enter Tryd.func6, Tryd.ntmps6
  go_wp2_with fail
  refine (awake5 _ (HG.out.keep hF.below (Nat.le_refl _))).mono ?_
  rintro e w1 ⟨rfl, hb⟩
  replace hF := hF.over hb
  clear hb r q
  have r := hF.rule 0 rfl
  have q := hF.rule 1 rfl
  go_wp2_with fail
  refine (c1.out _ (HG.out.keep hF.below (Nat.le_refl _))).mono ?_
  rintro e w2 ⟨rfl, hb⟩
  replace hF := hF.over hb
  clear hb r q
  have r := hF.rule 0 rfl
  have q := hF.rule 1 rfl
  go_wp2_with fail
  refine (c2.out _ (HG.out.keep hF.below (Nat.le_refl _))).mono ?_
  rintro e w3 ⟨rfl, hb⟩
  replace hF := hF.over hb
  clear hb r q c1 c2 HG
  have HA : Hid (∃ A, bytes (nameL x y z) = A) := Lib.hid ⟨_, rfl⟩
  obtain ⟨A, hA⟩ := HA.out
  rw [hA] at hsz HOK ⊢
  clear HA
  have HA := Lib.hid hA
  clear hA
  go_wp2_with fail
  go_loop [7] (fun i => ∃ j : Nat, j ≤ A.size ∧ i = .int .i64 j) (fun i => A.size - (intOf i).toNat)
  case atStart => exact ⟨0, Nat.zero_le _, rfl⟩
  case round =>
    obtain ⟨j, hj, rfl⟩ := hrel
    by_cases hlt : j < A.size
    · have hd : decide ((j : Int) < A.size) = true := by simpa using hlt
      have hc := HOK.out j hlt
      unfold okB at hc
      rw [decide_eq_true_iff] at hc
      have hb : ((0 : Int) ≤ (j : Int) ∧ (j : Int) < A.size) := by omega
      go_wp2_with fail
      all_goals exact ⟨⟨j + 1, by omega, by simp⟩, by simp [intOf]; omega⟩
    · have hd : decide ((j : Int) < A.size) = false := by simpa using hlt
      have r := hF.rule 0 rfl
      have q := hF.rule 1 rfl
      go_wp2_with fail
      all_goals
        go_ret
        have hA := HA.out
        subst hA
        have hb := hF.below
        clear HA hF r q
        first
          | exact ⟨rfl, hb⟩
          | exact ⟨ret_bool (same_yes (by assumption) (by assumption) (by assumption)), hb⟩
          | exact ⟨ret_bool (same_no (by omega) (by assumption)), hb⟩

theorem own : ownKnob Tryd.prog.godebug = none := by kernel_rfl
theorem laidOut : laidOutB Tryd.prog = true := by kernel_rfl

set_option maxRecDepth 100000 in
theorem lifted (os : Os) (started : os.Started) (H : Type) (enc : TypeId × Value → H) :
    ReturnsInHanded {} Tryd.checked os 6 .any (fun w args => (Rows.placeNamesSpec.pre enc Tryd.prog Tryd.f6 [] false w args ∧ laidMetH Tryd.prog laid4 w) ∧ sizedMet enc Tryd.prog Tryd.f6 (OpenSpec.ofChange Rows.placeNamesSpec) false w args)
      (Rows.placeNamesSpec.post enc Tryd.prog Tryd.f6 false true false false) := by
  refine returnsInHanded_of_change_and (C := Tryd.checked) (X := fun w _ => laidMetH Tryd.prog laid4 w) (fun _ _ _ hh h => h.of_heap hh) own started (by kernel_rfl) Tryd.func6
    (ChangeSpec.witness_shaped (enc := enc) (C := Tryd.checked) (os := os) (X := fun w _ => laidMetH Tryd.prog laid4 w) false (World.doorLaid Tryd.prog 65 os) #[.agg #[.int .i64 0, .int .i64 0, .int .i64 0], .agg #[.int .i64 0, .int .i64 0, .int .i64 0]] 8 rfl (World.shaped_of_RefB (by kernel_rfl) (by kernel_rfl)) (by kernel_rfl) (by kernel_rfl) (by kernel_rfl) (door_met os _)) ?_
  intro W base args ds gs before hval0 hW _ _ hL _
  have hval : ∀ (j : Nat) t v, Tryd.f6.params[j]? = some t → args[j]? = some v → Value.okWide Tryd.prog W .any base t v := hval0
  have hW' := hW
  obtain ⟨p, q, hA0, hV, rfl, hfz, hnd⟩ := hW
  have hA : DataW.TrodAll enc Tryd.prog W 0 (fun _ => true) true Tryd.f6.params.toList args.toList ds p := hA0
  rw [Tryd.params6] at hA hval
  obtain ⟨v0, vs0, d0, ds0, p0, q0, hargs, rfl, rfl, g0, r0⟩ := trodAll_cons hA
  obtain ⟨v1, vs1, d1, ds1, p1, q1, rfl, rfl, rfl, g1, r1⟩ := trodAll_cons r0
  obtain ⟨rfl, rfl, rfl⟩ := trodAll_nil r1
  obtain rfl : args = #[v0, v1] := by cases args; simp_all
  obtain ⟨rfl, rfl⟩ := trodVars_none hV
  obtain ⟨cs0, rfl, z0, H0⟩ := open_flat (ss := [.num .i64, .num .i64, .num .i64]) Tryd.underlying25 (by kernel_rfl) (by kernel_rfl) ⟨Tryd.underlying3, Tryd.underlying3, Tryd.underlying3, trivial⟩ (hval 0 25 v0 rfl rfl) g0
  obtain ⟨l0, rfl, z0⟩ := list_of z0
  obtain ⟨x0_0, x0_1, x0_2, rfl⟩ := list3 z0
  obtain ⟨_, e, a0_0, rfl, w0_0⟩ := H0 0 _ rfl
  obtain rfl : x0_0 = .int .i64 a0_0 := by simpa using e
  clear e
  have h0_0 := i64_in w0_0
  obtain ⟨_, e, a0_1, rfl, w0_1⟩ := H0 1 _ rfl
  obtain rfl : x0_1 = .int .i64 a0_1 := by simpa using e
  clear e
  have h0_1 := i64_in w0_1
  obtain ⟨_, e, a0_2, rfl, w0_2⟩ := H0 2 _ rfl
  obtain rfl : x0_2 = .int .i64 a0_2 := by simpa using e
  clear e
  have h0_2 := i64_in w0_2
  clear H0
  obtain ⟨cs1, rfl, z1, H1⟩ := open_flat (ss := [.num .i64, .num .i64, .num .i64]) Tryd.underlying25 (by kernel_rfl) (by kernel_rfl) ⟨Tryd.underlying3, Tryd.underlying3, Tryd.underlying3, trivial⟩ (hval 1 25 v1 rfl rfl) g1
  obtain ⟨l1, rfl, z1⟩ := list_of z1
  obtain ⟨x1_0, x1_1, x1_2, rfl⟩ := list3 z1
  obtain ⟨_, e, a1_0, rfl, w1_0⟩ := H1 0 _ rfl
  obtain rfl : x1_0 = .int .i64 a1_0 := by simpa using e
  clear e
  have h1_0 := i64_in w1_0
  obtain ⟨_, e, a1_1, rfl, w1_1⟩ := H1 1 _ rfl
  obtain rfl : x1_1 = .int .i64 a1_1 := by simpa using e
  clear e
  have h1_1 := i64_in w1_1
  obtain ⟨_, e, a1_2, rfl, w1_2⟩ := H1 2 _ rfl
  obtain rfl : x1_2 = .int .i64 a1_2 := by simpa using e
  clear e
  have h1_2 := i64_in w1_2
  clear H1
  clear hA0 hval0
  have hG := glo_of_laid hL
  refine (walk a0_0 a0_1 a0_2 a1_0 a1_1 a1_2 h0_1.2 h0_2.2 h1_1.2 h1_2.2 W hG).mono fun e W' ⟨he, hg⟩ => ?_
  subst he
  exact ⟨_, rfl, law_post laidOut (by kernel_rfl) (by kernel_rfl) Tryd.underlying4 rfl rfl hW' hg⟩

theorem over : Rows.placeNamesRow.holds Tryd.pinned (OpenSpec.ofChange Rows.placeNamesSpec) :=
  OpenClaim.holds_of_wide 6 Tryd.f6 rfl rfl rfl rfl rfl rfl rfl ⟨rfl, rfl, rfl, rfl, rfl⟩ rfl rfl rfl rfl rfl (by kernel_rfl) Tryd.func6 (by kernel_rfl)
    (of_decide_eq_true (by kernel_rfl)) (by unfold Func.isWrapper; first | (rw [if_pos (by decide +kernel)]; kernel_rfl) | (rw [if_neg (by decide +kernel)]; exact ⟨rfl, rfl⟩))
    (fun os started H enc _ => lifted os started H enc)

/-- THE STATEMENT. -/
theorem proved : Rows.PlaceNamesCardSaid :=
  Claim7.holds_tied_plain_at .later [] [.data, .data, .data, .data] true _ false
    over (fun _ h => by cases h) (by kernel_rfl) (fun _ h => by cases h) placeNames_row_tie rfl ⟨rfl, rfl⟩ (by kernel_rfl) rfl
    (fun f fn hf hfn => by
      obtain rfl : f = 6 := Option.some.inj ((show Tryd.prog.funcNamed "revenant/revenantlaw05.PlaceNames" = some 6 by kernel_rfl).symm.trans hf) |>.symm
      obtain rfl : fn = Tryd.f6 := (Option.some.inj (Tryd.func6.symm.trans hfn)).symm
      exact ⟨by kernel_rfl, fun j t ht => by
        rw [Tryd.params6] at ht
        have hm : t ∈ [25, 25] := by simpa using Array.mem_of_getElem? ht
        have hall : ([25, 25].all fun u => !Tryd.prog.wantsStandIn u) = true := by kernel_rfl
        exact (show Tryd.prog.wantsStandIn t = false by simpa using List.all_eq_true.1 hall t hm)⟩)
    (by kernel_rfl)
#print axioms proved
end Go.Proofs.YtfajhblmjdjkbaaDoor.placeNames
