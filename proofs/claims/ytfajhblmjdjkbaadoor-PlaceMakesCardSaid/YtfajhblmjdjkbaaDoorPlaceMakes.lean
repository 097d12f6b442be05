/- PlaceMakes: of all numbers the places that are made of them are the document's, and the names of a place's kinds are these: so the law answers true, for every input. -/
import Derived.Test.YtfajhblmjdjkbaaDoorPlaceF
import Derived.Test.YtfajhblmjdjkbaaDoorPlaceW
import Derived.Test.YtfajhblmjdjkbaaDoorPlaceG
import Derived.Test.YtfajhblmjdjkbaaDoorCards
namespace Go.Proofs.YtfajhblmjdjkbaaDoor.placeMakes
open Go.ChangeShapes Go.WideShapes Go.ChangeAt Go.RowKit

def strs : List Value := [.string { data := #[98, 105, 114, 116, 104] }, .string { data := #[114, 101, 116, 105, 114, 101] }, .string { data := #[99, 104, 97, 105, 110] }, .string { data := #[107, 101, 121] }, .string { data := #[118, 97, 108] }, .string { data := #[116, 111, 112] }, .string { data := #[115, 116, 97, 116, 101] }]
theorem strs_at (j : Nat) (hj : j < 7) : strs[j]? = some (.string (bytes (partsL.getD j []))) := by
  match j, hj with
  | 0, _ => rfl
  | 1, _ => rfl
  | 2, _ => rfl
  | 3, _ => rfl
  | 4, _ => rfl
  | 5, _ => rfl
  | 6, _ => rfl
  | n + 7, h => omega
theorem part_size (j : Nat) (hj : j < 7) : (bytes (partsL.getD j [])).size ≤ 6 := by
  have : ∀ i : Fin 7, (partsL.getD i.val []).length ≤ 6 := by decide
  rw [bytes_size]
  exact this ⟨j, hj⟩

set_option maxRecDepth 100000 in
set_option maxHeartbeats 6400000 in
theorem walk (s n : Int) (hn0 : -9223372036854775808 ≤ n) (w : World) (hg : Glo w) :
    Calls Tryd.prog 4 #[.int .i64 s, .int .i64 n] w fun e w' => e = .returned (.bool true) ∧ Below w.heap.size w w' := by
  have hF := Fr.start w
  have HG := Lib.hid hg
  clear hg
  by_cases hn : n < 4611686018427387904
  · have hd : decide (n < 4611686018427387904) = true := by simpa using hn
    have cL : Hid (∀ v, Calls Tryd.prog 22 #[.int .i64 s, .int .i64 n] v fun e w' => e = .returned (.agg #[.int .i64 5, .int .i64 s, .int .i64 (7 + n)]) ∧ Below v.heap.size v w') := Lib.hid fun v => by have := link_any s n v; rwa [w64 (7 + n) (by omega)] at this
    go_enter Tryd.func4, Tryd.ntmps4
    go_wp2_with fail
    refine (awake5 _ (HG.out.keep hF.below (Nat.le_refl _))).mono ?_
    rintro e w1 ⟨rfl, hb⟩
    replace hF := hF.over hb
    clear hb
    go_wp2_with (first
      |
        (with_reducible refine (epoch_any _).mono ?_; rintro e w1 ⟨rfl, hb⟩; replace hF := hF.over hb; clear hb)
      |
        (with_reducible refine (pool_any _).mono ?_; rintro e w1 ⟨rfl, hb⟩; replace hF := hF.over hb; clear hb)
      |
        (with_reducible refine (fresh_any _).mono ?_; rintro e w1 ⟨rfl, hb⟩; replace hF := hF.over hb; clear hb)
      |
        (with_reducible refine (root_any _ _).mono ?_; rintro e w1 ⟨rfl, hb⟩; replace hF := hF.over hb; clear hb)
      |
        (with_reducible refine (of_any _ _ _).mono ?_; rintro e w1 ⟨rfl, hb⟩; replace hF := hF.over hb; clear hb)
      |
        (with_reducible refine (cL.out _).mono ?_; rintro e w1 ⟨rfl, hb⟩; replace hF := hF.over hb; clear hb)
      )
    have hN := hF.below.size
    replace hF := hF.push w1.heap.size rfl strs 39
    go_loopw [6] (fun i wr => ∃ j : Nat, j ≤ 7 ∧ i = .int .i64 j ∧ Fr w [(w1.heap.size, strs)] wr) (fun i _ => 7 - (intOf i).toNat)
    case atStart => exact ⟨0, Nat.zero_le _, rfl, hF⟩
    case round =>
      clear hF
      obtain ⟨j, hj, rfl, hF⟩ := hrel
      by_cases hlt : j < 7
      · have hd7 : decide ((j : Int) < 7) = true := by rw [decide_eq_true_iff]; omega
        have hin : (0 : Int) ≤ (j : Int) ∧ (j : Int) < 7 := by omega
        have hc : wr.cell? ⟨w1.heap.size, j, none⟩ = some (.string (bytes (partsL.getD j []))) := by rw [hF.rule 0 rfl]; exact strs_at j hlt
        have hp := part_size j hlt
        have kN : Hid (∀ v, Glo v → Calls Tryd.prog 23 #[.agg #[.int .i64 5, .int .i64 3, .int .i64 (j : Int)]] v fun e w' => e = .returned (.string ({ data := #[115, 108, 111, 116, 32, 51, 32] } ++ bytes (partsL.getD j []))) ∧ Below v.heap.size v w') := Lib.hid fun v hv => nk_slot v hv j hlt
        generalize bytes (partsL.getD j []) = P at *
        have g1 : ¬ 9223372036854775807 < 7 + P.size := by omega
        go_wp2_with fail
        refine (of_any _ _ _).mono ?_
        rintro e v1 ⟨rfl, hb⟩
        replace hF := hF.over hb
        clear hb hc
        go_wp2_with fail
        refine (kN.out _ (HG.out.keep hF.below (Nat.le_refl _))).mono ?_
        rintro e v2 ⟨rfl, hb⟩
        replace hF := hF.over hb
        clear hb
        go_wp2_with fail
        exact ⟨⟨j + 1, by omega, by simp, hF⟩, by simp [intOf]; omega⟩
      · have hd7 : decide ((j : Int) < 7) = false := by rw [decide_eq_false_iff_not]; omega
        go_wp2_with (first
          |
            (with_reducible refine (pool_any _).mono ?_; rintro e w1 ⟨rfl, hb⟩; replace hF := hF.over hb; clear hb)
          |
            (with_reducible refine (fresh_any _).mono ?_; rintro e w1 ⟨rfl, hb⟩; replace hF := hF.over hb; clear hb)
          |
            (with_reducible refine (root_any _ _).mono ?_; rintro e w1 ⟨rfl, hb⟩; replace hF := hF.over hb; clear hb)
          |
            (with_reducible refine (of_any _ _ _).mono ?_; rintro e w1 ⟨rfl, hb⟩; replace hF := hF.over hb; clear hb)
          |
            (with_reducible refine (lk_ten _).mono ?_; rintro e w1 ⟨rfl, hb⟩; replace hF := hF.over hb; clear hb)
          |
            (with_reducible refine (nk_pool _ (HG.out.keep hF.below (Nat.le_refl _))).mono ?_; rintro e w1 ⟨rfl, hb⟩; replace hF := hF.over hb; clear hb)
          |
            (with_reducible refine (nk_fresh _ (HG.out.keep hF.below (Nat.le_refl _))).mono ?_; rintro e w1 ⟨rfl, hb⟩; replace hF := hF.over hb; clear hb)
          |
            (with_reducible refine (nk_root12 _ (HG.out.keep hF.below (Nat.le_refl _))).mono ?_; rintro e w1 ⟨rfl, hb⟩; replace hF := hF.over hb; clear hb)
          |
            (with_reducible refine (nk_link _ (HG.out.keep hF.below (Nat.le_refl _))).mono ?_; rintro e w1 ⟨rfl, hb⟩; replace hF := hF.over hb; clear hb)
          |
            (with_reducible refine (nk_none1 _ (HG.out.keep hF.below (Nat.le_refl _))).mono ?_; rintro e w1 ⟨rfl, hb⟩; replace hF := hF.over hb; clear hb)
          |
            (with_reducible refine (nk_none2 _ (HG.out.keep hF.below (Nat.le_refl _))).mono ?_; rintro e w1 ⟨rfl, hb⟩; replace hF := hF.over hb; clear hb)
          |
            (with_reducible refine (nk_none3 _ (HG.out.keep hF.below (Nat.le_refl _))).mono ?_; rintro e w1 ⟨rfl, hb⟩; replace hF := hF.over hb; clear hb)
          |
            (with_reducible refine (nk_none4 _ (HG.out.keep hF.below (Nat.le_refl _))).mono ?_; rintro e w1 ⟨rfl, hb⟩; replace hF := hF.over hb; clear hb)
          )
        go_ret
        exact ⟨rfl, hF.below⟩
  · have hd : decide (n < 4611686018427387904) = false := by simpa using hn
    go_enter Tryd.func4, Tryd.ntmps4
    go_wp2_with fail
    refine (awake5 _ (HG.out.keep hF.below (Nat.le_refl _))).mono ?_
    rintro e w1 ⟨rfl, hb⟩
    replace hF := hF.over hb
    clear hb
    go_wp2_with (first
      |
        (with_reducible refine (epoch_any _).mono ?_; rintro e w1 ⟨rfl, hb⟩; replace hF := hF.over hb; clear hb)
      |
        (with_reducible refine (pool_any _).mono ?_; rintro e w1 ⟨rfl, hb⟩; replace hF := hF.over hb; clear hb)
      |
        (with_reducible refine (fresh_any _).mono ?_; rintro e w1 ⟨rfl, hb⟩; replace hF := hF.over hb; clear hb)
      |
        (with_reducible refine (root_any _ _).mono ?_; rintro e w1 ⟨rfl, hb⟩; replace hF := hF.over hb; clear hb)
      |
        (with_reducible refine (of_any _ _ _).mono ?_; rintro e w1 ⟨rfl, hb⟩; replace hF := hF.over hb; clear hb)
      )
    have hN := hF.below.size
    replace hF := hF.push w1.heap.size rfl strs 39
    go_loopw [6] (fun i wr => ∃ j : Nat, j ≤ 7 ∧ i = .int .i64 j ∧ Fr w [(w1.heap.size, strs)] wr) (fun i _ => 7 - (intOf i).toNat)
    case atStart => exact ⟨0, Nat.zero_le _, rfl, hF⟩
    case round =>
      clear hF
      obtain ⟨j, hj, rfl, hF⟩ := hrel
      by_cases hlt : j < 7
      · have hd7 : decide ((j : Int) < 7) = true := by rw [decide_eq_true_iff]; omega
        have hin : (0 : Int) ≤ (j : Int) ∧ (j : Int) < 7 := by omega
        have hc : wr.cell? ⟨w1.heap.size, j, none⟩ = some (.string (bytes (partsL.getD j []))) := by rw [hF.rule 0 rfl]; exact strs_at j hlt
        have hp := part_size j hlt
        have kN : Hid (∀ v, Glo v → Calls Tryd.prog 23 #[.agg #[.int .i64 5, .int .i64 3, .int .i64 (j : Int)]] v fun e w' => e = .returned (.string ({ data := #[115, 108, 111, 116, 32, 51, 32] } ++ bytes (partsL.getD j []))) ∧ Below v.heap.size v w') := Lib.hid fun v hv => nk_slot v hv j hlt
        generalize bytes (partsL.getD j []) = P at *
        have g1 : ¬ 9223372036854775807 < 7 + P.size := by omega
        go_wp2_with fail
        refine (of_any _ _ _).mono ?_
        rintro e v1 ⟨rfl, hb⟩
        replace hF := hF.over hb
        clear hb hc
        go_wp2_with fail
        refine (kN.out _ (HG.out.keep hF.below (Nat.le_refl _))).mono ?_
        rintro e v2 ⟨rfl, hb⟩
        replace hF := hF.over hb
        clear hb
        go_wp2_with fail
        exact ⟨⟨j + 1, by omega, by simp, hF⟩, by simp [intOf]; omega⟩
      · have hd7 : decide ((j : Int) < 7) = false := by rw [decide_eq_false_iff_not]; omega
        go_wp2_with (first
          |
            (with_reducible refine (pool_any _).mono ?_; rintro e w1 ⟨rfl, hb⟩; replace hF := hF.over hb; clear hb)
          |
            (with_reducible refine (fresh_any _).mono ?_; rintro e w1 ⟨rfl, hb⟩; replace hF := hF.over hb; clear hb)
          |
            (with_reducible refine (root_any _ _).mono ?_; rintro e w1 ⟨rfl, hb⟩; replace hF := hF.over hb; clear hb)
          |
            (with_reducible refine (of_any _ _ _).mono ?_; rintro e w1 ⟨rfl, hb⟩; replace hF := hF.over hb; clear hb)
          |
            (with_reducible refine (lk_ten _).mono ?_; rintro e w1 ⟨rfl, hb⟩; replace hF := hF.over hb; clear hb)
          |
            (with_reducible refine (nk_pool _ (HG.out.keep hF.below (Nat.le_refl _))).mono ?_; rintro e w1 ⟨rfl, hb⟩; replace hF := hF.over hb; clear hb)
          |
            (with_reducible refine (nk_fresh _ (HG.out.keep hF.below (Nat.le_refl _))).mono ?_; rintro e w1 ⟨rfl, hb⟩; replace hF := hF.over hb; clear hb)
          |
            (with_reducible refine (nk_root12 _ (HG.out.keep hF.below (Nat.le_refl _))).mono ?_; rintro e w1 ⟨rfl, hb⟩; replace hF := hF.over hb; clear hb)
          |
            (with_reducible refine (nk_link _ (HG.out.keep hF.below (Nat.le_refl _))).mono ?_; rintro e w1 ⟨rfl, hb⟩; replace hF := hF.over hb; clear hb)
          |
            (with_reducible refine (nk_none1 _ (HG.out.keep hF.below (Nat.le_refl _))).mono ?_; rintro e w1 ⟨rfl, hb⟩; replace hF := hF.over hb; clear hb)
          |
            (with_reducible refine (nk_none2 _ (HG.out.keep hF.below (Nat.le_refl _))).mono ?_; rintro e w1 ⟨rfl, hb⟩; replace hF := hF.over hb; clear hb)
          |
            (with_reducible refine (nk_none3 _ (HG.out.keep hF.below (Nat.le_refl _))).mono ?_; rintro e w1 ⟨rfl, hb⟩; replace hF := hF.over hb; clear hb)
          |
            (with_reducible refine (nk_none4 _ (HG.out.keep hF.below (Nat.le_refl _))).mono ?_; rintro e w1 ⟨rfl, hb⟩; replace hF := hF.over hb; clear hb)
          )
        go_ret
        exact ⟨rfl, hF.below⟩

theorem own : ownKnob Tryd.prog.godebug = none := by kernel_rfl
theorem laidOut : laidOutB Tryd.prog = true := by kernel_rfl

set_option maxRecDepth 100000 in
theorem lifted (os : Os) (started : os.Started) (H : Type) (enc : TypeId × Value → H) :
    ReturnsInHanded {} Tryd.checked os 4 .any (fun w args => (Rows.placeMakesSpec.pre enc Tryd.prog Tryd.f4 [] false w args ∧ laidMetH Tryd.prog laid4 w) ∧ sizedMet enc Tryd.prog Tryd.f4 (OpenSpec.ofChange Rows.placeMakesSpec) false w args)
      (Rows.placeMakesSpec.post enc Tryd.prog Tryd.f4 false true false false) := by
  refine returnsInHanded_of_change_and (C := Tryd.checked) (X := fun w _ => laidMetH Tryd.prog laid4 w) (fun _ _ _ hh h => h.of_heap hh) own started (by kernel_rfl) Tryd.func4
    (ChangeSpec.witness_shaped (enc := enc) (C := Tryd.checked) (os := os) (X := fun w _ => laidMetH Tryd.prog laid4 w) false (World.doorLaid Tryd.prog 65 os) #[.int .i64 0, .int .i64 0] 8 rfl (World.shaped_of_RefB (by kernel_rfl) (by kernel_rfl)) (by kernel_rfl) (by kernel_rfl) (by kernel_rfl) (door_met os _)) ?_
  intro W base args ds gs before hval0 hW _ _ hL _
  have hval : ∀ (j : Nat) t v, Tryd.f4.params[j]? = some t → args[j]? = some v → Value.okWide Tryd.prog W .any base t v := hval0
  have hW' := hW
  obtain ⟨p, q, hA0, hV, rfl, hfz, hnd⟩ := hW
  have hA : DataW.TrodAll enc Tryd.prog W 0 (fun _ => true) true Tryd.f4.params.toList args.toList ds p := hA0
  rw [Tryd.params4] at hA hval
  obtain ⟨v0, vs0, d0, ds0, p0, q0, hargs, rfl, rfl, g0, r0⟩ := trodAll_cons hA
  obtain ⟨v1, vs1, d1, ds1, p1, q1, rfl, rfl, rfl, g1, r1⟩ := trodAll_cons r0
  obtain ⟨rfl, rfl, rfl⟩ := trodAll_nil r1
  obtain rfl : args = #[v0, v1] := by cases args; simp_all
  obtain ⟨rfl, rfl⟩ := trodVars_none hV
  obtain ⟨a0, rfl, rfl, rfl, w0⟩ := open_int Tryd.underlying3 (hval 0 3 v0 rfl rfl) g0
  have h0 := i64_in w0
  obtain ⟨a1, rfl, rfl, rfl, w1⟩ := open_int Tryd.underlying3 (hval 1 3 v1 rfl rfl) g1
  have h1 := i64_in w1
  clear hA0 hval0
  have hG := glo_of_laid hL
  refine (walk a0 a1 h1.1 W hG).mono fun e W' ⟨he, hg⟩ => ?_
  subst he
  exact ⟨_, rfl, law_post laidOut (by kernel_rfl) (by kernel_rfl) Tryd.underlying4 rfl rfl hW' hg⟩

theorem over : Rows.placeMakesRow.holds Tryd.pinned (OpenSpec.ofChange Rows.placeMakesSpec) :=
  OpenClaim.holds_of_wide 4 Tryd.f4 rfl rfl rfl rfl rfl rfl rfl ⟨rfl, rfl, rfl, rfl, rfl⟩ rfl rfl rfl rfl rfl (by kernel_rfl) Tryd.func4 (by kernel_rfl)
    (of_decide_eq_true (by kernel_rfl)) (by unfold Func.isWrapper; first | (rw [if_pos (by decide +kernel)]; kernel_rfl) | (rw [if_neg (by decide +kernel)]; exact ⟨rfl, rfl⟩))
    (fun os started H enc _ => lifted os started H enc)

/-- THE STATEMENT. -/
theorem proved : Rows.PlaceMakesCardSaid :=
  Claim7.holds_tied_plain_at .later [] [.data, .data, .data, .data] true _ false
    over (fun _ h => by cases h) (by kernel_rfl) (fun _ h => by cases h) placeMakes_row_tie rfl ⟨rfl, rfl⟩ (by kernel_rfl) rfl
    (fun f fn hf hfn => by
      obtain rfl : f = 4 := Option.some.inj ((show Tryd.prog.funcNamed "revenant/revenantlaw05.PlaceMakes" = some 4 by kernel_rfl).symm.trans hf) |>.symm
      obtain rfl : fn = Tryd.f4 := (Option.some.inj (Tryd.func4.symm.trans hfn)).symm
      exact ⟨by kernel_rfl, fun j t ht => by
        rw [Tryd.params4] at ht
        have hm : t ∈ [3, 3] := by simpa using Array.mem_of_getElem? ht
        have hall : ([3, 3].all fun u => !Tryd.prog.wantsStandIn u) = true := by kernel_rfl
        exact (show Tryd.prog.wantsStandIn t = false by simpa using List.all_eq_true.1 hall t hm)⟩)
    (by kernel_rfl)
#print axioms proved
end Go.Proofs.YtfajhblmjdjkbaaDoor.placeMakes
