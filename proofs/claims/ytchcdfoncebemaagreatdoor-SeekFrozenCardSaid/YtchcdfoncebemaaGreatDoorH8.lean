/- What is proved on the way to the statement, part 8 of 11: contracts of the functions, among other things in memory. -/
import Derived.Test.YtchcdfoncebemaaGreatDoorH7
import Derived.Test.YtchcdfoncebemaaGreatDoorChecked
import Derived.Shelf.SlMaps.Clone
import Derived.Ground.SlmcProg
import Derived.Test.YtchcdfoncebemaaGreatDoorProg
import Derived.Maps.RangeWalk
import Derived.LoopTactic
import Derived.OwnWalkIn
import Derived.TacticsInMore
import Derived.LoopNIn
import Derived.LoopIn
import Derived.Maps.AppendAt

/- The reference's lanes: Step over the model. -/
namespace Go.Proofs.YtchcdfoncebemaaGreatDoor
open Go.RowKit Go.Maps
set_option maxRecDepth 100000

section
variable {w0 w : World} {R : List Item} {b u m : Nat} {F : Nat → Prop} {ml : List OneR} {lv key e ro : Int} {vs fd : Bool} {x y z pc W X K V C : Int}

set_option maxHeartbeats 1600000 in
theorem rst0 (v : Int) (hfx : getL ml (x, y, z) = v) (hml : ml.length ≤ 1000000) (hE : Env w0 (boxI b (rlC lv key vs x y z 0 W X K V C fd) :: boxI u (ruC e ro) :: refI m F ml :: R) w) :
    Calls Tryz.prog 33 #[.pointer (some ⟨b, 0, none⟩), .pointer (some ⟨u, 0, none⟩), .pointer (some ⟨m, 0, none⟩)] w fun o w' => o = .returned (.int .i64 0) ∧ Env w0 (boxI b (rlC lv key vs x y z 2 v X K V C fd) :: boxI u (ruC e ro) :: refI m F ml :: R) w' := by
  have HX := Lib.hid hfx
  clear hfx
  have r := hE.rule 0 rfl
  unfold rlC at r
  go_enter Tryz.func33, Tryz.ntmps33
  go_wp2_with fail
  refine (refGet_any x y z hml (hE.ref 2 rfl)).mono ?_
  rintro o w2 ⟨rfl, hb⟩
  rw [HX.out]
  replace hE := hE.over hb
  clear hb r
  have r := hE.rule 0 rfl
  unfold rlC at r
  have f1 := hE.thaw 0 rfl 7 (by simp [rlC])
  have f6 := hE.thaw 0 rfl 6 (by simp [rlC])
  have hP := (hE.put 0 rfl (j := 7) (by simp [rlC]) (.int .u64 v)).put 0 rfl (j := 6) (by simp [rlC]) (.int .i64 2)
  replace hP : Env w0 (boxI b (rlC lv key vs x y z 2 v X K V C fd) :: boxI u (ruC e ro) :: refI m F ml :: R) _ := hP
  go_wp2_with fail
  go_ret
  exact ⟨rfl, hP⟩

set_option maxHeartbeats 1600000 in
theorem rst3 (hlv : 0 ≤ lv ∧ lv ≤ 1000000) (v : Int) (hfx : getL ml (5, C, 7 + lv) = v) (hml : ml.length ≤ 1000000) (hE : Env w0 (boxI b (rlC lv key vs x y z 3 W X K V C fd) :: boxI u (ruC e ro) :: refI m F ml :: R) w) :
    Calls Tryz.prog 33 #[.pointer (some ⟨b, 0, none⟩), .pointer (some ⟨u, 0, none⟩), .pointer (some ⟨m, 0, none⟩)] w fun o w' => o = .returned (.int .i64 0) ∧ Env w0 (boxI b (rlC lv key vs x y z 4 W v K V C fd) :: boxI u (ruC e ro) :: refI m F ml :: R) w' := by
  have HX := Lib.hid hfx
  clear hfx
  have r := hE.rule 0 rfl
  unfold rlC at r
  go_enter Tryz.func33, Tryz.ntmps33
  go_wp2_with fail
  refine (next_r hlv (hE.get 0 rfl)).mono ?_
  rintro o w1 ⟨rfl, hb⟩
  replace hE := hE.over hb
  clear hb r
  have r := hE.rule 0 rfl
  unfold rlC at r
  go_wp2_with fail
  refine (refGet_any 5 C (7 + lv) hml (hE.ref 2 rfl)).mono ?_
  rintro o w2 ⟨rfl, hb⟩
  rw [HX.out]
  replace hE := hE.over hb
  clear hb r
  have r := hE.rule 0 rfl
  unfold rlC at r
  have f1 := hE.thaw 0 rfl 8 (by simp [rlC])
  have f6 := hE.thaw 0 rfl 6 (by simp [rlC])
  have hP := (hE.put 0 rfl (j := 8) (by simp [rlC]) (.int .u64 v)).put 0 rfl (j := 6) (by simp [rlC]) (.int .i64 4)
  replace hP : Env w0 (boxI b (rlC lv key vs x y z 4 W v K V C fd) :: boxI u (ruC e ro) :: refI m F ml :: R) _ := hP
  go_wp2_with fail
  go_ret
  exact ⟨rfl, hP⟩

set_option maxHeartbeats 1600000 in
theorem rst6 (v : Int) (hfx : getL ml (5, C, 3) = v) (hml : ml.length ≤ 1000000) (hE : Env w0 (boxI b (rlC lv key vs x y z 6 W X K V C fd) :: boxI u (ruC e ro) :: refI m F ml :: R) w) :
    Calls Tryz.prog 33 #[.pointer (some ⟨b, 0, none⟩), .pointer (some ⟨u, 0, none⟩), .pointer (some ⟨m, 0, none⟩)] w fun o w' => o = .returned (.int .i64 0) ∧ Env w0 (boxI b (rlC lv key vs x y z 7 W X v V C fd) :: boxI u (ruC e ro) :: refI m F ml :: R) w' := by
  have HX := Lib.hid hfx
  clear hfx
  have r := hE.rule 0 rfl
  unfold rlC at r
  go_enter Tryz.func33, Tryz.ntmps33
  go_wp2_with fail
  refine (cell13_any C 3 _).mono ?_
  rintro o w1 ⟨rfl, hb⟩
  replace hE := hE.over hb
  clear hb r
  have r := hE.rule 0 rfl
  unfold rlC at r
  go_wp2_with fail
  refine (refGet_any 5 C 3 hml (hE.ref 2 rfl)).mono ?_
  rintro o w2 ⟨rfl, hb⟩
  rw [HX.out]
  replace hE := hE.over hb
  clear hb r
  have r := hE.rule 0 rfl
  unfold rlC at r
  have f1 := hE.thaw 0 rfl 9 (by simp [rlC])
  have f6 := hE.thaw 0 rfl 6 (by simp [rlC])
  have hP := (hE.put 0 rfl (j := 9) (by simp [rlC]) (.int .u64 v)).put 0 rfl (j := 6) (by simp [rlC]) (.int .i64 7)
  replace hP : Env w0 (boxI b (rlC lv key vs x y z 7 W X v V C fd) :: boxI u (ruC e ro) :: refI m F ml :: R) _ := hP
  go_wp2_with fail
  go_ret
  exact ⟨rfl, hP⟩

set_option maxHeartbeats 1600000 in
theorem rst8 (v : Int) (hfx : getL ml (5, C, 4) = v) (hml : ml.length ≤ 1000000) (hE : Env w0 (boxI b (rlC lv key vs x y z 8 W X K V C fd) :: boxI u (ruC e ro) :: refI m F ml :: R) w) :
    Calls Tryz.prog 33 #[.pointer (some ⟨b, 0, none⟩), .pointer (some ⟨u, 0, none⟩), .pointer (some ⟨m, 0, none⟩)] w fun o w' => o = .returned (.int .i64 0) ∧ Env w0 (boxI b (rlC lv key vs x y z 9 W X K v C fd) :: boxI u (ruC e ro) :: refI m F ml :: R) w' := by
  have HX := Lib.hid hfx
  clear hfx
  have r := hE.rule 0 rfl
  unfold rlC at r
  go_enter Tryz.func33, Tryz.ntmps33
  go_wp2_with fail
  refine (cell13_any C 4 _).mono ?_
  rintro o w1 ⟨rfl, hb⟩
  replace hE := hE.over hb
  clear hb r
  have r := hE.rule 0 rfl
  unfold rlC at r
  go_wp2_with fail
  refine (refGet_any 5 C 4 hml (hE.ref 2 rfl)).mono ?_
  rintro o w2 ⟨rfl, hb⟩
  rw [HX.out]
  replace hE := hE.over hb
  clear hb r
  have r := hE.rule 0 rfl
  unfold rlC at r
  have f1 := hE.thaw 0 rfl 10 (by simp [rlC])
  have f6 := hE.thaw 0 rfl 6 (by simp [rlC])
  have hP := (hE.put 0 rfl (j := 10) (by simp [rlC]) (.int .u64 v)).put 0 rfl (j := 6) (by simp [rlC]) (.int .i64 9)
  replace hP : Env w0 (boxI b (rlC lv key vs x y z 9 W X K v C fd) :: boxI u (ruC e ro) :: refI m F ml :: R) _ := hP
  go_wp2_with fail
  go_ret
  exact ⟨rfl, hP⟩

set_option maxHeartbeats 3200000 in
theorem rst5n (heq : getL ml (x, y, z) ≠ W) (hX : InU X) (hml : ml.length ≤ 1000000) (hE : Env w0 (boxI b (rlC lv key vs x y z 5 W X K V C fd) :: boxI u (ruC e ro) :: refI m F ml :: R) w) :
    Calls Tryz.prog 33 #[.pointer (some ⟨b, 0, none⟩), .pointer (some ⟨u, 0, none⟩), .pointer (some ⟨m, 0, none⟩)] w fun o w' => o = .returned (.int .i64 2) ∧ ∃ F', Env w0 (boxI b (rlC lv key vs x y z 5 W X K V C fd) :: boxI u (ruC e ro) :: refI m F' (swL ml (x, y, z) W (wordI false (slotI X) e)) :: R) w' := by
  have HD : Hid (decide (getL ml (x, y, z) = W) = false) := Lib.hid (by simpa using heq)
  have HS13 := Lib.hid fun (v : World) => slot13_any X hX v
  have hqi : InU (wordI false (slotI X) e) := wordI_in _ _ _
  have HQI := Lib.hid hqi
  have HTO := Lib.hid fun (v : World) (hv : Blk 0 v u (urv 2 1000 3 1 1073741824 e none 0 0 0 0 ro)) => rto_c (slotI X) hv
  obtain ⟨s, hs⟩ : ∃ s, slotI X = s := ⟨_, rfl⟩
  rw [hs] at HQI ⊢
  simp only [hs] at HS13 HTO
  obtain ⟨q, hq⟩ : ∃ q, wordI false s e = q := ⟨_, rfl⟩
  rw [hq] at HQI ⊢
  simp only [hq] at HTO
  clear hs hq heq hX hqi
  have r := hE.rule 0 rfl
  unfold rlC at r
  go_enter Tryz.func33, Tryz.ntmps33
  go_wp2_with fail
  refine (HS13.out _).mono ?_
  rintro o w1 ⟨rfl, hb⟩
  replace hE := hE.over hb
  clear hb r
  go_wp2_with fail
  refine (HTO.out _ (hE.get 1 rfl)).mono ?_
  rintro o w2 ⟨rfl, hb⟩
  replace hE := hE.over hb
  clear hb
  go_wp2_with fail
  refine Ord.wp_chain [10] (fun v => Blk 0 v b (rlC lv key vs x y z 5 W X K V C fd)) (fun k w' => ∃ G5, Env w0 (boxI b (rlC lv key vs x y z 5 W X K V C fd) :: boxI u (ruC e ro) :: refI m G5 (if k = 0 then ml else swL ml (x, y, z) W q) :: R) w') (by kernel_rfl) (by kernel_rfl) (by kernel_rfl) (hE.drew.get 0 rfl) ⟨_, hE.drew⟩ (fun hT => ?_)
  have hT9 := Lib.hid hT
  clear hT
  repeat (first
    | (refine Ord.ch_value (v := ?_) hT9.out (by decide) (by rfl) ?_ ?_; rotate_left; (focus (intro w5 hS; have r := Blk.rule hS; unfold rlC at r; go_simp <;> with_reducible rfl)); (try simp only [Act.put, List.setIfInBounds_toArray, List.set_cons_zero, List.set_cons_succ]))
    | (refine Ord.ch_off hT9.out (by decide) (by rfl) ?_; (try simp only [Act.put, List.setIfInBounds_toArray, List.set_cons_zero, List.set_cons_succ])))
  refine Ord.ch_turn (v := .bool false) 0 hT9.out rfl (by decide) (Or.inl rfl) (by rfl) ?_ ?_
  · rintro w5 hC5 ⟨G5, hA5⟩
    simp only [if_true] at hA5
    go_simp
    simp only [Ord.LandsIn]
    have hsw := refSwap_any x y z W q hml (hA5.ref 2 rfl)
    rw [HD.out] at hsw
    refine hsw.mono ?_
    rintro e w6 ⟨rfl, G6, hU6, hs6⟩
    have hE6 := hA5.turnU 2 rfl hU6 hs6
    simp only [List.set_cons_succ, List.set_cons_zero] at hE6
    exact ⟨rfl, hE6.get 0 rfl, G6, hE6⟩
  (try simp only [Act.put, List.setIfInBounds_toArray, List.set_cons_zero, List.set_cons_succ])
  repeat (first
    | (refine Ord.ch_value (v := ?_) hT9.out (by decide) (by rfl) ?_ ?_; rotate_left; (focus (intro w5 hS; skip; go_simp <;> with_reducible rfl)); (try simp only [Act.put, List.setIfInBounds_toArray, List.set_cons_zero, List.set_cons_succ]))
    | (refine Ord.ch_off hT9.out (by decide) (by rfl) ?_; (try simp only [Act.put, List.setIfInBounds_toArray, List.set_cons_zero, List.set_cons_succ])))
  refine Ord.InText.nil fun w5 hS => ?_
  clear hT9
  obtain ⟨hC9, hA9⟩ := Ord.chain_end hS
  clear hS
  obtain ⟨G9, hA9⟩ := hA9
  clear hC9 hE
  simp only [List.length_cons, List.length_nil, Nat.zero_add, Nat.one_ne_zero, if_false] at hA9

  go_wp2_with fail
  go_ret
  exact ⟨rfl, G9, hA9⟩

set_option maxHeartbeats 3200000 in
theorem rst5y (heq : getL ml (x, y, z) = W) (hX : InU X) (hml : ml.length ≤ 1000000) (hE : Env w0 (boxI b (rlC lv key vs x y z 5 W X K V C fd) :: boxI u (ruC e ro) :: refI m F ml :: R) w) :
    Calls Tryz.prog 33 #[.pointer (some ⟨b, 0, none⟩), .pointer (some ⟨u, 0, none⟩), .pointer (some ⟨m, 0, none⟩)] w fun o w' => o = .returned (.int .i64 (cS (wordI false (slotI X) e))) ∧ ∃ F', Env w0 (boxI b (rlC lv key vs x y z 3 (wordI false (slotI X) e) 0 K V (slotI (wordI false (slotI X) e)) fd) :: boxI u (ruC e ro) :: refI m F' (swL ml (x, y, z) W (wordI false (slotI X) e)) :: R) w' := by
  have HD : Hid (decide (getL ml (x, y, z) = W) = true) := Lib.hid (by simpa using heq)
  have HS13 := Lib.hid fun (v : World) => slot13_any X hX v
  have hqi : InU (wordI false (slotI X) e) := wordI_in _ _ _
  have HQI := Lib.hid hqi
  have HTO := Lib.hid fun (v : World) (hv : Blk 0 v u (urv 2 1000 3 1 1073741824 e none 0 0 0 0 ro)) => rto_c (slotI X) hv
  obtain ⟨s, hs⟩ : ∃ s, slotI X = s := ⟨_, rfl⟩
  rw [hs] at HQI ⊢
  simp only [hs] at HS13 HTO
  obtain ⟨q, hq⟩ : ∃ q, wordI false s e = q := ⟨_, rfl⟩
  rw [hq] at HQI ⊢
  simp only [hq] at HTO
  clear hs hq heq hX hqi
  have r := hE.rule 0 rfl
  unfold rlC at r
  go_enter Tryz.func33, Tryz.ntmps33
  go_wp2_with fail
  refine (HS13.out _).mono ?_
  rintro o w1 ⟨rfl, hb⟩
  replace hE := hE.over hb
  clear hb r
  go_wp2_with fail
  refine (HTO.out _ (hE.get 1 rfl)).mono ?_
  rintro o w2 ⟨rfl, hb⟩
  replace hE := hE.over hb
  clear hb
  go_wp2_with fail
  refine Ord.wp_chain [10] (fun v => Blk 0 v b (rlC lv key vs x y z 5 W X K V C fd)) (fun k w' => ∃ G5, Env w0 (boxI b (rlC lv key vs x y z 5 W X K V C fd) :: boxI u (ruC e ro) :: refI m G5 (if k = 0 then ml else swL ml (x, y, z) W q) :: R) w') (by kernel_rfl) (by kernel_rfl) (by kernel_rfl) (hE.drew.get 0 rfl) ⟨_, hE.drew⟩ (fun hT => ?_)
  have hT9 := Lib.hid hT
  clear hT
  repeat (first
    | (refine Ord.ch_value (v := ?_) hT9.out (by decide) (by rfl) ?_ ?_; rotate_left; (focus (intro w5 hS; have r := Blk.rule hS; unfold rlC at r; go_simp <;> with_reducible rfl)); (try simp only [Act.put, List.setIfInBounds_toArray, List.set_cons_zero, List.set_cons_succ]))
    | (refine Ord.ch_off hT9.out (by decide) (by rfl) ?_; (try simp only [Act.put, List.setIfInBounds_toArray, List.set_cons_zero, List.set_cons_succ])))
  refine Ord.ch_turn (v := .bool true) 0 hT9.out rfl (by decide) (Or.inl rfl) (by rfl) ?_ ?_
  · rintro w5 hC5 ⟨G5, hA5⟩
    simp only [if_true] at hA5
    go_simp
    simp only [Ord.LandsIn]
    have hsw := refSwap_any x y z W q hml (hA5.ref 2 rfl)
    rw [HD.out] at hsw
    refine hsw.mono ?_
    rintro e w6 ⟨rfl, G6, hU6, hs6⟩
    have hE6 := hA5.turnU 2 rfl hU6 hs6
    simp only [List.set_cons_succ, List.set_cons_zero] at hE6
    exact ⟨rfl, hE6.get 0 rfl, G6, hE6⟩
  (try simp only [Act.put, List.setIfInBounds_toArray, List.set_cons_zero, List.set_cons_succ])
  repeat (first
    | (refine Ord.ch_value (v := ?_) hT9.out (by decide) (by rfl) ?_ ?_; rotate_left; (focus (intro w5 hS; skip; go_simp <;> with_reducible rfl)); (try simp only [Act.put, List.setIfInBounds_toArray, List.set_cons_zero, List.set_cons_succ]))
    | (refine Ord.ch_off hT9.out (by decide) (by rfl) ?_; (try simp only [Act.put, List.setIfInBounds_toArray, List.set_cons_zero, List.set_cons_succ])))
  refine Ord.InText.nil fun w5 hS => ?_
  clear hT9
  obtain ⟨hC9, hA9⟩ := Ord.chain_end hS
  clear hS
  obtain ⟨G9, hA9⟩ := hA9
  clear hC9 hE
  simp only [List.length_cons, List.length_nil, Nat.zero_add, Nat.one_ne_zero, if_false] at hA9

  go_wp2_with fail
  refine (come_r q HQI.out hA9).mono ?_
  rintro o w7 ⟨rfl, hE7⟩
  go_wp2_with fail
  go_ret
  exact ⟨rfl, G9, hE7⟩

set_option maxHeartbeats 1600000 in
theorem rvn2 (hok : okB (getL ml (1, 0, 0)) e = false) (hu : InU (getL ml (1, 0, 0))) (he : 0 ≤ e ∧ e ≤ 9223372036854775807) (hml : ml.length ≤ 1000000) (hE : Env w0 (boxI b (rlC lv key vs x y z 2 W X K V C fd) :: boxI u (ruC e ro) :: refI m F ml :: R) w) :
    Calls Tryz.prog 33 #[.pointer (some ⟨b, 0, none⟩), .pointer (some ⟨u, 0, none⟩), .pointer (some ⟨m, 0, none⟩)] w fun o w' => o = .returned (.int .i64 2) ∧ Env w0 (boxI b (rlC lv key vs x y z 2 W X K V C fd) :: boxI u (ruC e (wrap64 (ro + 1))) :: refI m F ml :: R) w' := by
  have hv := rvalid_w (L := (boxI b (rlC lv key vs x y z 2 W X K V C fd) :: boxI u (ruC e ro) :: refI m F ml :: R)) (k := 2) (s := 1000) (b := 3) (h := 1) (l := 1073741824) (A := none) (n := 0) (c := 0) (N := 0) (hs := 0) (r := ro) _ (rfl : getL ml (1, 0, 0) = getL ml (1, 0, 0)) hu he.1 he.2 hml 1 2 hE rfl rfl
  rw [hok] at hv
  simp only [List.set_cons_succ, List.set_cons_zero, Bool.false_eq_true, if_false] at hv
  have HV := Lib.hid hv
  clear hv hok hu
  have r := hE.rule 0 rfl
  unfold rlC at r
  go_enter Tryz.func33, Tryz.ntmps33
  go_wp2_with fail
  refine HV.out.mono ?_
  rintro o w1 ⟨rfl, hE1⟩
  go_wp2_with fail
  go_ret
  exact ⟨rfl, hE1⟩
set_option maxHeartbeats 1600000 in
theorem rvy2 (hok : okB (getL ml (1, 0, 0)) e = true) (hu : InU (getL ml (1, 0, 0))) (he : 0 ≤ e ∧ e ≤ 9223372036854775807) (hml : ml.length ≤ 1000000) (s : Int) (Y : World → Prop) (hE : Env w0 (boxI b (rlC lv key vs x y z 2 W X K V C fd) :: boxI u (ruC e ro) :: refI m F ml :: R) w)
    (hc : ∀ v, Env w0 (boxI b (rlC lv key vs x y z 2 W X K V C fd) :: boxI u (ruC e ro) :: refI m F ml :: R) v → Calls Tryz.prog 66 #[.pointer (some ⟨b, 0, none⟩)] v fun o w' => o = .returned (.int .i64 s) ∧ Y w') :
    Calls Tryz.prog 33 #[.pointer (some ⟨b, 0, none⟩), .pointer (some ⟨u, 0, none⟩), .pointer (some ⟨m, 0, none⟩)] w fun o w' => o = .returned (.int .i64 s) ∧ Y w' := by
  have hv := rvalid_w (L := (boxI b (rlC lv key vs x y z 2 W X K V C fd) :: boxI u (ruC e ro) :: refI m F ml :: R)) (k := 2) (s := 1000) (b := 3) (h := 1) (l := 1073741824) (A := none) (n := 0) (c := 0) (N := 0) (hs := 0) (r := ro) _ (rfl : getL ml (1, 0, 0) = getL ml (1, 0, 0)) hu he.1 he.2 hml 1 2 hE rfl rfl
  rw [hok] at hv
  simp only [List.set_cons_succ, List.set_cons_zero, if_true] at hv
  have HV := Lib.hid hv
  have HC := Lib.hid hc
  clear hv hok hu hc
  have r := hE.rule 0 rfl
  unfold rlC at r
  go_enter Tryz.func33, Tryz.ntmps33
  go_wp2_with fail
  refine HV.out.mono ?_
  rintro o w1 ⟨rfl, hE1⟩
  go_wp2_with fail
  refine (HC.out _ hE1).mono ?_
  rintro o w2 ⟨rfl, hY⟩
  go_wp2_with fail
  go_ret
  exact ⟨rfl, hY⟩

set_option maxHeartbeats 1600000 in
theorem rvn4 (hok : okB (getL ml (1, 0, 0)) e = false) (hu : InU (getL ml (1, 0, 0))) (he : 0 ≤ e ∧ e ≤ 9223372036854775807) (hml : ml.length ≤ 1000000) (hE : Env w0 (boxI b (rlC lv key vs x y z 4 W X K V C fd) :: boxI u (ruC e ro) :: refI m F ml :: R) w) :
    Calls Tryz.prog 33 #[.pointer (some ⟨b, 0, none⟩), .pointer (some ⟨u, 0, none⟩), .pointer (some ⟨m, 0, none⟩)] w fun o w' => o = .returned (.int .i64 2) ∧ Env w0 (boxI b (rlC lv key vs x y z 4 W X K V C fd) :: boxI u (ruC e (wrap64 (ro + 1))) :: refI m F ml :: R) w' := by
  have hv := rvalid_w (L := (boxI b (rlC lv key vs x y z 4 W X K V C fd) :: boxI u (ruC e ro) :: refI m F ml :: R)) (k := 2) (s := 1000) (b := 3) (h := 1) (l := 1073741824) (A := none) (n := 0) (c := 0) (N := 0) (hs := 0) (r := ro) _ (rfl : getL ml (1, 0, 0) = getL ml (1, 0, 0)) hu he.1 he.2 hml 1 2 hE rfl rfl
  rw [hok] at hv
  simp only [List.set_cons_succ, List.set_cons_zero, Bool.false_eq_true, if_false] at hv
  have HV := Lib.hid hv
  clear hv hok hu
  have r := hE.rule 0 rfl
  unfold rlC at r
  go_enter Tryz.func33, Tryz.ntmps33
  go_wp2_with fail
  refine HV.out.mono ?_
  rintro o w1 ⟨rfl, hE1⟩
  go_wp2_with fail
  go_ret
  exact ⟨rfl, hE1⟩
set_option maxHeartbeats 1600000 in
theorem rvy4 (hok : okB (getL ml (1, 0, 0)) e = true) (hu : InU (getL ml (1, 0, 0))) (he : 0 ≤ e ∧ e ≤ 9223372036854775807) (hml : ml.length ≤ 1000000) (s : Int) (Y : World → Prop) (hE : Env w0 (boxI b (rlC lv key vs x y z 4 W X K V C fd) :: boxI u (ruC e ro) :: refI m F ml :: R) w)
    (hc : ∀ v, Env w0 (boxI b (rlC lv key vs x y z 4 W X K V C fd) :: boxI u (ruC e ro) :: refI m F ml :: R) v → Calls Tryz.prog 66 #[.pointer (some ⟨b, 0, none⟩)] v fun o w' => o = .returned (.int .i64 s) ∧ Y w') :
    Calls Tryz.prog 33 #[.pointer (some ⟨b, 0, none⟩), .pointer (some ⟨u, 0, none⟩), .pointer (some ⟨m, 0, none⟩)] w fun o w' => o = .returned (.int .i64 s) ∧ Y w' := by
  have hv := rvalid_w (L := (boxI b (rlC lv key vs x y z 4 W X K V C fd) :: boxI u (ruC e ro) :: refI m F ml :: R)) (k := 2) (s := 1000) (b := 3) (h := 1) (l := 1073741824) (A := none) (n := 0) (c := 0) (N := 0) (hs := 0) (r := ro) _ (rfl : getL ml (1, 0, 0) = getL ml (1, 0, 0)) hu he.1 he.2 hml 1 2 hE rfl rfl
  rw [hok] at hv
  simp only [List.set_cons_succ, List.set_cons_zero, if_true] at hv
  have HV := Lib.hid hv
  have HC := Lib.hid hc
  clear hv hok hu hc
  have r := hE.rule 0 rfl
  unfold rlC at r
  go_enter Tryz.func33, Tryz.ntmps33
  go_wp2_with fail
  refine HV.out.mono ?_
  rintro o w1 ⟨rfl, hE1⟩
  go_wp2_with fail
  refine (HC.out _ hE1).mono ?_
  rintro o w2 ⟨rfl, hY⟩
  go_wp2_with fail
  go_ret
  exact ⟨rfl, hY⟩

set_option maxHeartbeats 1600000 in
theorem rvn7 (hok : okB (getL ml (1, 0, 0)) e = false) (hu : InU (getL ml (1, 0, 0))) (he : 0 ≤ e ∧ e ≤ 9223372036854775807) (hml : ml.length ≤ 1000000) (hE : Env w0 (boxI b (rlC lv key vs x y z 7 W X K V C fd) :: boxI u (ruC e ro) :: refI m F ml :: R) w) :
    Calls Tryz.prog 33 #[.pointer (some ⟨b, 0, none⟩), .pointer (some ⟨u, 0, none⟩), .pointer (some ⟨m, 0, none⟩)] w fun o w' => o = .returned (.int .i64 2) ∧ Env w0 (boxI b (rlC lv key vs x y z 7 W X K V C fd) :: boxI u (ruC e (wrap64 (ro + 1))) :: refI m F ml :: R) w' := by
  have hv := rvalid_w (L := (boxI b (rlC lv key vs x y z 7 W X K V C fd) :: boxI u (ruC e ro) :: refI m F ml :: R)) (k := 2) (s := 1000) (b := 3) (h := 1) (l := 1073741824) (A := none) (n := 0) (c := 0) (N := 0) (hs := 0) (r := ro) _ (rfl : getL ml (1, 0, 0) = getL ml (1, 0, 0)) hu he.1 he.2 hml 1 2 hE rfl rfl
  rw [hok] at hv
  simp only [List.set_cons_succ, List.set_cons_zero, Bool.false_eq_true, if_false] at hv
  have HV := Lib.hid hv
  clear hv hok hu
  have r := hE.rule 0 rfl
  unfold rlC at r
  go_enter Tryz.func33, Tryz.ntmps33
  go_wp2_with fail
  refine HV.out.mono ?_
  rintro o w1 ⟨rfl, hE1⟩
  go_wp2_with fail
  go_ret
  exact ⟨rfl, hE1⟩
set_option maxHeartbeats 1600000 in
theorem rvy7 (hok : okB (getL ml (1, 0, 0)) e = true) (hu : InU (getL ml (1, 0, 0))) (he : 0 ≤ e ∧ e ≤ 9223372036854775807) (hml : ml.length ≤ 1000000) (s : Int) (Y : World → Prop) (hE : Env w0 (boxI b (rlC lv key vs x y z 7 W X K V C fd) :: boxI u (ruC e ro) :: refI m F ml :: R) w)
    (hc : ∀ v, Env w0 (boxI b (rlC lv key vs x y z 7 W X K V C fd) :: boxI u (ruC e ro) :: refI m F ml :: R) v → Calls Tryz.prog 66 #[.pointer (some ⟨b, 0, none⟩)] v fun o w' => o = .returned (.int .i64 s) ∧ Y w') :
    Calls Tryz.prog 33 #[.pointer (some ⟨b, 0, none⟩), .pointer (some ⟨u, 0, none⟩), .pointer (some ⟨m, 0, none⟩)] w fun o w' => o = .returned (.int .i64 s) ∧ Y w' := by
  have hv := rvalid_w (L := (boxI b (rlC lv key vs x y z 7 W X K V C fd) :: boxI u (ruC e ro) :: refI m F ml :: R)) (k := 2) (s := 1000) (b := 3) (h := 1) (l := 1073741824) (A := none) (n := 0) (c := 0) (N := 0) (hs := 0) (r := ro) _ (rfl : getL ml (1, 0, 0) = getL ml (1, 0, 0)) hu he.1 he.2 hml 1 2 hE rfl rfl
  rw [hok] at hv
  simp only [List.set_cons_succ, List.set_cons_zero, if_true] at hv
  have HV := Lib.hid hv
  have HC := Lib.hid hc
  clear hv hok hu hc
  have r := hE.rule 0 rfl
  unfold rlC at r
  go_enter Tryz.func33, Tryz.ntmps33
  go_wp2_with fail
  refine HV.out.mono ?_
  rintro o w1 ⟨rfl, hE1⟩
  go_wp2_with fail
  refine (HC.out _ hE1).mono ?_
  rintro o w2 ⟨rfl, hY⟩
  go_wp2_with fail
  go_ret
  exact ⟨rfl, hY⟩

set_option maxHeartbeats 1600000 in
theorem rvn9 (hok : okB (getL ml (1, 0, 0)) e = false) (hu : InU (getL ml (1, 0, 0))) (he : 0 ≤ e ∧ e ≤ 9223372036854775807) (hml : ml.length ≤ 1000000) (hE : Env w0 (boxI b (rlC lv key vs x y z 9 W X K V C fd) :: boxI u (ruC e ro) :: refI m F ml :: R) w) :
    Calls Tryz.prog 33 #[.pointer (some ⟨b, 0, none⟩), .pointer (some ⟨u, 0, none⟩), .pointer (some ⟨m, 0, none⟩)] w fun o w' => o = .returned (.int .i64 2) ∧ Env w0 (boxI b (rlC lv key vs x y z 9 W X K V C fd) :: boxI u (ruC e (wrap64 (ro + 1))) :: refI m F ml :: R) w' := by
  have hv := rvalid_w (L := (boxI b (rlC lv key vs x y z 9 W X K V C fd) :: boxI u (ruC e ro) :: refI m F ml :: R)) (k := 2) (s := 1000) (b := 3) (h := 1) (l := 1073741824) (A := none) (n := 0) (c := 0) (N := 0) (hs := 0) (r := ro) _ (rfl : getL ml (1, 0, 0) = getL ml (1, 0, 0)) hu he.1 he.2 hml 1 2 hE rfl rfl
  rw [hok] at hv
  simp only [List.set_cons_succ, List.set_cons_zero, Bool.false_eq_true, if_false] at hv
  have HV := Lib.hid hv
  clear hv hok hu
  have r := hE.rule 0 rfl
  unfold rlC at r
  go_enter Tryz.func33, Tryz.ntmps33
  go_wp2_with fail
  refine HV.out.mono ?_
  rintro o w1 ⟨rfl, hE1⟩
  go_wp2_with fail
  go_ret
  exact ⟨rfl, hE1⟩
set_option maxHeartbeats 1600000 in
theorem rvy9 (hok : okB (getL ml (1, 0, 0)) e = true) (hu : InU (getL ml (1, 0, 0))) (he : 0 ≤ e ∧ e ≤ 9223372036854775807) (hml : ml.length ≤ 1000000) (s : Int) (Y : World → Prop) (hE : Env w0 (boxI b (rlC lv key vs x y z 9 W X K V C fd) :: boxI u (ruC e ro) :: refI m F ml :: R) w)
    (hc : ∀ v, Env w0 (boxI b (rlC lv key vs x y z 9 W X K V C fd) :: boxI u (ruC e ro) :: refI m F ml :: R) v → Calls Tryz.prog 66 #[.pointer (some ⟨b, 0, none⟩)] v fun o w' => o = .returned (.int .i64 s) ∧ Y w') :
    Calls Tryz.prog 33 #[.pointer (some ⟨b, 0, none⟩), .pointer (some ⟨u, 0, none⟩), .pointer (some ⟨m, 0, none⟩)] w fun o w' => o = .returned (.int .i64 s) ∧ Y w' := by
  have hv := rvalid_w (L := (boxI b (rlC lv key vs x y z 9 W X K V C fd) :: boxI u (ruC e ro) :: refI m F ml :: R)) (k := 2) (s := 1000) (b := 3) (h := 1) (l := 1073741824) (A := none) (n := 0) (c := 0) (N := 0) (hs := 0) (r := ro) _ (rfl : getL ml (1, 0, 0) = getL ml (1, 0, 0)) hu he.1 he.2 hml 1 2 hE rfl rfl
  rw [hok] at hv
  simp only [List.set_cons_succ, List.set_cons_zero, if_true] at hv
  have HV := Lib.hid hv
  have HC := Lib.hid hc
  clear hv hok hu hc
  have r := hE.rule 0 rfl
  unfold rlC at r
  go_enter Tryz.func33, Tryz.ntmps33
  go_wp2_with fail
  refine HV.out.mono ?_
  rintro o w1 ⟨rfl, hE1⟩
  go_wp2_with fail
  refine (HC.out _ hE1).mono ?_
  rintro o w2 ⟨rfl, hY⟩
  go_wp2_with fail
  go_ret
  exact ⟨rfl, hY⟩

end
/-- A reference's lane's cells, by the model. -/
def rlV (lv key : Int) (vs : Bool) (L : Lm) : List Value := rlC lv key vs L.p.1 L.p.2.1 L.p.2.2 (L.pc : Int) L.W L.X L.K L.V L.C L.fd
/-- A reference's lane, its thread's cells, its memory. -/
def RLn (w0 : World) (R : List Item) (b u m : Nat) (lv key : Int) (vs : Bool) (L : Lm) (e ro : Int) (f : Plc → Int) (N : Nat) (w : World) : Prop :=
  ∃ F ml, getL ml = f ∧ ml.length ≤ N ∧ Env w0 (boxI b (rlV lv key vs L) :: boxI u (ruC e ro) :: refI m F ml :: R) w
section
variable {w0 w : World} {R : List Item} {b u m N : Nat} {f : Plc → Int} {lv key e ro : Int} {vs : Bool} {L : Lm}

theorem rlane_0 (hpc : L.pc = 0) (hL : LmOk L) (hlv : 0 ≤ lv ∧ lv ≤ 1000000) (he : 0 ≤ e ∧ e ≤ 9223372036854775807) (hu : ∀ x, InU (f x)) (hN : N ≤ 1000000) (h : RLn w0 R b u m lv key vs L e ro f N w) :
    Calls Tryz.prog 33 #[.pointer (some ⟨b, 0, none⟩), .pointer (some ⟨u, 0, none⟩), .pointer (some ⟨m, 0, none⟩)] w fun o w' => o = .returned (.int .i64 (laneM lv key vs e L f).1) ∧ RLn w0 R b u m lv key vs (laneM lv key vs e L f).2.1 e (rollM e L f ro) (laneM lv key vs e L f).2.2 (N + 1) w' := by
  obtain ⟨F, ml, rfl, hl, hE⟩ := h
  have hE0 : Env w0 (boxI b (rlC lv key vs L.p.1 L.p.2.1 L.p.2.2 0 L.W L.X L.K L.V L.C L.fd) :: boxI u (ruC e ro) :: refI m F ml :: R) w := by
    have h9 := hE
    unfold rlV at h9
    rw [hpc] at h9
    exact h9
  clear hE
  have hM : laneM lv key vs e L (getL ml) = (0, { L with W := getL ml L.p, pc := 2 }, getL ml) := by simp [laneM, hpc]
  have hr : rollM e L (getL ml) ro = ro := by simp [rollM, hpc, isVal]
  rw [hM, hr]
  refine (rst0 (getL ml L.p) rfl (by omega) hE0).mono ?_
  rintro o w1 ⟨rfl, hE1⟩
  exact ⟨rfl, F, ml, rfl, by omega, hE1⟩

theorem rlane_3 (hpc : L.pc = 3) (hL : LmOk L) (hlv : 0 ≤ lv ∧ lv ≤ 1000000) (he : 0 ≤ e ∧ e ≤ 9223372036854775807) (hu : ∀ x, InU (f x)) (hN : N ≤ 1000000) (h : RLn w0 R b u m lv key vs L e ro f N w) :
    Calls Tryz.prog 33 #[.pointer (some ⟨b, 0, none⟩), .pointer (some ⟨u, 0, none⟩), .pointer (some ⟨m, 0, none⟩)] w fun o w' => o = .returned (.int .i64 (laneM lv key vs e L f).1) ∧ RLn w0 R b u m lv key vs (laneM lv key vs e L f).2.1 e (rollM e L f ro) (laneM lv key vs e L f).2.2 (N + 1) w' := by
  obtain ⟨F, ml, rfl, hl, hE⟩ := h
  have hE0 : Env w0 (boxI b (rlC lv key vs L.p.1 L.p.2.1 L.p.2.2 3 L.W L.X L.K L.V L.C L.fd) :: boxI u (ruC e ro) :: refI m F ml :: R) w := by
    have h9 := hE
    unfold rlV at h9
    rw [hpc] at h9
    exact h9
  clear hE
  have hM : laneM lv key vs e L (getL ml) = (0, { L with X := getL ml (5, L.C, 7 + lv), pc := 4 }, getL ml) := by simp [laneM, hpc]
  have hr : rollM e L (getL ml) ro = ro := by simp [rollM, hpc, isVal]
  rw [hM, hr]
  refine (rst3 hlv (getL ml (5, L.C, 7 + lv)) rfl (by omega) hE0).mono ?_
  rintro o w1 ⟨rfl, hE1⟩
  exact ⟨rfl, F, ml, rfl, by omega, hE1⟩

theorem rlane_6 (hpc : L.pc = 6) (hL : LmOk L) (hlv : 0 ≤ lv ∧ lv ≤ 1000000) (he : 0 ≤ e ∧ e ≤ 9223372036854775807) (hu : ∀ x, InU (f x)) (hN : N ≤ 1000000) (h : RLn w0 R b u m lv key vs L e ro f N w) :
    Calls Tryz.prog 33 #[.pointer (some ⟨b, 0, none⟩), .pointer (some ⟨u, 0, none⟩), .pointer (some ⟨m, 0, none⟩)] w fun o w' => o = .returned (.int .i64 (laneM lv key vs e L f).1) ∧ RLn w0 R b u m lv key vs (laneM lv key vs e L f).2.1 e (rollM e L f ro) (laneM lv key vs e L f).2.2 (N + 1) w' := by
  obtain ⟨F, ml, rfl, hl, hE⟩ := h
  have hE0 : Env w0 (boxI b (rlC lv key vs L.p.1 L.p.2.1 L.p.2.2 6 L.W L.X L.K L.V L.C L.fd) :: boxI u (ruC e ro) :: refI m F ml :: R) w := by
    have h9 := hE
    unfold rlV at h9
    rw [hpc] at h9
    exact h9
  clear hE
  have hM : laneM lv key vs e L (getL ml) = (0, { L with K := getL ml (5, L.C, 3), pc := 7 }, getL ml) := by simp [laneM, hpc]
  have hr : rollM e L (getL ml) ro = ro := by simp [rollM, hpc, isVal]
  rw [hM, hr]
  refine (rst6 (getL ml (5, L.C, 3)) rfl (by omega) hE0).mono ?_
  rintro o w1 ⟨rfl, hE1⟩
  exact ⟨rfl, F, ml, rfl, by omega, hE1⟩

theorem rlane_8 (hpc : L.pc = 8) (hL : LmOk L) (hlv : 0 ≤ lv ∧ lv ≤ 1000000) (he : 0 ≤ e ∧ e ≤ 9223372036854775807) (hu : ∀ x, InU (f x)) (hN : N ≤ 1000000) (h : RLn w0 R b u m lv key vs L e ro f N w) :
    Calls Tryz.prog 33 #[.pointer (some ⟨b, 0, none⟩), .pointer (some ⟨u, 0, none⟩), .pointer (some ⟨m, 0, none⟩)] w fun o w' => o = .returned (.int .i64 (laneM lv key vs e L f).1) ∧ RLn w0 R b u m lv key vs (laneM lv key vs e L f).2.1 e (rollM e L f ro) (laneM lv key vs e L f).2.2 (N + 1) w' := by
  obtain ⟨F, ml, rfl, hl, hE⟩ := h
  have hE0 : Env w0 (boxI b (rlC lv key vs L.p.1 L.p.2.1 L.p.2.2 8 L.W L.X L.K L.V L.C L.fd) :: boxI u (ruC e ro) :: refI m F ml :: R) w := by
    have h9 := hE
    unfold rlV at h9
    rw [hpc] at h9
    exact h9
  clear hE
  have hM : laneM lv key vs e L (getL ml) = (0, { L with V := getL ml (5, L.C, 4), pc := 9 }, getL ml) := by simp [laneM, hpc]
  have hr : rollM e L (getL ml) ro = ro := by simp [rollM, hpc, isVal]
  rw [hM, hr]
  refine (rst8 (getL ml (5, L.C, 4)) rfl (by omega) hE0).mono ?_
  rintro o w1 ⟨rfl, hE1⟩
  exact ⟨rfl, F, ml, rfl, by omega, hE1⟩

theorem swL_len (l : List OneR) (x : Plc) (o v : Int) : (swL l x o v).length ≤ l.length + 1 := by
  unfold swL
  split
  · exact setL_length _ _ _
  · omega
theorem rlane_5 (hpc : L.pc = 5) (hL : LmOk L) (hlv : 0 ≤ lv ∧ lv ≤ 1000000) (he : 0 ≤ e ∧ e ≤ 9223372036854775807) (hu : ∀ x, InU (f x)) (hN : N ≤ 1000000) (h : RLn w0 R b u m lv key vs L e ro f N w) :
    Calls Tryz.prog 33 #[.pointer (some ⟨b, 0, none⟩), .pointer (some ⟨u, 0, none⟩), .pointer (some ⟨m, 0, none⟩)] w fun o w' => o = .returned (.int .i64 (laneM lv key vs e L f).1) ∧ RLn w0 R b u m lv key vs (laneM lv key vs e L f).2.1 e (rollM e L f ro) (laneM lv key vs e L f).2.2 (N + 1) w' := by
  obtain ⟨F, ml, rfl, hl, hE⟩ := h
  have hE0 : Env w0 (boxI b (rlC lv key vs L.p.1 L.p.2.1 L.p.2.2 5 L.W L.X L.K L.V L.C L.fd) :: boxI u (ruC e ro) :: refI m F ml :: R) w := by
    have h9 := hE
    unfold rlV at h9
    rw [hpc] at h9
    exact h9
  clear hE
  have hr : rollM e L (getL ml) ro = ro := by simp [rollM, hpc, isVal]
  have hsl := swL_len ml L.p L.W (wordI false (slotI L.X) e)
  by_cases heq : getL ml L.p = L.W
  · have hM : laneM lv key vs e L (getL ml) = (cS (wordI false (slotI L.X) e), { L with W := wordI false (slotI L.X) e, X := 0, C := slotI (wordI false (slotI L.X) e), pc := 3 }, swf (getL ml) L.p L.W (wordI false (slotI L.X) e)) := by simp [laneM, hpc, heq, comeM_cS]
    rw [hM, hr]
    refine (rst5y heq hL.X (by omega) hE0).mono ?_
    rintro o w1 ⟨rfl, F', hE1⟩
    exact ⟨rfl, F', _, (swf_getL _ _ _ _).symm, by omega, hE1⟩
  · have hM : laneM lv key vs e L (getL ml) = (2, L, swf (getL ml) L.p L.W (wordI false (slotI L.X) e)) := by simp [laneM, hpc, heq]
    rw [hM, hr]
    refine (rst5n heq hL.X (by omega) hE0).mono ?_
    rintro o w1 ⟨rfl, F', hE1⟩
    refine ⟨rfl, F', _, (swf_getL _ _ _ _).symm, by omega, ?_⟩
    unfold rlV
    rw [hpc]
    exact hE1

theorem rlane_2 (hpc : L.pc = 2) (hL : LmOk L) (hlv : 0 ≤ lv ∧ lv ≤ 1000000) (he : 0 ≤ e ∧ e ≤ 9223372036854775807) (hu : ∀ x, InU (f x)) (hN : N ≤ 1000000) (h : RLn w0 R b u m lv key vs L e ro f N w) :
    Calls Tryz.prog 33 #[.pointer (some ⟨b, 0, none⟩), .pointer (some ⟨u, 0, none⟩), .pointer (some ⟨m, 0, none⟩)] w fun o w' => o = .returned (.int .i64 (laneM lv key vs e L f).1) ∧ RLn w0 R b u m lv key vs (laneM lv key vs e L f).2.1 e (rollM e L f ro) (laneM lv key vs e L f).2.2 (N + 1) w' := by
  obtain ⟨F, ml, rfl, hl, hE⟩ := h
  have hE0 : Env w0 (boxI b (rlC lv key vs L.p.1 L.p.2.1 L.p.2.2 2 L.W L.X L.K L.V L.C L.fd) :: boxI u (ruC e ro) :: refI m F ml :: R) w := by
    have h9 := hE
    unfold rlV at h9
    rw [hpc] at h9
    exact h9
  clear hE
  by_cases hok : okB (getL ml (1, 0, 0)) e = true
  · have hr : rollM e L (getL ml) ro = ro := by simp [rollM, hok]
    rw [hr]
    by_cases hmk : markB L.W = true
    · skip
      have hM : laneM lv key vs e L (getL ml) = (2, L, getL ml) := by simp [laneM, holdsM, hpc, hok, comeM_cS, hmk]
      rw [hM]
      refine rvy2 hok (hu _) he (by omega) _ _ hE0 fun v hv => ?_
      refine (holds2a_r hmk hL.W hv).mono ?_
      rintro o w1 ⟨rfl, hE1⟩
      refine ⟨rfl, F, ml, rfl, by omega, ?_⟩
      unfold rlV
      rw [hpc]
      exact hE1
    · have hmk : markB L.W = false := by simpa using hmk
      have hM : laneM lv key vs e L (getL ml) = (cS L.W, { L with W := L.W, X := 0, C := slotI L.W, pc := 3 }, getL ml) := by simp [laneM, holdsM, hpc, hok, comeM_cS, hmk]
      rw [hM]
      refine rvy2 hok (hu _) he (by omega) _ _ hE0 fun v hv => ?_
      refine (holds2b_r hmk hL.W hv).mono ?_
      rintro o w1 ⟨rfl, hE1⟩
      exact ⟨rfl, F, ml, rfl, by omega, hE1⟩
  · have hok : okB (getL ml (1, 0, 0)) e = false := by simpa using hok
    have hr : rollM e L (getL ml) ro = wrap64 (ro + 1) := by simp [rollM, hpc, isVal, hok]
    have hM : laneM lv key vs e L (getL ml) = (2, L, getL ml) := by simp [laneM, hpc, hok]
    rw [hM, hr]
    refine (rvn2 hok (hu _) he (by omega) hE0).mono ?_
    rintro o w1 ⟨rfl, hE1⟩
    refine ⟨rfl, F, ml, rfl, by omega, ?_⟩
    unfold rlV
    rw [hpc]
    exact hE1

theorem rlane_4 (hpc : L.pc = 4) (hL : LmOk L) (hlv : 0 ≤ lv ∧ lv ≤ 1000000) (he : 0 ≤ e ∧ e ≤ 9223372036854775807) (hu : ∀ x, InU (f x)) (hN : N ≤ 1000000) (h : RLn w0 R b u m lv key vs L e ro f N w) :
    Calls Tryz.prog 33 #[.pointer (some ⟨b, 0, none⟩), .pointer (some ⟨u, 0, none⟩), .pointer (some ⟨m, 0, none⟩)] w fun o w' => o = .returned (.int .i64 (laneM lv key vs e L f).1) ∧ RLn w0 R b u m lv key vs (laneM lv key vs e L f).2.1 e (rollM e L f ro) (laneM lv key vs e L f).2.2 (N + 1) w' := by
  obtain ⟨F, ml, rfl, hl, hE⟩ := h
  have hE0 : Env w0 (boxI b (rlC lv key vs L.p.1 L.p.2.1 L.p.2.2 4 L.W L.X L.K L.V L.C L.fd) :: boxI u (ruC e ro) :: refI m F ml :: R) w := by
    have h9 := hE
    unfold rlV at h9
    rw [hpc] at h9
    exact h9
  clear hE
  by_cases hok : okB (getL ml (1, 0, 0)) e = true
  · have hr : rollM e L (getL ml) ro = ro := by simp [rollM, hok]
    rw [hr]
    have hM : laneM lv key vs e L (getL ml) = (0, { L with pc := if markB L.X then 5 else 6 }, getL ml) := by simp [laneM, holdsM, hpc, hok, comeM_cS]
    rw [hM]
    refine rvy4 hok (hu _) he (by omega) _ _ hE0 fun v hv => ?_
    refine (holds4_r hL.X hv).mono ?_
    rintro o w1 ⟨rfl, hE1⟩
    refine ⟨rfl, F, ml, rfl, by omega, ?_⟩
    cases hmk : markB L.X
    · rw [hmk] at hE1
      exact hE1
    · rw [hmk] at hE1
      exact hE1
  · have hok : okB (getL ml (1, 0, 0)) e = false := by simpa using hok
    have hr : rollM e L (getL ml) ro = wrap64 (ro + 1) := by simp [rollM, hpc, isVal, hok]
    have hM : laneM lv key vs e L (getL ml) = (2, L, getL ml) := by simp [laneM, hpc, hok]
    rw [hM, hr]
    refine (rvn4 hok (hu _) he (by omega) hE0).mono ?_
    rintro o w1 ⟨rfl, hE1⟩
    refine ⟨rfl, F, ml, rfl, by omega, ?_⟩
    unfold rlV
    rw [hpc]
    exact hE1

theorem rlane_7 (hpc : L.pc = 7) (hL : LmOk L) (hlv : 0 ≤ lv ∧ lv ≤ 1000000) (he : 0 ≤ e ∧ e ≤ 9223372036854775807) (hu : ∀ x, InU (f x)) (hN : N ≤ 1000000) (h : RLn w0 R b u m lv key vs L e ro f N w) :
    Calls Tryz.prog 33 #[.pointer (some ⟨b, 0, none⟩), .pointer (some ⟨u, 0, none⟩), .pointer (some ⟨m, 0, none⟩)] w fun o w' => o = .returned (.int .i64 (laneM lv key vs e L f).1) ∧ RLn w0 R b u m lv key vs (laneM lv key vs e L f).2.1 e (rollM e L f ro) (laneM lv key vs e L f).2.2 (N + 1) w' := by
  obtain ⟨F, ml, rfl, hl, hE⟩ := h
  have hE0 : Env w0 (boxI b (rlC lv key vs L.p.1 L.p.2.1 L.p.2.2 7 L.W L.X L.K L.V L.C L.fd) :: boxI u (ruC e ro) :: refI m F ml :: R) w := by
    have h9 := hE
    unfold rlV at h9
    rw [hpc] at h9
    exact h9
  clear hE
  by_cases hok : okB (getL ml (1, 0, 0)) e = true
  · have hr : rollM e L (getL ml) ro = ro := by simp [rollM, hok]
    rw [hr]
    by_cases hlt : L.K < key
    · skip
      have hM : laneM lv key vs e L (getL ml) = (cS L.X, { L with p := (5, L.C, 7 + lv), W := L.X, X := 0, C := slotI L.X, pc := 3 }, getL ml) := by simp [laneM, holdsM, hpc, hok, comeM_cS, hlt]
      rw [hM]
      refine rvy7 hok (hu _) he (by omega) _ _ hE0 fun v hv => ?_
      refine (holds7a_r hlt hlv hL.X hv).mono ?_
      rintro o w1 ⟨rfl, hE1⟩
      exact ⟨rfl, F, ml, rfl, by omega, hE1⟩
    · by_cases heq : L.K = key
      · cases vs
        · skip
          have hM : laneM lv key false e L (getL ml) = (1, { L with fd := true }, getL ml) := by simp [laneM, holdsM, hpc, hok, comeM_cS, heq]
          rw [hM]
          refine rvy7 hok (hu _) he (by omega) _ _ hE0 fun v hv => ?_
          refine (holds7b_r heq hv).mono ?_
          rintro o w1 ⟨rfl, hE1⟩
          refine ⟨rfl, F, ml, rfl, by omega, ?_⟩
          unfold rlV
          dsimp only
          rw [hpc]
          exact hE1
        · skip
          have hM : laneM lv key true e L (getL ml) = (0, { L with fd := true, pc := 8 }, getL ml) := by simp [laneM, holdsM, hpc, hok, comeM_cS, heq]
          rw [hM]
          refine rvy7 hok (hu _) he (by omega) _ _ hE0 fun v hv => ?_
          refine (holds7c_r heq hv).mono ?_
          rintro o w1 ⟨rfl, hE1⟩
          exact ⟨rfl, F, ml, rfl, by omega, hE1⟩
      · skip
        have hM : laneM lv key vs e L (getL ml) = (1, L, getL ml) := by simp [laneM, holdsM, hpc, hok, comeM_cS, hlt, heq]
        rw [hM]
        refine rvy7 hok (hu _) he (by omega) _ _ hE0 fun v hv => ?_
        refine (holds7d_r (by omega) hv).mono ?_
        rintro o w1 ⟨rfl, hE1⟩
        refine ⟨rfl, F, ml, rfl, by omega, ?_⟩
        unfold rlV
        rw [hpc]
        exact hE1
  · have hok : okB (getL ml (1, 0, 0)) e = false := by simpa using hok
    have hr : rollM e L (getL ml) ro = wrap64 (ro + 1) := by simp [rollM, hpc, isVal, hok]
    have hM : laneM lv key vs e L (getL ml) = (2, L, getL ml) := by simp [laneM, hpc, hok]
    rw [hM, hr]
    refine (rvn7 hok (hu _) he (by omega) hE0).mono ?_
    rintro o w1 ⟨rfl, hE1⟩
    refine ⟨rfl, F, ml, rfl, by omega, ?_⟩
    unfold rlV
    rw [hpc]
    exact hE1

theorem rlane_9 (hpc : L.pc = 9) (hL : LmOk L) (hlv : 0 ≤ lv ∧ lv ≤ 1000000) (he : 0 ≤ e ∧ e ≤ 9223372036854775807) (hu : ∀ x, InU (f x)) (hN : N ≤ 1000000) (h : RLn w0 R b u m lv key vs L e ro f N w) :
    Calls Tryz.prog 33 #[.pointer (some ⟨b, 0, none⟩), .pointer (some ⟨u, 0, none⟩), .pointer (some ⟨m, 0, none⟩)] w fun o w' => o = .returned (.int .i64 (laneM lv key vs e L f).1) ∧ RLn w0 R b u m lv key vs (laneM lv key vs e L f).2.1 e (rollM e L f ro) (laneM lv key vs e L f).2.2 (N + 1) w' := by
  obtain ⟨F, ml, rfl, hl, hE⟩ := h
  have hE0 : Env w0 (boxI b (rlC lv key vs L.p.1 L.p.2.1 L.p.2.2 9 L.W L.X L.K L.V L.C L.fd) :: boxI u (ruC e ro) :: refI m F ml :: R) w := by
    have h9 := hE
    unfold rlV at h9
    rw [hpc] at h9
    exact h9
  clear hE
  by_cases hok : okB (getL ml (1, 0, 0)) e = true
  · have hr : rollM e L (getL ml) ro = ro := by simp [rollM, hok]
    rw [hr]
    have hM : laneM lv key vs e L (getL ml) = (1, L, getL ml) := by simp [laneM, holdsM, hpc, hok, comeM_cS]
    rw [hM]
    refine rvy9 hok (hu _) he (by omega) _ _ hE0 fun v hv => ?_
    refine (holds9_r hv).mono ?_
    rintro o w1 ⟨rfl, hE1⟩
    refine ⟨rfl, F, ml, rfl, by omega, ?_⟩
    unfold rlV
    rw [hpc]
    exact hE1
  · have hok : okB (getL ml (1, 0, 0)) e = false := by simpa using hok
    have hr : rollM e L (getL ml) ro = wrap64 (ro + 1) := by simp [rollM, hpc, isVal, hok]
    have hM : laneM lv key vs e L (getL ml) = (2, L, getL ml) := by simp [laneM, hpc, hok]
    rw [hM, hr]
    refine (rvn9 hok (hu _) he (by omega) hE0).mono ?_
    rintro o w1 ⟨rfl, hE1⟩
    refine ⟨rfl, F, ml, rfl, by omega, ?_⟩
    unfold rlV
    rw [hpc]
    exact hE1

theorem rlane (hL : LmOk L) (hlv : 0 ≤ lv ∧ lv ≤ 1000000) (he : 0 ≤ e ∧ e ≤ 9223372036854775807) (hu : ∀ x, InU (f x)) (hN : N ≤ 1000000) (h : RLn w0 R b u m lv key vs L e ro f N w) :
    Calls Tryz.prog 33 #[.pointer (some ⟨b, 0, none⟩), .pointer (some ⟨u, 0, none⟩), .pointer (some ⟨m, 0, none⟩)] w fun o w' => o = .returned (.int .i64 (laneM lv key vs e L f).1) ∧ RLn w0 R b u m lv key vs (laneM lv key vs e L f).2.1 e (rollM e L f ro) (laneM lv key vs e L f).2.2 (N + 1) w' := by
  rcases hL.pc with h0 | h0 | h0 | h0 | h0 | h0 | h0 | h0 | h0
  · exact rlane_0 h0 hL hlv he hu hN h
  · exact rlane_2 h0 hL hlv he hu hN h
  · exact rlane_3 h0 hL hlv he hu hN h
  · exact rlane_4 h0 hL hlv he hu hN h
  · exact rlane_5 h0 hL hlv he hu hN h
  · exact rlane_6 h0 hL hlv he hu hN h
  · exact rlane_7 h0 hL hlv he hu hN h
  · exact rlane_8 h0 hL hlv he hu hN h
  · exact rlane_9 h0 hL hlv he hu hN h
end
end Go.Proofs.YtchcdfoncebemaaGreatDoor

/- The reference's search: Step over the model. -/
namespace Go.Proofs.YtchcdfoncebemaaGreatDoor
open Go.RowKit Go.Maps
set_option maxRecDepth 100000

/-- A reference's search's cells. -/
def rsC (k key : Int) (vs on : Bool) (lp : Option Addr) : List Value := [.int .i64 k, .int .u64 key, .bool vs, .bool on, .pointer lp]
/-- A reference's search, and all that it needs. -/
def RSr (w0 : World) (R : List Item) (qb u m : Nat) (k key : Int) (vs : Bool) (T : Sm) (f : Plc → Int) (N : Nat) (w : World) : Prop :=
  (T.on = false ∧ ∃ lp F ml, getL ml = f ∧ ml.length ≤ N ∧ Env w0 (boxI qb (rsC k key vs false lp) :: boxI u (ruC T.e T.r) :: refI m F ml :: R) w) ∨ (T.on = true ∧ ∃ b, RLn w0 (boxI qb (rsC k key vs true (some ⟨b, 0, none⟩)) :: R) b u m 0 key vs T.L T.e T.r f N w)

section
variable {w0 w : World} {R : List Item} {qb u m N : Nat} {F : Nat → Prop} {ml : List OneR} {f : Plc → Int} {k key e ro : Int} {vs : Bool} {T : Sm} {lp : Option Addr}
set_option maxHeartbeats 3200000 in
theorem rsoff (hml : ml.length ≤ 1000000) (hu : InU (getL ml (1, 0, 0))) (hE : Env w0 (boxI qb (rsC k key vs false lp) :: boxI u (ruC e ro) :: refI m F ml :: R) w) :
    Calls Tryz.prog 18 #[.pointer (some ⟨qb, 0, none⟩), .pointer (some ⟨u, 0, none⟩), .pointer (some ⟨m, 0, none⟩)] w fun o w' => o = .returned (.int .i64 0) ∧ ∃ b, Env w0 (boxI b (rlC 0 key vs 4 0 k 0 0 0 0 0 0 false) :: boxI qb (rsC k key vs true (some ⟨b, 0, none⟩)) :: boxI u (ruC (epI (getL ml (1, 0, 0))) ro) :: refI m F ml :: R) w' := by
  have hc := rcheck_w (L := boxI qb (rsC k key vs false lp) :: boxI u (ruC e ro) :: refI m F ml :: R) (k := 2) (s := 1000) (b := 3) (h := 1) (l := 1073741824) (A := none) (n := 0) (c := 0) (N := 0) (hs := 0) (r := ro) (e := e) _ (rfl : getL ml (1, 0, 0) = getL ml (1, 0, 0)) hu hml 1 2 hE rfl rfl
  simp only [List.set_cons_succ, List.set_cons_zero] at hc
  have HC := Lib.hid hc
  clear hc
  have r := hE.rule 0 rfl
  unfold rsC at r
  go_enter Tryz.func18, Tryz.ntmps18
  go_wp2_with fail
  refine HC.out.mono ?_
  rintro o w1 ⟨rfl, hE1⟩
  obtain ⟨e1, he1⟩ : ∃ e1, epI (getL ml (1, 0, 0)) = e1 := ⟨_, rfl⟩
  replace hE1 : Env w0 (boxI qb (rsC k key vs false lp) :: boxI u (ruC (epI (getL ml (1, 0, 0))) ro) :: refI m F ml :: R) w1 := hE1
  rw [he1] at hE1
  have HE1 := Lib.hid he1
  clear HC hE r he1
  go_wp2_with fail
  refine Ord3.wp_chain [?_, ?_, ?_, ?_, ?_, ?_, ?_, ?_, ?_, ?_, ?_, ?_, ?_, ?_, ?_, ?_, ?_, ?_, ?_] [15, 18] (fun w' => ∃ l9, Blk 0 w' qb (rsC k key vs false l9)) (Ord3.Stage fun κs => [Env w0 (boxI qb (rsC k key vs false lp) :: boxI u (ruC e1 ro) :: refI m F ml :: R), fun w' => ∃ b, κs.getD 0 undef = .pointer (some ⟨b, 0, none⟩) ∧ Env w0 (boxI b (rlC 0 key vs 4 0 k 0 0 0 0 0 0 false) :: boxI qb (rsC k key vs false lp) :: boxI u (ruC e1 ro) :: refI m F ml :: R) w', fun w' => ∃ b, Env w0 (boxI b (rlC 0 key vs 4 0 k 0 0 0 0 0 0 false) :: boxI qb (rsC k key vs false (some ⟨b, 0, none⟩)) :: boxI u (ruC e1 ro) :: refI m F ml :: R) w']) (by kernel_rfl) (by kernel_rfl) (by kernel_rfl) ⟨lp, hE1.drew.get 0 rfl⟩ ⟨_, rfl, hE1.drew⟩ (fun hT => ?_)
  rotate_left 19
  have hT9 := Lib.hid hT
  clear hT
  repeat (first
    | (focus (refine Ord3.in_value (v := ?_) hT9.out (by decide) ?_ (by rfl) ?_ ?_; rotate_left 2; (focus (intro w5 hS; obtain ⟨l9, hS9⟩ := hS; have r1 := Blk.rule hS9; unfold rsC at r1; go_simp <;> with_reducible rfl)); rotate_right; (focus rfl); (try simp only [Act.put, List.setIfInBounds_toArray, List.set_cons_zero, List.set_cons_succ])))
    | (focus (refine Ord3.in_off hT9.out (by decide) ?_ (by rfl) ?_; (focus rfl); (try simp only [Act.put, List.setIfInBounds_toArray, List.set_cons_zero, List.set_cons_succ]))))
  refine Ord3.in_turn (fun u => ∃ q, u = .pointer (some ⟨q, 0, none⟩)) _ ⟨0, rfl⟩ hT9.out rfl (by decide) (by rfl) ?_ (Or.inl rfl) (by rfl) ?_ ?_
  · rfl
  · rintro w7 hC7 ⟨P7, hP7, hA7⟩
    cases hP7
    go_simp
    simp only [Ord3.Lands]
    have hE8 := hA7.box w7.heap.size rfl (rlC 0 key vs 4 0 k 0 0 0 0 0 0 false) 67
    exact ⟨⟨_, rfl⟩, ⟨lp, hE8.get 1 rfl⟩, _, rfl, w7.heap.size, rfl, hE8⟩
  rintro _ ⟨b9, rfl⟩
  (try simp only [Act.put, List.setIfInBounds_toArray, List.set_cons_zero, List.set_cons_succ])
  repeat (first
    | (focus (refine Ord3.in_value (v := ?_) hT9.out (by decide) ?_ (by rfl) ?_ ?_; rotate_left 2; (focus (intro w5 hS; obtain ⟨l9, hS9⟩ := hS; have r1 := Blk.rule hS9; unfold rsC at r1; go_simp <;> with_reducible rfl)); rotate_right; (focus rfl); (try simp only [Act.put, List.setIfInBounds_toArray, List.set_cons_zero, List.set_cons_succ])))
    | (focus (refine Ord3.in_off hT9.out (by decide) ?_ (by rfl) ?_; (focus rfl); (try simp only [Act.put, List.setIfInBounds_toArray, List.set_cons_zero, List.set_cons_succ]))))
  refine Ord3.in_turn (fun u => u = undef) _ rfl hT9.out rfl (by decide) (by rfl) ?_ (Or.inr ⟨_, 15, [], rfl, by kernel_rfl, by kernel_rfl, rfl⟩) (by rfl) ?_ ?_
  · rfl
  · rintro w7 hC7 ⟨P7, hP7, hA7⟩
    cases hP7
    obtain ⟨b8, he, hA7⟩ := hA7
    cases he
    have r := hA7.rule 1 rfl
    unfold rsC at r
    have g := hA7.thaw 1 rfl 4 (by simp [rsC])
    go_simp
    simp only [Ord3.Lands]
    have h9 := hA7.put 1 rfl (j := 4) (by simp [rsC]) (.pointer (some ⟨b9, 0, none⟩))
    exact ⟨trivial, ⟨_, h9.get 1 rfl⟩, _, rfl, b9, h9⟩
  rintro _ rfl
  (try simp only [Act.put, List.setIfInBounds_toArray, List.set_cons_zero, List.set_cons_succ])
  refine Ord3.in_nil rfl ?_
  rintro w9 hC9 ⟨P9, hP9, hA9⟩
  cases hP9
  obtain ⟨b8, hA9⟩ := hA9
  clear hT9 hC9 hE1
  have r := hA9.rule 1 rfl
  unfold rsC at r
  have g := hA9.thaw 1 rfl 3 (by simp [rsC])
  have hP := hA9.put 1 rfl (j := 3) (by simp [rsC]) (.bool true)
  go_wp2_with fail
  go_ret
  refine ⟨rfl, b8, ?_⟩
  rw [HE1.out]
  exact hP
set_option maxHeartbeats 3200000 in
theorem rsearch (hT : SmOk T) (he : 0 ≤ T.e ∧ T.e ≤ 9223372036854775807) (hu : ∀ x, InU (f x)) (hN : N ≤ 1000000) (h : RSr w0 R qb u m k key vs T f N w) :
    Calls Tryz.prog 18 #[.pointer (some ⟨qb, 0, none⟩), .pointer (some ⟨u, 0, none⟩), .pointer (some ⟨m, 0, none⟩)] w fun o w' => o = .returned (.int .i64 (searchM k key vs T f).1) ∧ RSr w0 R qb u m k key vs (searchM k key vs T f).2.1 (searchM k key vs T f).2.2 (N + 1) w' := by
  rcases h with ⟨hoff, lp, F, ml, rfl, hl, hE⟩ | ⟨hon, b, hR⟩
  · have hM : searchM k key vs T (getL ml) = (0, { on := true, L := L0 (4, 0, k), e := epI (getL ml (1, 0, 0)), r := T.r }, getL ml) := by unfold searchM; rw [hoff]; rfl
    rw [hM]
    refine (rsoff (by omega) (hu _) hE).mono ?_
    rintro o w1 ⟨rfl, b, hE1⟩
    refine ⟨rfl, .inr ⟨rfl, b, F, ml, rfl, by omega, ?_⟩⟩
    exact hE1.perm (List.Perm.cons _ (List.perm_middle (l₁ := [_, _])).symm)
  · obtain ⟨hL, hp⟩ := hT hon
    have hM : searchM k key vs T f = (if (laneM 0 key vs T.e T.L f).1 = 1 then 1 else 0, { on := decide ((laneM 0 key vs T.e T.L f).1 ≠ 2), L := (laneM 0 key vs T.e T.L f).2.1, e := T.e, r := rollM T.e T.L f T.r }, (laneM 0 key vs T.e T.L f).2.2) := by unfold searchM; rw [if_pos hon]
    have hst := rlane hL (show (0 : Int) ≤ 0 ∧ (0 : Int) ≤ 1000000 by omega) he hu hN hR
    have hsl := lane_state 0 key vs T.e T.L f
    rw [hM]
    obtain ⟨F, ml, -, -, hE⟩ := hR
    have r : ∀ i, w.cell? ⟨qb, i, none⟩ = _ := hE.rule 3 rfl
    unfold rsC at r
    clear hE
    generalize hq : laneM 0 key vs T.e T.L f = q at *
    obtain ⟨q1, q2, q3⟩ := q
    have HST := Lib.hid hst
    have HSL := Lib.hid hsl
    clear hst hsl hq hM hu he
    go_enter Tryz.func18, Tryz.ntmps18
    go_wp2_with fail
    refine HST.out.mono ?_
    rintro o w1 ⟨rfl, hR'⟩
    have HR' := Lib.hid hR'
    clear hR' HST r
    rcases HSL.out with h1 | h1 | h1
    · have h1' : q1 = 0 := h1
      subst h1'
      go_wp2_with fail
      go_ret
      exact ⟨rfl, .inr ⟨rfl, b, HR'.out⟩⟩
    · have h1' : q1 = 1 := h1
      subst h1'
      go_wp2_with fail
      go_ret
      exact ⟨rfl, .inr ⟨rfl, b, HR'.out⟩⟩
    · have h1' : q1 = 2 := h1
      subst h1'
      obtain ⟨F', ml', hg', hl', hE'⟩ := HR'.out
      have r : ∀ i, w1.cell? ⟨qb, i, none⟩ = _ := hE'.rule 3 rfl
      unfold rsC at r
      have g := hE'.thaw 3 rfl 3 (by simp [rsC])
      have hP := hE'.put 3 rfl (j := 3) (by simp [rsC]) (.bool false)
      go_wp2_with fail
      go_ret
      refine ⟨rfl, .inl ⟨rfl, some ⟨b, 0, none⟩, F', ml', hg', hl', ?_⟩⟩
      have hP2 := hP.sub (L' := boxI u (ruC T.e (rollM T.e T.L f T.r)) :: refI m F' ml' :: boxI qb (rsC k key vs false (some ⟨b, 0, none⟩)) :: R) (.cons _ (List.Sublist.refl _))
      exact hP2.perm (List.perm_middle (l₁ := [_, _]))
end
end Go.Proofs.YtchcdfoncebemaaGreatDoor

/- Deeds to a memory that came in: a row of structs. -/
namespace Go.Proofs.YtchcdfoncebemaaGreatDoor
open Go.RowKit Go.Maps
set_option maxRecDepth 100000

structure ActZ where
  kd : Int
  x : Int
  y : Int
  z : Int
  v : Int
instance : Inhabited ActZ := ⟨⟨0, 0, 0, 0, 0⟩⟩
def encActZ (r : ActZ) : List Value := [.int .i64 r.kd, .int .i64 r.x, .int .i64 r.y, .int .i64 r.z, .int .u64 r.v]
def OkActZ (r : ActZ) : Prop := In64 r.kd ∧ In64 r.x ∧ In64 r.y ∧ In64 r.z ∧ InU r.v
theorem flatActZ : flatT Tryz.prog 6 60 = some [.num .i64, .num .i64, .num .i64, .num .i64, .num .u64] := by kernel_rfl
theorem cellsActZ : Tryz.prog.cellsOf 60 = 5 := by kernel_rfl
theorem open_ActZ {H : Type} {en : TypeId × Value → H} {W : World} {A : Option Addr} {len cap : Nat} {d : DataW H} {p : List MemPlace}
    (h : DataW.Trod en Tryz.prog W 0 (fun _ => true) true 24 (.slice A len cap) d p) (hlt : ∀ x ∈ p, x.block < W.heap.size) :
    ∃ xs : List ActZ, xs.length = len ∧ len ≤ maxLen ∧ (∀ r ∈ xs, OkActZ r) ∧ RowX encActZ 5 W A xs := by
  refine open_rowX Tryz.underlying24 flatActZ cellsActZ (by simp) (fun w b o hall => ?_) h hlt
  obtain ⟨_, c0, x0, rfl, w0⟩ := hall 0 _ rfl
  obtain ⟨_, c1, x1, rfl, w1⟩ := hall 1 _ rfl
  obtain ⟨_, c2, x2, rfl, w2⟩ := hall 2 _ rfl
  obtain ⟨_, c3, x3, rfl, w3⟩ := hall 3 _ rfl
  obtain ⟨_, c4, x4, rfl, w4⟩ := hall 4 _ rfl
  refine ⟨⟨x0, x1, x2, x3, x4⟩, fun j v e => ?_, wf_i.1 w0, wf_i.1 w1, wf_i.1 w2, wf_i.1 w3, wf_u.1 w4⟩
  match j with
  | 0 => simp [encActZ] at e; subst e; exact c0
  | 1 => simp [encActZ] at e; subst e; exact c1
  | 2 => simp [encActZ] at e; subst e; exact c2
  | 3 => simp [encActZ] at e; subst e; exact c3
  | 4 => simp [encActZ] at e; subst e; exact c4
  | j + 5 => simp [encActZ] at e
theorem at_ActZ {w : World} {b o : Nat} {kd x y z v : Int} (h : CellsAt w b o (encActZ ⟨kd, x, y, z, v⟩)) :
    w.cell? ⟨b, o, none⟩ = some (.int .i64 kd) ∧ w.cell? ⟨b, o + 1, none⟩ = some (.int .i64 x) ∧ w.cell? ⟨b, o + 2, none⟩ = some (.int .i64 y) ∧ w.cell? ⟨b, o + 3, none⟩ = some (.int .i64 z) ∧ w.cell? ⟨b, o + 4, none⟩ = some (.int .u64 v) :=
  ⟨h 0 _ rfl, h 1 _ rfl, h 2 _ rfl, h 3 _ rfl, h 4 _ rfl⟩
end Go.Proofs.YtchcdfoncebemaaGreatDoor

/- Shared cells: the contracts of the accesses. -/
namespace Go.Proofs.YtchcdfoncebemaaGreatDoor
open Go.RowKit Go.Maps
set_option maxRecDepth 100000

section
variable {w w' : World} {c n : Nat} {F : Nat → Prop} {f : Plc → Int} {q : Cnt}
end

set_option maxHeartbeats 1600000 in
theorem add_any {c n : Nat} {F : Nat → Prop} {f : Plc → Int} {q : Cnt} {w : World} (a b d v : Int) (hx : Wf (a, b, d)) (hn : n < maxLen) (hC : IsC w c F f q n) :
    Calls Tryz.prog 69 #[.pointer (some ⟨c, 0, none⟩), .agg #[.int .i64 a, .int .i64 b, .int .i64 d], .int .u64 v] w fun e w' => e = .returned (.int .u64 (f (a, b, d))) ∧ ∃ F', IsC w' c F' (upd f (a, b, d) (IntKind.u64.wrap (f (a, b, d) + v))) { q with a := wrap64 (q.a + 1) } (n + 1) ∧ Step F F' w w' := by
  have hFc := hC.at
  obtain ⟨mp, hb, hm, hF⟩ := hC
  have r0 := hb.rule
  have hcl := hb.1
  have r1 := cell_more hcl r0
  have z1 := hb.thaw 5 (by simp [cv])
  have hS0 := ticked hb hm hFc (i := 5) (v := .int .i64 (wrap64 (q.a + 1))) (q1 := { q with a := wrap64 (q.a + 1) }) (by omega) rfl [.int .i64 a, .int .i64 b, .int .i64 d] 58
  unfold cv at r0 r1
  go_enter Tryz.func69, Tryz.ntmps69
  go_wp2_with fail
  generalize (w.setCell ⟨c, 5, none⟩ (.int .i64 (wrap64 (q.a + 1)))).alloc _ = w1 at *
  clear r0 r1 z1
  refine Ord.wp_chain [] (fun w' => At F c w w.heap.size [.int .i64 a, .int .i64 b, .int .i64 d] mp { q with a := wrap64 (q.a + 1) } w' ∧ MapIs w' mp f n) (fun _ _ => True) (by kernel_rfl) (by kernel_rfl) (by kernel_rfl) ⟨hS0.1.drew, hS0.2.drew⟩ trivial (fun hT => ?_)
  have hT9 := Lib.hid hT
  clear hT
  repeat (first
    | (refine Ord.ch_value (v := ?_) hT9.out (by decide) (by rfl) ?_ ?_; rotate_left; (focus (intro w5 hS; have r := hS.1.2.1.rule; unfold cv at r; have r2 := hS.1.2.2.rule; have hl := hS.2.look hx; simp only [pv] at hl; go_simp <;> with_reducible rfl)); (try simp only [Act.put, List.setIfInBounds_toArray, List.set_cons_zero, List.set_cons_succ]))
    | (refine Ord.ch_off hT9.out (by decide) (by rfl) ?_; (try simp only [Act.put, List.setIfInBounds_toArray, List.set_cons_zero, List.set_cons_succ])))
  refine Ord.InText.nil fun w5 hS => ?_
  clear hT9
  obtain ⟨hA9, hM9⟩ := Ord.chain_end hS
  clear hS
  have r2 := hA9.1.2.2.rule
  have HX := Lib.hid hx
  have hu : InU (IntKind.u64.wrap (f (a, b, d) + v)) := by rw [IntKind.wrap_u64]; unfold InU; omega
  clear hx
  go_wp2_with fail
  refine (put_any a b d (IntKind.u64.wrap (f (a, b, d) + v)) HX.out hu hn (.of hA9.1 hA9.2 hF)).mono ?_
  rintro e w2 ⟨rfl, F', hC2, hs2⟩
  clear r2
  go_wp2
  go_ret
  exact ⟨rfl, F', hC2, (Step.mk hA9.1.1 fun k h => .inl h).trans hs2⟩

end Go.Proofs.YtchcdfoncebemaaGreatDoor

/- The plain world: contracts of its accesses: each is the cells' own, among whatever other things there are. -/
namespace Go.Proofs.YtchcdfoncebemaaGreatDoor
open Go.RowKit Go.Maps
set_option maxRecDepth 100000

section
variable {w0 w : World} {L : List Item} {p c n : Nat} {F : Nat → Prop} {f : Plc → Int} {q : Cnt}

set_option maxHeartbeats 1600000 in
theorem add_w (x y z d v : Int) (hx : Wf (x, y, z)) (hn : n < maxLen) (i j : Nat) (hij : j ≠ i) (hE : Env w0 L w) (hi : L[i]? = some (wbox p c)) (hj : L[j]? = some (cellI c F f q n)) :
    Calls Tryz.prog 40 #[.pointer (some ⟨p, 0, none⟩), .agg #[.int .i64 x, .int .i64 y, .int .i64 z, .int .i64 d], .int .u64 v] w fun e w' => e = .returned (.int .u64 (f (x, y, z))) ∧ ∃ F', Env w0 (L.set j (cellI c F' (upd f (x, y, z) (IntKind.u64.wrap (f (x, y, z) + v))) { q with a := wrap64 (q.a + 1) } (n + 1))) w' := by
  replace hE := (hE.box w.heap.size rfl [.int .i64 x, .int .i64 y, .int .i64 z, .int .i64 d] 72)
  have hi' : (boxI (w.heap.size) [.int .i64 x, .int .i64 y, .int .i64 z, .int .i64 d] :: L)[i + 1]? = some (wbox p c) := hi
  have hj' : (boxI (w.heap.size) [.int .i64 x, .int .i64 y, .int .i64 z, .int .i64 d] :: L)[j + 1]? = some (cellI c F f q n) := hj
  have HX := Lib.hid hx
  clear hx
  go_enter Tryz.func40, Tryz.ntmps40
  go_wp2_with fail
  generalize w.heap.size = X at *
  refine Ord.wp_chain [5] (fun w' => Blk 0 w' X [.int .i64 x, .int .i64 y, .int .i64 z, .int .i64 d] ∧ Blk 0 w' p [.pointer (some ⟨c, 0, none⟩)]) (Stage [Env w0 (boxI X [.int .i64 x, .int .i64 y, .int .i64 z, .int .i64 d] :: L), fun w' => ∃ F', Env w0 (boxI X [.int .i64 x, .int .i64 y, .int .i64 z, .int .i64 d] :: L.set j (cellI c F' (upd f (x, y, z) (IntKind.u64.wrap (f (x, y, z) + v))) { q with a := wrap64 (q.a + 1) } (n + 1))) w']) (by kernel_rfl) (by kernel_rfl) (by kernel_rfl) ⟨hE.drew.get 0 rfl, hE.drew.get (i + 1) hi'⟩ ⟨_, rfl, hE.drew⟩ (fun hT => ?_)
  have hT9 := Lib.hid hT
  clear hT
  repeat (first
    | (refine Ord.ch_value (v := ?_) hT9.out (by decide) (by rfl) ?_ ?_; rotate_left; (focus (intro w5 hS; have r0 := hS.1.rule; go_simp <;> with_reducible rfl)); (try simp only [Act.put, List.setIfInBounds_toArray, List.set_cons_zero, List.set_cons_succ]))
    | (refine Ord.ch_off hT9.out (by decide) (by rfl) ?_; (try simp only [Act.put, List.setIfInBounds_toArray, List.set_cons_zero, List.set_cons_succ]))
    | (refine Ord.ch_call (v := ?_) (f := ?_) (args := ?_) hT9.out (by decide) (by rfl) ?_ ?_ ?_; rotate_left 3; (focus (intro w5 hS; have r0 := hS.1.rule; go_simp; constructor <;> with_reducible rfl)); (focus (intro w5 hS; (first | (with_reducible refine (kept_any hS.2).mono ?_; rintro e w6 ⟨rfl, rfl⟩; constructor; with_reducible rfl; exact ⟨hS, fun _ h => h⟩)))); (try simp only [Act.put, List.setIfInBounds_toArray, List.set_cons_zero, List.set_cons_succ])))
  refine Ord.ch_turn (v := .int .u64 (f (x, y, z))) 0 hT9.out rfl (by decide) (Or.inl rfl) (by rfl) ?_ ?_
  · rintro w5 hC5 ⟨P5, hP5, hA5⟩
    cases hP5
    go_simp
    simp only [Ord.LandsIn]
    refine (add_any x y z v HX.out hn (hA5.cell (j + 1) hj')).mono ?_
    rintro e w6 ⟨rfl, F6, hC, hs⟩
    have hE6 := hA5.turn (j + 1) hj' hC hs
    exact ⟨rfl, ⟨hE6.get 0 rfl, hE6.get (i + 1) (wset (j := j + 1) (by omega) hi')⟩, _, rfl, F6, hE6⟩
  (try simp only [Act.put, List.setIfInBounds_toArray, List.set_cons_zero, List.set_cons_succ])
  repeat (first
    | (refine Ord.ch_value (v := ?_) hT9.out (by decide) (by rfl) ?_ ?_; rotate_left; (focus (intro w5 hS; skip; go_simp <;> with_reducible rfl)); (try simp only [Act.put, List.setIfInBounds_toArray, List.set_cons_zero, List.set_cons_succ]))
    | (refine Ord.ch_off hT9.out (by decide) (by rfl) ?_; (try simp only [Act.put, List.setIfInBounds_toArray, List.set_cons_zero, List.set_cons_succ])))
  refine Ord.InText.nil fun w5 hS => ?_
  clear hT9
  obtain ⟨hC9, hA9⟩ := Ord.chain_end hS
  clear hS
  obtain ⟨P9, hP9, hA9⟩ := hA9
  cases hP9
  obtain ⟨F9, hA9⟩ := hA9
  clear hC9
  go_wp2
  go_ret
  exact ⟨rfl, F9, hA9.sub (.cons _ (List.Sublist.refl _))⟩

end
end Go.Proofs.YtchcdfoncebemaaGreatDoor

/- The contract of disturb: a deed to both memories. -/
namespace Go.Proofs.YtchcdfoncebemaaGreatDoor
open Go.RowKit Go.Maps
set_option maxRecDepth 100000

theorem wrapU_in (z : Int) : InU (IntKind.u64.wrap z) := by rw [IntKind.wrap_u64]; unfold InU; omega
theorem bitsU (op : BinOp) (a b : Int) : InU (bits op .u64 a b) := by unfold bits; exact wrapU_in _
/-- Whether a deed stores. -/
def stD (kd : Int) : Bool := kd == 1 || kd == 2 || kd == 3
def dQ (kd : Int) (q : Cnt) : Cnt := if stD kd then { q with s := wrap64 (q.s + 1) } else q

section
variable {w0 w : World} {R : List Item} {p cc m n : Nat} {G F : Nat → Prop} {qc : Cnt} {ml : List OneR}
set_option maxHeartbeats 6400000 in
theorem disturb_t (kd x y z v : Int) (hx : Wf (x, y, z)) (hv : InU v) (hn : n < maxLen) (hml : ml.length ≤ 900000) (hE : Env w0 (wbox p cc :: cellI cc G (getL ml) qc n :: refI m F ml :: R) w) :
    Calls Tryz.prog 16 #[.pointer (some ⟨p, 0, none⟩), .pointer (some ⟨m, 0, none⟩), .agg #[.int .i64 kd, .int .i64 x, .int .i64 y, .int .i64 z, .int .u64 v]] w fun o w' => o = .returned (.tuple #[]) ∧ ∃ G' F' ml' n', ml'.length ≤ ml.length + 1 ∧ n' ≤ n + 1 ∧ Env w0 (wbox p cc :: cellI cc G' (getL ml') (dQ kd qc) n' :: refI m F' ml' :: R) w' := by
  have hE1 := hE.box w.heap.size rfl [.int .i64 kd, .int .i64 x, .int .i64 y, .int .i64 z, .int .u64 v] 60
  have HX := Lib.hid hx
  have HV := Lib.hid hv
  clear hx hv hE
  have hE2 := hE1.box (w.heap.size + 1) (by simp) [.int .i64 x, .int .i64 y, .int .i64 z] 58
  clear hE1
  by_cases h1 : kd = 1
  · subst h1
    have r0 := hE2.rule 1 rfl
    have r1 := hE2.rule 0 rfl
    go_enter Tryz.func16, Tryz.ntmps16
    go_wp2_with fail
    refine (epoch_any _).mono ?_
    rintro o w1 ⟨rfl, hb⟩
    replace hE2 := hE2.over hb
    clear hb r0 r1
    have r1 := hE2.rule 0 rfl
    have g0 := hE2.thaw 0 rfl 0 (by simp)
    have g1 := hE2.thaw 0 rfl 1 (by simp)
    have g2 := hE2.thaw 0 rfl 2 (by simp)
    replace hE2 := hE2.put3 0 rfl (.int .i64 1) (.int .i64 0) (.int .i64 0)
    simp only [List.set_cons_zero] at hE2
    go_wp2_with fail
    clear r1 g0 g1 g2
    refine (refGet_any 1 0 0 (by omega) (hE2.ref 4 rfl)).mono ?_
    rintro o w5 ⟨rfl, hb⟩
    replace hE2 := hE2.over hb
    clear hb
    have r1 := hE2.rule 0 rfl
    go_wp2_with fail
    refine (refSet_any 1 0 0 (IntKind.u64.wrap (getL ml (1, 0, 0) + 1)) (by omega) (hE2.ref 4 rfl)).mono ?_
    rintro o w2 ⟨rfl, F2, hU2, hs2⟩
    replace hE2 := hE2.turnU 4 rfl hU2 hs2
    simp only [List.set_cons_succ, List.set_cons_zero] at hE2
    clear r1 hU2 hs2
    have r1 := hE2.rule 0 rfl
    go_wp2_with fail
    refine (store_w 1 0 0 0 (IntKind.u64.wrap (getL ml (1, 0, 0) + 1)) 0 false (by unfold Wf In64; simp) (wrapU_in _) hn 2 3 (by decide) hE2 rfl rfl).mono ?_
    rintro o w3 ⟨rfl, G3, hE3⟩
    simp only [List.set_cons_succ, List.set_cons_zero] at hE3
    clear r1 hE2
    go_wp2_with fail
    go_end0
    refine ⟨rfl, G3, F2, setL ml (1, 0, 0) (IntKind.u64.wrap (getL ml (1, 0, 0) + 1)), n + 1, setL_length _ _ _, Nat.le_refl _, ?_⟩
    rw [getL_set]
    exact hE3.sub (.cons _ (.cons _ (List.Sublist.refl _)))
  · by_cases h2 : kd = 2
    · subst h2
      have r0 := hE2.rule 1 rfl
      have r1 := hE2.rule 0 rfl
      go_enter Tryz.func16, Tryz.ntmps16
      go_wp2_with fail
      refine (refSet_any x y z v (by omega) (hE2.ref 4 rfl)).mono ?_
      rintro o w2 ⟨rfl, F2, hU2, hs2⟩
      replace hE2 := hE2.turnU 4 rfl hU2 hs2
      simp only [List.set_cons_succ, List.set_cons_zero] at hE2
      clear r1 hU2 hs2
      have r1 := hE2.rule 0 rfl
      go_wp2_with fail
      refine (store_w x y z 0 v 0 false HX.out HV.out hn 2 3 (by decide) hE2 rfl rfl).mono ?_
      rintro o w3 ⟨rfl, G3, hE3⟩
      simp only [List.set_cons_succ, List.set_cons_zero] at hE3
      clear r1 hE2
      go_wp2_with fail
      go_end0
      refine ⟨rfl, G3, F2, setL ml (x, y, z) v, n + 1, setL_length _ _ _, Nat.le_refl _, ?_⟩
      rw [getL_set]
      exact hE3.sub (.cons _ (.cons _ (List.Sublist.refl _)))
    · by_cases h3 : kd = 3
      · subst h3
        have r0 := hE2.rule 1 rfl
        have r1 := hE2.rule 0 rfl
        go_enter Tryz.func16, Tryz.ntmps16
        go_wp2_with fail
        refine (refGet_any x y z (by omega) (hE2.ref 4 rfl)).mono ?_
        rintro o w1 ⟨rfl, hb⟩
        replace hE2 := hE2.over hb
        clear hb r0 r1
        have r1 := hE2.rule 0 rfl
        go_wp2_with fail
        refine (refSet_any x y z (bits .or .u64 (getL ml (x, y, z)) 9223372036854775808) (by omega) (hE2.ref 4 rfl)).mono ?_
        rintro o w2 ⟨rfl, F2, hU2, hs2⟩
        replace hE2 := hE2.turnU 4 rfl hU2 hs2
        simp only [List.set_cons_succ, List.set_cons_zero] at hE2
        clear r1 hU2 hs2
        have r1 := hE2.rule 0 rfl
        go_wp2_with fail
        refine (store_w x y z 0 (bits .or .u64 (getL ml (x, y, z)) 9223372036854775808) 0 false HX.out (bitsU _ _ _) hn 2 3 (by decide) hE2 rfl rfl).mono ?_
        rintro o w3 ⟨rfl, G3, hE3⟩
        simp only [List.set_cons_succ, List.set_cons_zero] at hE3
        clear r1 hE2
        go_wp2_with fail
        go_end0
        refine ⟨rfl, G3, F2, setL ml (x, y, z) (bits .or .u64 (getL ml (x, y, z)) 9223372036854775808), n + 1, setL_length _ _ _, Nat.le_refl _, ?_⟩
        rw [getL_set]
        exact hE3.sub (.cons _ (.cons _ (List.Sublist.refl _)))
      · have b1 : (kd == 1) = false := by simpa using h1
        have b2 : (kd == 2) = false := by simpa using h2
        have b3 : (kd == 3) = false := by simpa using h3
        have hd : dQ kd qc = qc := by unfold dQ stD; rw [b1, b2, b3]; rfl
        rw [hd]
        have r0 := hE2.rule 1 rfl
        have r1 := hE2.rule 0 rfl
        clear hd
        go_enter Tryz.func16, Tryz.ntmps16
        go_wp2_with fail
        refine bodyPost_ret (results_none rfl _ _ _) rfl ?_
        exact ⟨rfl, G, F, ml, n, by omega, by omega, hE2.sub (.cons _ (.cons _ (List.Sublist.refl _)))⟩
end
end Go.Proofs.YtchcdfoncebemaaGreatDoor

/- Contracts of layer 4: Peek, Swap. -/
namespace Go.Proofs.YtchcdfoncebemaaGreatDoor
open Go.RowKit Go.Maps
set_option maxRecDepth 100000

set_option maxHeartbeats 800000 in
theorem peek_any {c n : Nat} {F : Nat → Prop} {f : Plc → Int} {q : Cnt} {w : World} (a b d : Int) (hx : Wf (a, b, d)) (hC : IsC w c F f q n) :
    Calls Tryz.prog 67 #[.pointer (some ⟨c, 0, none⟩), .agg #[.int .i64 a, .int .i64 b, .int .i64 d]] w fun e w' => e = .returned (.int .u64 (f (a, b, d))) ∧ Below w.heap.size w w' := by
  obtain ⟨mp, hb, hm, hF⟩ := hC
  go_enter Tryz.func67, Tryz.ntmps67
  go_wp2_with fail
  refine Ord.wp_chain [] (fun w' => (Below w.heap.size w w' ∧ Blk 0 w' c (cv mp q) ∧ Blk 0 w' w.heap.size [.int .i64 a, .int .i64 b, .int .i64 d]) ∧ MapIs w' mp f n) (fun _ _ => True) (by kernel_rfl) (by kernel_rfl) (by kernel_rfl) ⟨⟨((Below.refl _ _).alloc (Nat.le_refl _) _).drew, (hb.more _).drew, (Blk.new 0 w _ _).drew⟩, (hm.more _).drew⟩ trivial (fun hT => ?_)
  have hT9 := Lib.hid hT
  clear hT
  repeat (first
    | (refine Ord.ch_value (v := ?_) hT9.out (by decide) (by rfl) ?_ ?_; rotate_left; (focus (intro w5 hS; have r := hS.1.2.1.rule; unfold cv at r; have r2 := hS.1.2.2.rule; have hl := hS.2.look hx; simp only [pv] at hl; go_simp <;> with_reducible rfl)); (try simp only [Act.put, List.setIfInBounds_toArray, List.set_cons_zero, List.set_cons_succ]))
    | (refine Ord.ch_off hT9.out (by decide) (by rfl) ?_; (try simp only [Act.put, List.setIfInBounds_toArray, List.set_cons_zero, List.set_cons_succ])))
  refine Ord.InText.nil fun w5 hS => ?_
  clear hT9
  obtain ⟨hA9, hM9⟩ := Ord.chain_end hS
  clear hS
  go_wp2
  go_ret
  exact ⟨rfl, hA9.1.1⟩

end Go.Proofs.YtchcdfoncebemaaGreatDoor

/- The plain world: contracts of Swap, Peek. -/
namespace Go.Proofs.YtchcdfoncebemaaGreatDoor
open Go.RowKit Go.Maps
set_option maxRecDepth 100000

section
variable {w0 w : World} {L : List Item} {p c n : Nat} {F : Nat → Prop} {f : Plc → Int} {q : Cnt}
set_option maxHeartbeats 1600000 in
theorem peek_w (x y z : Int) (hx : Wf (x, y, z)) (i j : Nat) (hE : Env w0 L w) (hi : L[i]? = some (wbox p c)) (hj : L[j]? = some (cellI c F f q n)) :
    Calls Tryz.prog 36 #[.pointer (some ⟨p, 0, none⟩), .agg #[.int .i64 x, .int .i64 y, .int .i64 z]] w fun e w' => e = .returned (.int .u64 (f (x, y, z))) ∧ Below w.heap.size w w' := by
  have hb := (Below.refl w.heap.size w).alloc (Nat.le_refl _) (.cells #[.int .i64 x, .int .i64 y, .int .i64 z] 58)
  replace hE := hE.box w.heap.size rfl [.int .i64 x, .int .i64 y, .int .i64 z] 58
  have HX := Lib.hid hx
  clear hx
  go_enter Tryz.func36, Tryz.ntmps36
  go_wp2_with fail
  obtain ⟨X, hXw⟩ : ∃ X, X = w.heap.size := ⟨_, rfl⟩
  rw [← hXw] at hE ⊢
  have HXW := Lib.hid hXw
  clear hXw
  have hi1 : (boxI X [.int .i64 x, .int .i64 y, .int .i64 z] :: L)[i + 1]? = some (wbox p c) := hi
  have hj1 : (boxI X [.int .i64 x, .int .i64 y, .int .i64 z] :: L)[j + 1]? = some (cellI c F f q n) := hj
  refine Ord.wp_chain [] (fun w' => Env w0 (boxI X [.int .i64 x, .int .i64 y, .int .i64 z] :: L) w' ∧ Below w.heap.size w w') (fun _ _ => True) (by kernel_rfl) (by kernel_rfl) (by kernel_rfl) ⟨hE.drew, hb.drew⟩ trivial (fun hT => ?_)
  have hT9 := Lib.hid hT
  clear hT
  repeat (first
    | (refine Ord.ch_value (v := ?_) hT9.out (by decide) (by rfl) ?_ ?_; rotate_left; (focus (intro w5 hS; have r := hS.1.rule 0 rfl; go_simp <;> with_reducible rfl)); (try simp only [Act.put, List.setIfInBounds_toArray, List.set_cons_zero, List.set_cons_succ]))
    | (refine Ord.ch_off hT9.out (by decide) (by rfl) ?_; (try simp only [Act.put, List.setIfInBounds_toArray, List.set_cons_zero, List.set_cons_succ]))
    | (refine Ord.ch_call (v := ?_) (f := ?_) (args := ?_) hT9.out (by decide) (by rfl) ?_ ?_ ?_; rotate_left 3; (focus (intro w5 hS; have r := hS.1.rule 0 rfl; go_simp; constructor <;> with_reducible rfl)); (focus (intro w5 hS; (first | (with_reducible refine (kept_any (hS.1.wblk (i + 1) hi1)).mono ?_; rintro e w6 ⟨rfl, rfl⟩; constructor; with_reducible rfl; exact ⟨hS, fun _ h => h⟩) | (with_reducible refine (peek_any x y z HX.out (hS.1.cell (j + 1) hj1)).mono ?_; rintro e w6 ⟨rfl, hb6⟩; constructor; with_reducible rfl; exact ⟨⟨hS.1.over hb6, hS.2.trans (hb6.mono hS.2.size)⟩, fun _ h => h⟩)))); (try simp only [Act.put, List.setIfInBounds_toArray, List.set_cons_zero, List.set_cons_succ])))
  refine Ord.InText.nil fun w5 hS => ?_
  clear hT9
  obtain ⟨hC9, hA9⟩ := Ord.chain_end hS
  clear hS
  go_wp2
  go_ret
  exact ⟨rfl, hC9.2⟩
end
end Go.Proofs.YtchcdfoncebemaaGreatDoor

/- Places whose words aren't 0. -/
namespace Go.Proofs.YtchcdfoncebemaaGreatDoor

theorem pv_inj {x y : Plc} (h : pv x = pv y) : x = y := by
  obtain ⟨a, b, c⟩ := x
  obtain ⟨a', b', c'⟩ := y
  simp [pv] at h
  simp [h]
/-- ss are the places whose words aren't 0, each once. -/
def OpsF (f : Plc → Int) (ss : List Plc) : Prop := ss.Nodup ∧ ∀ x, x ∈ ss ↔ f x ≠ 0
end Go.Proofs.YtchcdfoncebemaaGreatDoor

/-
  DERIVED: THE SHELF's CONTRACTS AT THIS DUMP, IN PLAIN WORDS (tools/lay-plain.mjs out of 'YtchcdfoncebemaaGreatDoorShelfC.lean', which tools/lay-shelf.mjs wrote): THE SAME DECLARATIONS UNDER THE SAME NAMES: 'import', 'namespace', 'open', 'def', 'theorem' AND NOTHING ELSE: no command of the shelf's: FOR A HAND-IN. Each laying: the table of numbers ('.._ren') and one theorem, a field a fact of the dump's own or the kernel's comparison; each contract: ONE APPLICATION.
-/
namespace Go.Proofs
open Go.Shelf
def Tryz.cloneWords_ren : Go.Shelf.Ren := ⟨fun | 5 => 95 | 7 => 108 | n => n, fun | 23 => 143 | 25 => 58 | 3 => 23 | 4 => 4 | 20 => 20 | n => n, fun | n => n⟩
theorem Tryz.cloneWords : Go.Proofs.SlLaysW.n5 Tryz.prog Tryz.cloneWords_ren := {
  mixed := by kernel_rfl
  f5 := ⟨Tryz.f95.name, by decide, Tryz.func95.trans (congrArg some (by kernel_rfl))⟩
  f7 := Tryz.func108.trans (congrArg some (by kernel_rfl))
  t4 := Tryz.underlying4
  a4 := Tryz.isAgg4
  z4 := Tryz.sizeOf4
  v4 := Tryz.zeroValue4
  t20 := Tryz.underlying20
  a20 := Tryz.isAgg20
  z20 := Tryz.sizeOf20
  v20 := Tryz.zeroValue20
  t23 := Tryz.underlying143
  a23 := Tryz.isAgg143
  z23 := Tryz.sizeOf143
  v23 := Tryz.zeroValue143 }
end Go.Proofs

/- Shared cells: a copy; whether two have the same words. -/
namespace Go.Proofs.YtchcdfoncebemaaGreatDoor
open Go.RowKit Go.Maps Go.Shelf
set_option maxRecDepth 100000

/-! ### copies -/
theorem clone_any {mp : Option Nat} {f : Plc → Int} {n : Nat} {w : World} (hM : MapIs w mp f n) :
    Calls Tryz.prog 95 #[.map mp] w fun e w' => ∃ mp', e = .returned (.map mp') ∧ MapIs w' mp' f n ∧ (∀ b, mp' = some b → w.heap.size ≤ b) ∧ Below w.heap.size w w' := by
  rcases hM with ⟨rfl, rfl⟩ | ⟨b, D, rfl, ho, hr⟩
  · refine Calls.mono (show Calls Tryz.prog 95 #[.map none] w _ from AnyW.maps_Clone_nil Tryz.cloneWords w) ?_
    rintro e w' ⟨rfl, rfl⟩
    exact ⟨none, rfl, .inl ⟨rfl, rfl⟩, fun b e => by (cases e), Below.refl _ _⟩
  · refine Calls.mono (show Calls Tryz.prog 95 #[.map (some b)] w _ from AnyW.maps_Clone_owns Tryz.cloneWords _ _ b n D w ho) ?_
    rintro e w' ⟨rfl, h1, _, h3⟩
    exact ⟨_, rfl, .inr ⟨_, D, rfl, h1, hr⟩, fun b e => by (cases e; exact Nat.le_refl _), h3⟩

set_option maxHeartbeats 800000 in
theorem copy_any {c n : Nat} {F : Nat → Prop} {f : Plc → Int} {q : Cnt} {w : World} (hC : IsC w c F f q n) :
    Calls Tryz.prog 80 #[.pointer (some ⟨c, 0, none⟩)] w fun e w' => ∃ c' F', e = .returned (.pointer (some ⟨c', 0, none⟩)) ∧ IsC w' c' F' f ⟨0, 0, 0, 0, 0⟩ n ∧ (∀ k, F' k → w.heap.size ≤ k) ∧ Below w.heap.size w w' := by
  obtain ⟨mp, hb, hm, hF⟩ := hC
  have r := hb.rule
  unfold cv at r
  have hc := clone_any hm
  clear hm
  go_enter Tryz.func80, Tryz.ntmps80
  go_wp2_with fail
  refine hc.mono ?_
  rintro e w1 ⟨mp', rfl, hM, hnew, hB⟩
  clear hc r
  go_wp2
  go_ret
  have hs := hB.size
  refine ⟨w1.heap.size, fun k => k = w1.heap.size ∨ mp' = some k, rfl, ⟨mp', Blk.new 0 w1 (cv mp' ⟨0, 0, 0, 0, 0⟩) 145, hM.more _, fun k => Iff.rfl⟩, fun k hk => ?_, hB.alloc hs _⟩
  rcases hk with rfl | e
  · exact hs
  · exact hnew k e

/-! ### how many words there are -/
theorem has_key {w : World} {b n : Nat} {D : DataW Unit} (h : w.ownsMap Tryz.prog 58 (plainElem (H := Unit) Tryz.prog 23) b n D) : ∃ es, D = .map es ∧ es.Pairwise (fun p q => p.1 ≠ q.1) ∧ ∀ p ∈ es, ∃ x, Wf x ∧ p.1 = kl x := by
  obtain ⟨es, clock, hb, Ft, hs, rfl⟩ := h
  refine ⟨_, rfl, ((WideShapes.sorted_perm _).pairwise_iff (fun {_ _} hne => Ne.symm hne)).2 (Maps.fit_apart keyPlace Ft), fun p hp => ?_⟩
  obtain ⟨x, hx, rfl⟩ := List.mem_map.1 (mem_sorted.1 hp)
  obtain ⟨y, hy⟩ := Ft.reads x hx
  rw [WideElems.rg_of hy]
  obtain ⟨z, hz, _, he⟩ := key_inv (WideElems.rd_key hy)
  exact ⟨z, hz, he⟩
theorem list_keys : ∀ (es : List (Lit × DataW Unit)), (∀ p ∈ es, ∃ x, Wf x ∧ p.1 = kl x) → ∃ ss : List Plc, ss.map kl = es.map (·.1) ∧ ∀ x ∈ ss, Wf x
  | [], _ => ⟨[], rfl, by simp⟩
  | p :: es, h => by
    obtain ⟨ss, h1, h2⟩ := list_keys es fun q hq => h q (by simp [hq])
    obtain ⟨x, hx, he⟩ := h p (by simp)
    exact ⟨x :: ss, by simp [h1, he], fun y hy => by
      rcases List.mem_cons.1 hy with rfl | hy
      · exact hx
      · exact h2 y hy⟩
/-- The number of entries. -/
def msz (mp : Option Nat) (w : World) (N : Nat) : Prop := ∀ ty, (Builtin.len_ #[143] ty #[.map mp]).run Tryz.prog w = .ok (.int .i64 (N : Nat)) w
theorem MapIs.count {w : World} {mp : Option Nat} {f : Plc → Int} {n : Nat} (h : MapIs w mp f n) : ∃ ss, OpsF f ss ∧ msz mp w ss.length := by
  rcases h with ⟨rfl, rfl⟩ | ⟨b, D, rfl, ho, hr⟩
  · exact ⟨[], ⟨List.nodup_nil, by simp⟩, fun ty => Maps.len_nil Tryz.underlying143 ty⟩
  · obtain ⟨es, rfl, hp, hk⟩ := has_key ho
    obtain ⟨ss, h1, h2⟩ := list_keys es hk
    have hlen : ss.length = es.length := by have := congrArg List.length h1; simpa using this
    refine ⟨ss, ⟨?_, fun x => ?_⟩, fun ty => ?_⟩
    · have hn : (ss.map kl).Pairwise (· ≠ ·) := by rw [h1, List.pairwise_map]; exact hp
      rw [List.pairwise_map] at hn
      exact hn.imp fun hne e => hne (by rw [e])
    · by_cases hw : Wf x
      · have h3 := hr.has' x hw
        rw [Maps.has_eq] at h3
        have h4 : (x ∈ ss) ↔ (es.any fun p => p.1.sameKey (kl x)) = true := by
          rw [List.any_eq_true]
          constructor
          · intro hx
            have : kl x ∈ es.map (·.1) := by rw [← h1]; exact List.mem_map.2 ⟨x, hx, rfl⟩
            obtain ⟨p, hp1, hp2⟩ := List.mem_map.1 this
            exact ⟨p, hp1, by rw [hp2]; exact WideAt.sameKey_self (kl_key x)⟩
          · rintro ⟨p, hp1, hp2⟩
            have : kl x ∈ ss.map kl := by rw [h1]; exact List.mem_map.2 ⟨p, hp1, WideAt.sameKey_eq hp2⟩
            obtain ⟨y, hy, he⟩ := List.mem_map.1 this
            rwa [← kl_inj (h2 y hy) hw he]
        rw [h4, h3]; simp
      · constructor
        · intro hx; exact absurd (h2 x hx) hw
        · intro hx; exact absurd (hr.words.out x hw) hx
    · rw [hlen]
      have := ho.len Tryz.underlying143 ty
      rwa [Maps.size_eq] at this

theorem all_in : ∀ (l m : List Plc), m.Nodup → (∀ x ∈ l, x ∈ m) → l.Nodup → m.length ≤ l.length → ∀ x ∈ m, x ∈ l
  | [], m, _, _, _, h, x, hx => by
    have : m = [] := List.eq_nil_of_length_eq_zero (by simpa using h)
    subst this
    cases hx
  | a :: l, m, hm, hs, hl, h, x, hx => by
    by_cases e : x = a
    · subst e; simp
    · have ham : a ∈ m := hs a (by simp)
      obtain ⟨h1, h2⟩ := List.nodup_cons.1 hl
      have := all_in l (m.erase a) (hm.erase a) (fun y hy => by
        have hya : y ≠ a := fun e => h1 (e ▸ hy)
        exact (List.mem_erase_of_ne hya).2 (hs y (by simp [hy]))) h2 (by rw [List.length_erase_of_mem ham]; simp at h; omega) x ((List.mem_erase_of_ne e).2 hx)
      simp [this]
theorem same_len {f : Plc → Int} {ss tt : List Plc} (h : OpsF f ss) (k : OpsF f tt) : ss.length = tt.length :=
  ((List.perm_ext_iff_of_nodup h.1 k.1).2 fun x => (h.2 x).trans (k.2 x).symm).length_eq
theorem same_of {f g : Plc → Int} {ss tt : List Plc} (h : OpsF f ss) (k : OpsF g tt) (hl : ss.length = tt.length) (hfg : ∀ x, f x ≠ 0 → g x = f x) : f = g := by
  have hsub : ∀ x ∈ ss, x ∈ tt := fun x hx => (k.2 x).2 (by have h1 := (h.2 x).1 hx; rw [hfg x h1]; exact h1)
  have hall := all_in ss tt k.1 hsub h.1 (by omega)
  funext x
  by_cases e : f x = 0
  · rw [e]
    by_cases e2 : g x = 0
    · exact e2.symm
    · exact absurd e ((h.2 x).1 (hall x ((k.2 x).2 e2)))
  · exact (hfg x e).symm
theorem MapIs.look2 {w : World} {mp : Option Nat} {f : Plc → Int} {n : Nat} (h : MapIs w mp f n) {x : Plc} (hx : Wf x) : (Instr.lookup 143 (.map mp) (pv x) true).run Tryz.prog w = .ok (.tuple #[.int .u64 (f x), .bool (decide (f x ≠ 0))]) w := by
  rcases h with ⟨rfl, rfl⟩ | ⟨b, D, rfl, ho, hr⟩
  · have := Maps.look_nil (w := w) true keyPlace Tryz.underlying143 (zeroWord w) (key_mk x hx)
    simpa using this
  · obtain ⟨v, ps, hrun, hv⟩ := ho.look_ok keyPlace Tryz.underlying143 (zeroWord w) (zd := wd 0) (zp := []) (plainElem_int Tryz.underlying23 (by decide)) (key_mk x hx)
    rw [hr.at' x hx] at hv
    obtain ⟨a, rfl, ha, _⟩ := plainElem_int_inv Tryz.underlying23 hv
    have : f x = a := by
      have := congrArg Prod.fst ha
      simpa [wd] using this
    rw [hrun, hr.has' x hx, this]
end Go.Proofs.YtchcdfoncebemaaGreatDoor

/- The plain world: a copy of its cells. -/
namespace Go.Proofs.YtchcdfoncebemaaGreatDoor
open Go.RowKit Go.Maps
set_option maxRecDepth 100000

theorem cells_w {w0 w : World} {L : List Item} {p c n : Nat} {F : Nat → Prop} {f : Plc → Int} {q : Cnt} (i j : Nat) (hE : Env w0 L w) (hi : L[i]? = some (wbox p c)) (hj : L[j]? = some (cellI c F f q n)) :
    Calls Tryz.prog 56 #[.pointer (some ⟨p, 0, none⟩)] w fun e w' => ∃ c' F', e = .returned (.pointer (some ⟨c', 0, none⟩)) ∧ Env w0 (cellI c' F' f ⟨0, 0, 0, 0, 0⟩ n :: L) w' := by
  go_enter Tryz.func56, Tryz.ntmps56
  go_wp2_with fail
  refine (kept_any (hE.wblk i hi)).mono ?_
  rintro e w1 ⟨rfl, rfl⟩
  go_wp2_with fail
  refine (copy_any (hE.cell j hj)).mono ?_
  rintro e w2 ⟨c', F', rfl, hC, hF, hb⟩
  go_wp2
  go_ret
  exact ⟨c', F', rfl, hE.made2 hC hF hb⟩
end Go.Proofs.YtchcdfoncebemaaGreatDoor

/- The reference's places, in their order. -/
namespace Go.Proofs.YtchcdfoncebemaaGreatDoor
open Go.RowKit Go.Maps Go.Sort
set_option maxRecDepth 100000

theorem exch {α : Type} (y0 y1 y2 x0 x1 x2 : α) (D : List α) : ∀ P : List α, ((((((P ++ y0 :: y1 :: y2 :: x0 :: x1 :: x2 :: D).set (P.length + 3) y0).set (P.length + 4) y1).set (P.length + 5) y2).set P.length x0).set (P.length + 1) x1).set (P.length + 2) x2 = P ++ x0 :: x1 :: x2 :: y0 :: y1 :: y2 :: D
  | [] => rfl
  | p :: P => by
    have ih := exch y0 y1 y2 x0 x1 x2 D P
    simp only [List.cons_append, List.length_cons, show P.length + 1 + 3 = P.length + 3 + 1 by omega, show P.length + 1 + 4 = P.length + 4 + 1 by omega, show P.length + 1 + 5 = P.length + 5 + 1 by omega, show P.length + 1 + 2 = P.length + 2 + 1 by omega, List.set_cons_succ]
    rw [ih]
def insAt (m : List Plc) (j : Nat) (x : Plc) : List Plc := m.take j ++ x :: m.drop j
theorem flatP_append (l m : List Plc) : flatP (l ++ m) = flatP l ++ flatP m := by simp [flatP]
theorem insAt_exch (m : List Plc) (j : Nat) (hj : j < m.length) (x : Plc) : ((((((flatP (insAt m (j + 1) x)).set (j * 3 + 3) (.int .i64 (m.getD j z3).1)).set (j * 3 + 4) (.int .i64 (m.getD j z3).2.1)).set (j * 3 + 5) (.int .i64 (m.getD j z3).2.2)).set (j * 3) (.int .i64 x.1)).set (j * 3 + 1) (.int .i64 x.2.1)).set (j * 3 + 2) (.int .i64 x.2.2) = flatP (insAt m j x) := by
  have hlen : (flatP (m.take j)).length = j * 3 := by rw [flatP_length]; simp; omega
  have e1 : flatP (insAt m (j + 1) x) = flatP (m.take j) ++ .int .i64 (m.getD j z3).1 :: .int .i64 (m.getD j z3).2.1 :: .int .i64 (m.getD j z3).2.2 :: .int .i64 x.1 :: .int .i64 x.2.1 :: .int .i64 x.2.2 :: flatP (m.drop (j + 1)) := by
    unfold insAt
    rw [flatP_append, List.take_succ_eq_append_getElem hj, flatP_append]
    simp [flatP, encP, hj]
  have e2 : flatP (insAt m j x) = flatP (m.take j) ++ .int .i64 x.1 :: .int .i64 x.2.1 :: .int .i64 x.2.2 :: .int .i64 (m.getD j z3).1 :: .int .i64 (m.getD j z3).2.1 :: .int .i64 (m.getD j z3).2.2 :: flatP (m.drop (j + 1)) := by
    unfold insAt
    have h0 : m.drop j = m[j] :: m.drop (j + 1) := List.drop_eq_getElem_cons hj
    have h1 : m.getD j z3 = m[j] := by simp [hj]
    rw [flatP_append, h0, h1]
    simp [flatP, encP, -List.getElem_cons_drop]
  rw [e1, e2, ← hlen]
  exact exch _ _ _ _ _ _ _ _
theorem insAt_get_self (m : List Plc) (j : Nat) (hj : j ≤ m.length) (x : Plc) : (insAt m j x).getD j z3 = x := by
  unfold insAt
  rw [List.getD_eq_getElem?_getD, List.getElem?_append_right (by simp; omega)]
  simp [Nat.min_eq_left hj]
theorem insAt_get_prev (m : List Plc) (j : Nat) (hj : j < m.length) (x : Plc) : (insAt m (j + 1) x).getD j z3 = m.getD j z3 := by
  unfold insAt
  rw [List.getD_eq_getElem?_getD, List.getElem?_append_left (by simp; omega)]
  simp [List.getElem?_take]
theorem insAt_length (m : List Plc) (j : Nat) (hj : j ≤ m.length) (x : Plc) : (insAt m j x).length = m.length + 1 := by unfold insAt; simp; omega
theorem rising_insAt {m : List Plc} {j : Nat} {x : Plc} (hm : Rising m) (hj : j ≤ m.length) (hx : x ∉ m) (hd : ∀ y ∈ m.drop j, ltOf cmpP x y = true) (hs : j = 0 ∨ ltOf cmpP x (m.getD (j - 1) z3) = false) : Rising (insAt m j x) := by
  have h1 : Rising (m.take j) := List.Pairwise.sublist (List.take_sublist _ _) hm
  have h2 : Rising (m.drop j) := List.Pairwise.sublist (List.drop_sublist _ _) hm
  have h3 : ∀ y ∈ m.take j, ltOf cmpP y x = true := by
    intro y hy
    obtain ⟨i, hi, rfl⟩ := List.getElem_of_mem hy
    have hi' : i < j := by simp at hi; omega
    rcases hs with rfl | hs
    · omega
    · have hjm : j - 1 < m.length := by omega
      have e : m.getD (j - 1) z3 = m[j - 1] := by simp [hjm]
      rw [e] at hs
      have hlt : ltOf cmpP m[j - 1] x = true := by
        rcases h : ltOf cmpP m[j - 1] x with _ | _
        · exact absurd (totP _ _ hs h) (fun e => hx (e ▸ List.getElem_mem hjm))
        · rfl
      rw [List.getElem_take]
      rcases Nat.lt_or_ge i (j - 1) with hlt2 | hge
      · exact swoP.trans _ _ _ (List.pairwise_iff_getElem.1 hm i (j - 1) (by omega) hjm hlt2) hlt
      · have : i = j - 1 := by omega
        subst this
        exact hlt
  unfold insAt Rising
  refine List.pairwise_append.2 ⟨h1, List.pairwise_cons.2 ⟨hd, h2⟩, fun a ha b hb => ?_⟩
  rcases List.mem_cons.1 hb with rfl | hb
  · exact h3 a ha
  · exact swoP.trans _ _ _ (h3 a ha) (hd b hb)
theorem mem_insAt {m : List Plc} {j : Nat} {x y : Plc} : y ∈ insAt m j x ↔ y = x ∨ y ∈ m := by
  unfold insAt
  conv => rhs; rw [← List.take_append_drop j m]
  simp only [List.mem_append, List.mem_cons]
  constructor
  · rintro (h | h | h)
    · exact .inr (.inl h)
    · exact .inl h
    · exact .inr (.inr h)
  · rintro (h | h | h)
    · exact .inr (.inl h)
    · exact .inl h
    · exact .inr (.inr h)
theorem getL_ne {l : List OneR} (h : (l.map (·.1)).Nodup) (x : Plc) : getL l x ≠ 0 ↔ ∃ v, (x, v) ∈ l ∧ v ≠ 0 := by
  induction l with
  | nil => simp [getL]
  | cons e l ih =>
    rw [List.map_cons, List.nodup_cons] at h
    have ih := ih h.2
    by_cases he : e.1 = x
    · subst he
      simp only [getL, if_true]
      constructor
      · intro hv; exact ⟨e.2, by simp, hv⟩
      · rintro ⟨v, hv, hne⟩
        rcases List.mem_cons.1 hv with e' | e'
        · rw [← e']; exact hne
        · exact absurd (List.mem_map.2 ⟨_, e', rfl⟩) h.1
    · simp only [getL, if_neg he]
      rw [ih]
      constructor
      · rintro ⟨v, hv, hne⟩; exact ⟨v, List.mem_cons_of_mem _ hv, hne⟩
      · rintro ⟨v, hv, hne⟩
        rcases List.mem_cons.1 hv with e' | e'
        · exact absurd (by rw [← e']) he
        · exact ⟨v, e', hne⟩
theorem ownsRow_rowP {w : World} {b : Nat} {v : Value} {m : List Plc} (h : w.ownsRow b 58 3 v m.length (flatP m)) : RowP w v m := by
  rcases h.2 with ⟨hv, h0⟩ | ⟨g, cap, cur, hv, _, hg, hn, hc, hcs, htk⟩
  · exact .inl ⟨List.eq_nil_of_length_eq_zero h0, hv⟩
  · refine .inr ⟨g, cap, hv, (Array.getElem?_eq_some_iff.1 hg).1, fun j hj => ?_⟩
    have each : ∀ c, c < 3 → w.cell? ⟨g, j * 3 + c, none⟩ = (encP (m.getD j z3))[c]? := fun c hc4 => by
      rw [← flatP_get m j c hj hc4, ← htk, List.getElem?_take_of_lt (by omega)]
      simp [World.cell?, hg]
    exact ⟨each 0 (by omega), each 1 (by omega), each 2 (by omega)⟩
end Go.Proofs.YtchcdfoncebemaaGreatDoor
