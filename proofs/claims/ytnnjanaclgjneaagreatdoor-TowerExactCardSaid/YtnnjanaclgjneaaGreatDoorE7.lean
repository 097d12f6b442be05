/- What is proved on the way to the statement, part 7 of 13: contracts of the functions, among other things in memory. -/
import Derived.Test.YtnnjanaclgjneaaGreatDoorE6

/- The reference's lanes: Step over the model. -/
namespace Go.Proofs.YtnnjanaclgjneaaGreatDoor
open Go.RowKit Go.Maps
set_option maxRecDepth 100000

section
variable {uc : Uc} {w0 w : World} {R : List Item} {b u m : Nat} {F : Nat → Prop} {ml : List OneR} {lv key e ro : Int} {vs fd : Bool} {x y z pc W X K V C : Int}

set_option maxHeartbeats 1600000 in
theorem rst0 (v : Int) (hfx : getL ml (x, y, z) = v) (hml : ml.length ≤ 1000000) (hE : Env w0 (boxI b (rlC lv key vs x y z 0 W X K V C fd) :: boxI u (ruC uc e ro) :: refI m F ml :: R) w) :
    Calls Tryz.prog 99 #[.pointer (some ⟨b, 0, none⟩), .pointer (some ⟨u, 0, none⟩), .pointer (some ⟨m, 0, none⟩)] w fun o w' => o = .returned (.int .i64 0) ∧ Env w0 (boxI b (rlC lv key vs x y z 2 v X K V C fd) :: boxI u (ruC uc e ro) :: refI m F ml :: R) w' := by
  have HX := Lib.hid hfx
  clear hfx
  have r := hE.rule 0 rfl
  unfold rlC at r
  go_enter Tryz.func99, Tryz.ntmps99
  go_wp2_with fail
  refine (refGet_any x y z hml (hE.ref 2 rfl)).mono ?_
  rintro o w2 ⟨rfl, hb⟩
  rw [HX.out]
  replace hE := hE.over hb
  clear hb r
  have r := hE.rule 0 rfl
  unfold rlC at r
  have f1 := hE.thaw 0 rfl 7 (by simp [rlC])
  have f6 := hE.thaw 0 rfl 6 (by simp [rlC])
  have hP := (hE.put 0 rfl (j := 7) (by simp [rlC]) (.int .u64 v)).put 0 rfl (j := 6) (by simp [rlC]) (.int .i64 2)
  replace hP : Env w0 (boxI b (rlC lv key vs x y z 2 v X K V C fd) :: boxI u (ruC uc e ro) :: refI m F ml :: R) _ := hP
  go_wp2_with fail
  go_ret
  exact ⟨rfl, hP⟩

set_option maxHeartbeats 1600000 in
theorem rst3 (hlv : 0 ≤ lv ∧ lv ≤ 1000000) (v : Int) (hfx : getL ml (5, C, 7 + lv) = v) (hml : ml.length ≤ 1000000) (hE : Env w0 (boxI b (rlC lv key vs x y z 3 W X K V C fd) :: boxI u (ruC uc e ro) :: refI m F ml :: R) w) :
    Calls Tryz.prog 99 #[.pointer (some ⟨b, 0, none⟩), .pointer (some ⟨u, 0, none⟩), .pointer (some ⟨m, 0, none⟩)] w fun o w' => o = .returned (.int .i64 0) ∧ Env w0 (boxI b (rlC lv key vs x y z 4 W v K V C fd) :: boxI u (ruC uc e ro) :: refI m F ml :: R) w' := by
  have HX := Lib.hid hfx
  clear hfx
  have r := hE.rule 0 rfl
  unfold rlC at r
  go_enter Tryz.func99, Tryz.ntmps99
  go_wp2_with fail
  refine (next_r hlv (hE.get 0 rfl)).mono ?_
  rintro o w1 ⟨rfl, hb⟩
  replace hE := hE.over hb
  clear hb r
  have r := hE.rule 0 rfl
  unfold rlC at r
  go_wp2_with fail
  refine (refGet_any 5 C (7 + lv) hml (hE.ref 2 rfl)).mono ?_
  rintro o w2 ⟨rfl, hb⟩
  rw [HX.out]
  replace hE := hE.over hb
  clear hb r
  have r := hE.rule 0 rfl
  unfold rlC at r
  have f1 := hE.thaw 0 rfl 8 (by simp [rlC])
  have f6 := hE.thaw 0 rfl 6 (by simp [rlC])
  have hP := (hE.put 0 rfl (j := 8) (by simp [rlC]) (.int .u64 v)).put 0 rfl (j := 6) (by simp [rlC]) (.int .i64 4)
  replace hP : Env w0 (boxI b (rlC lv key vs x y z 4 W v K V C fd) :: boxI u (ruC uc e ro) :: refI m F ml :: R) _ := hP
  go_wp2_with fail
  go_ret
  exact ⟨rfl, hP⟩

set_option maxHeartbeats 1600000 in
theorem rst6 (v : Int) (hfx : getL ml (5, C, 3) = v) (hml : ml.length ≤ 1000000) (hE : Env w0 (boxI b (rlC lv key vs x y z 6 W X K V C fd) :: boxI u (ruC uc e ro) :: refI m F ml :: R) w) :
    Calls Tryz.prog 99 #[.pointer (some ⟨b, 0, none⟩), .pointer (some ⟨u, 0, none⟩), .pointer (some ⟨m, 0, none⟩)] w fun o w' => o = .returned (.int .i64 0) ∧ Env w0 (boxI b (rlC lv key vs x y z 7 W X v V C fd) :: boxI u (ruC uc e ro) :: refI m F ml :: R) w' := by
  have HX := Lib.hid hfx
  clear hfx
  have r := hE.rule 0 rfl
  unfold rlC at r
  go_enter Tryz.func99, Tryz.ntmps99
  go_wp2_with fail
  refine (cell13_any C 3 _).mono ?_
  rintro o w1 ⟨rfl, hb⟩
  replace hE := hE.over hb
  clear hb r
  have r := hE.rule 0 rfl
  unfold rlC at r
  go_wp2_with fail
  refine (refGet_any 5 C 3 hml (hE.ref 2 rfl)).mono ?_
  rintro o w2 ⟨rfl, hb⟩
  rw [HX.out]
  replace hE := hE.over hb
  clear hb r
  have r := hE.rule 0 rfl
  unfold rlC at r
  have f1 := hE.thaw 0 rfl 9 (by simp [rlC])
  have f6 := hE.thaw 0 rfl 6 (by simp [rlC])
  have hP := (hE.put 0 rfl (j := 9) (by simp [rlC]) (.int .u64 v)).put 0 rfl (j := 6) (by simp [rlC]) (.int .i64 7)
  replace hP : Env w0 (boxI b (rlC lv key vs x y z 7 W X v V C fd) :: boxI u (ruC uc e ro) :: refI m F ml :: R) _ := hP
  go_wp2_with fail
  go_ret
  exact ⟨rfl, hP⟩

set_option maxHeartbeats 1600000 in
theorem rst8 (v : Int) (hfx : getL ml (5, C, 4) = v) (hml : ml.length ≤ 1000000) (hE : Env w0 (boxI b (rlC lv key vs x y z 8 W X K V C fd) :: boxI u (ruC uc e ro) :: refI m F ml :: R) w) :
    Calls Tryz.prog 99 #[.pointer (some ⟨b, 0, none⟩), .pointer (some ⟨u, 0, none⟩), .pointer (some ⟨m, 0, none⟩)] w fun o w' => o = .returned (.int .i64 0) ∧ Env w0 (boxI b (rlC lv key vs x y z 9 W X K v C fd) :: boxI u (ruC uc e ro) :: refI m F ml :: R) w' := by
  have HX := Lib.hid hfx
  clear hfx
  have r := hE.rule 0 rfl
  unfold rlC at r
  go_enter Tryz.func99, Tryz.ntmps99
  go_wp2_with fail
  refine (cell13_any C 4 _).mono ?_
  rintro o w1 ⟨rfl, hb⟩
  replace hE := hE.over hb
  clear hb r
  have r := hE.rule 0 rfl
  unfold rlC at r
  go_wp2_with fail
  refine (refGet_any 5 C 4 hml (hE.ref 2 rfl)).mono ?_
  rintro o w2 ⟨rfl, hb⟩
  rw [HX.out]
  replace hE := hE.over hb
  clear hb r
  have r := hE.rule 0 rfl
  unfold rlC at r
  have f1 := hE.thaw 0 rfl 10 (by simp [rlC])
  have f6 := hE.thaw 0 rfl 6 (by simp [rlC])
  have hP := (hE.put 0 rfl (j := 10) (by simp [rlC]) (.int .u64 v)).put 0 rfl (j := 6) (by simp [rlC]) (.int .i64 9)
  replace hP : Env w0 (boxI b (rlC lv key vs x y z 9 W X K v C fd) :: boxI u (ruC uc e ro) :: refI m F ml :: R) _ := hP
  go_wp2_with fail
  go_ret
  exact ⟨rfl, hP⟩

set_option maxHeartbeats 3200000 in
theorem rst5n (heq : getL ml (x, y, z) ≠ W) (hX : InU X) (hml : ml.length ≤ 1000000) (hE : Env w0 (boxI b (rlC lv key vs x y z 5 W X K V C fd) :: boxI u (ruC uc e ro) :: refI m F ml :: R) w) :
    Calls Tryz.prog 99 #[.pointer (some ⟨b, 0, none⟩), .pointer (some ⟨u, 0, none⟩), .pointer (some ⟨m, 0, none⟩)] w fun o w' => o = .returned (.int .i64 2) ∧ ∃ F', Env w0 (boxI b (rlC lv key vs x y z 5 W X K V C fd) :: boxI u (ruC uc e ro) :: refI m F' (swL ml (x, y, z) W (wordI false (slotI X) e)) :: R) w' := by
  have HD : Hid (decide (getL ml (x, y, z) = W) = false) := Lib.hid (by simpa using heq)
  have HS13 := Lib.hid fun (v : World) => slot13_any X hX v
  have hqi : InU (wordI false (slotI X) e) := wordI_in _ _ _
  have HQI := Lib.hid hqi
  have HTO := Lib.hid fun (v : World) (hv : Blk 0 v u (urv uc.k uc.s uc.b uc.h uc.l e uc.A uc.n uc.c uc.N uc.hs ro)) => rto_c (slotI X) hv
  obtain ⟨s, hs⟩ : ∃ s, slotI X = s := ⟨_, rfl⟩
  rw [hs] at HQI ⊢
  simp only [hs] at HS13 HTO
  obtain ⟨q, hq⟩ : ∃ q, wordI false s e = q := ⟨_, rfl⟩
  rw [hq] at HQI ⊢
  simp only [hq] at HTO
  clear hs hq heq hX hqi
  have r := hE.rule 0 rfl
  unfold rlC at r
  go_enter Tryz.func99, Tryz.ntmps99
  go_wp2_with fail
  refine (HS13.out _).mono ?_
  rintro o w1 ⟨rfl, hb⟩
  replace hE := hE.over hb
  clear hb r
  go_wp2_with fail
  refine (HTO.out _ (hE.get 1 rfl)).mono ?_
  rintro o w2 ⟨rfl, hb⟩
  replace hE := hE.over hb
  clear hb
  go_wp2_with fail
  refine Ord.wp_chain [10] (fun v => Blk 0 v b (rlC lv key vs x y z 5 W X K V C fd)) (fun k w' => ∃ G5, Env w0 (boxI b (rlC lv key vs x y z 5 W X K V C fd) :: boxI u (ruC uc e ro) :: refI m G5 (if k = 0 then ml else swL ml (x, y, z) W q) :: R) w') (by kernel_rfl) (by kernel_rfl) (by kernel_rfl) (hE.drew.get 0 rfl) ⟨_, hE.drew⟩ (fun hT => ?_)
  have hT9 := Lib.hid hT
  clear hT
  repeat (first
    | (refine Ord.ch_value (v := ?_) hT9.out (by decide) (by rfl) ?_ ?_; rotate_left; (focus (intro w5 hS; have r := Blk.rule hS; unfold rlC at r; go_simp <;> with_reducible rfl)); (try simp only [Act.put, List.setIfInBounds_toArray, List.set_cons_zero, List.set_cons_succ]))
    | (refine Ord.ch_off hT9.out (by decide) (by rfl) ?_; (try simp only [Act.put, List.setIfInBounds_toArray, List.set_cons_zero, List.set_cons_succ])))
  refine Ord.ch_turn (v := .bool false) 0 hT9.out rfl (by decide) (Or.inl rfl) (by rfl) ?_ ?_
  · rintro w5 hC5 ⟨G5, hA5⟩
    simp only [if_true] at hA5
    go_simp
    simp only [Ord.LandsIn]
    have hsw := refSwap_any x y z W q hml (hA5.ref 2 rfl)
    rw [HD.out] at hsw
    refine hsw.mono ?_
    rintro e w6 ⟨rfl, G6, hU6, hs6⟩
    have hE6 := hA5.turnU 2 rfl hU6 hs6
    simp only [List.set_cons_succ, List.set_cons_zero] at hE6
    exact ⟨rfl, hE6.get 0 rfl, G6, hE6⟩
  (try simp only [Act.put, List.setIfInBounds_toArray, List.set_cons_zero, List.set_cons_succ])
  repeat (first
    | (refine Ord.ch_value (v := ?_) hT9.out (by decide) (by rfl) ?_ ?_; rotate_left; (focus (intro w5 hS; skip; go_simp <;> with_reducible rfl)); (try simp only [Act.put, List.setIfInBounds_toArray, List.set_cons_zero, List.set_cons_succ]))
    | (refine Ord.ch_off hT9.out (by decide) (by rfl) ?_; (try simp only [Act.put, List.setIfInBounds_toArray, List.set_cons_zero, List.set_cons_succ])))
  refine Ord.InText.nil fun w5 hS => ?_
  clear hT9
  obtain ⟨hC9, hA9⟩ := Ord.chain_end hS
  clear hS
  obtain ⟨G9, hA9⟩ := hA9
  clear hC9 hE
  simp only [List.length_cons, List.length_nil, Nat.zero_add, Nat.one_ne_zero, if_false] at hA9

  go_wp2_with fail
  go_ret
  exact ⟨rfl, G9, hA9⟩

set_option maxHeartbeats 3200000 in
theorem rst5y (heq : getL ml (x, y, z) = W) (hX : InU X) (hml : ml.length ≤ 1000000) (hE : Env w0 (boxI b (rlC lv key vs x y z 5 W X K V C fd) :: boxI u (ruC uc e ro) :: refI m F ml :: R) w) :
    Calls Tryz.prog 99 #[.pointer (some ⟨b, 0, none⟩), .pointer (some ⟨u, 0, none⟩), .pointer (some ⟨m, 0, none⟩)] w fun o w' => o = .returned (.int .i64 (cS (wordI false (slotI X) e))) ∧ ∃ F', Env w0 (boxI b (rlC lv key vs x y z 3 (wordI false (slotI X) e) 0 K V (slotI (wordI false (slotI X) e)) fd) :: boxI u (ruC uc e ro) :: refI m F' (swL ml (x, y, z) W (wordI false (slotI X) e)) :: R) w' := by
  have HD : Hid (decide (getL ml (x, y, z) = W) = true) := Lib.hid (by simpa using heq)
  have HS13 := Lib.hid fun (v : World) => slot13_any X hX v
  have hqi : InU (wordI false (slotI X) e) := wordI_in _ _ _
  have HQI := Lib.hid hqi
  have HTO := Lib.hid fun (v : World) (hv : Blk 0 v u (urv uc.k uc.s uc.b uc.h uc.l e uc.A uc.n uc.c uc.N uc.hs ro)) => rto_c (slotI X) hv
  obtain ⟨s, hs⟩ : ∃ s, slotI X = s := ⟨_, rfl⟩
  rw [hs] at HQI ⊢
  simp only [hs] at HS13 HTO
  obtain ⟨q, hq⟩ : ∃ q, wordI false s e = q := ⟨_, rfl⟩
  rw [hq] at HQI ⊢
  simp only [hq] at HTO
  clear hs hq heq hX hqi
  have r := hE.rule 0 rfl
  unfold rlC at r
  go_enter Tryz.func99, Tryz.ntmps99
  go_wp2_with fail
  refine (HS13.out _).mono ?_
  rintro o w1 ⟨rfl, hb⟩
  replace hE := hE.over hb
  clear hb r
  go_wp2_with fail
  refine (HTO.out _ (hE.get 1 rfl)).mono ?_
  rintro o w2 ⟨rfl, hb⟩
  replace hE := hE.over hb
  clear hb
  go_wp2_with fail
  refine Ord.wp_chain [10] (fun v => Blk 0 v b (rlC lv key vs x y z 5 W X K V C fd)) (fun k w' => ∃ G5, Env w0 (boxI b (rlC lv key vs x y z 5 W X K V C fd) :: boxI u (ruC uc e ro) :: refI m G5 (if k = 0 then ml else swL ml (x, y, z) W q) :: R) w') (by kernel_rfl) (by kernel_rfl) (by kernel_rfl) (hE.drew.get 0 rfl) ⟨_, hE.drew⟩ (fun hT => ?_)
  have hT9 := Lib.hid hT
  clear hT
  repeat (first
    | (refine Ord.ch_value (v := ?_) hT9.out (by decide) (by rfl) ?_ ?_; rotate_left; (focus (intro w5 hS; have r := Blk.rule hS; unfold rlC at r; go_simp <;> with_reducible rfl)); (try simp only [Act.put, List.setIfInBounds_toArray, List.set_cons_zero, List.set_cons_succ]))
    | (refine Ord.ch_off hT9.out (by decide) (by rfl) ?_; (try simp only [Act.put, List.setIfInBounds_toArray, List.set_cons_zero, List.set_cons_succ])))
  refine Ord.ch_turn (v := .bool true) 0 hT9.out rfl (by decide) (Or.inl rfl) (by rfl) ?_ ?_
  · rintro w5 hC5 ⟨G5, hA5⟩
    simp only [if_true] at hA5
    go_simp
    simp only [Ord.LandsIn]
    have hsw := refSwap_any x y z W q hml (hA5.ref 2 rfl)
    rw [HD.out] at hsw
    refine hsw.mono ?_
    rintro e w6 ⟨rfl, G6, hU6, hs6⟩
    have hE6 := hA5.turnU 2 rfl hU6 hs6
    simp only [List.set_cons_succ, List.set_cons_zero] at hE6
    exact ⟨rfl, hE6.get 0 rfl, G6, hE6⟩
  (try simp only [Act.put, List.setIfInBounds_toArray, List.set_cons_zero, List.set_cons_succ])
  repeat (first
    | (refine Ord.ch_value (v := ?_) hT9.out (by decide) (by rfl) ?_ ?_; rotate_left; (focus (intro w5 hS; skip; go_simp <;> with_reducible rfl)); (try simp only [Act.put, List.setIfInBounds_toArray, List.set_cons_zero, List.set_cons_succ]))
    | (refine Ord.ch_off hT9.out (by decide) (by rfl) ?_; (try simp only [Act.put, List.setIfInBounds_toArray, List.set_cons_zero, List.set_cons_succ])))
  refine Ord.InText.nil fun w5 hS => ?_
  clear hT9
  obtain ⟨hC9, hA9⟩ := Ord.chain_end hS
  clear hS
  obtain ⟨G9, hA9⟩ := hA9
  clear hC9 hE
  simp only [List.length_cons, List.length_nil, Nat.zero_add, Nat.one_ne_zero, if_false] at hA9

  go_wp2_with fail
  refine (come_r q HQI.out hA9).mono ?_
  rintro o w7 ⟨rfl, hE7⟩
  go_wp2_with fail
  go_ret
  exact ⟨rfl, G9, hE7⟩

set_option maxHeartbeats 1600000 in
theorem rvn2 (hok : okB (getL ml (1, 0, 0)) e = false) (hu : InU (getL ml (1, 0, 0))) (he : 0 ≤ e ∧ e ≤ 9223372036854775807) (hml : ml.length ≤ 1000000) (hE : Env w0 (boxI b (rlC lv key vs x y z 2 W X K V C fd) :: boxI u (ruC uc e ro) :: refI m F ml :: R) w) :
    Calls Tryz.prog 99 #[.pointer (some ⟨b, 0, none⟩), .pointer (some ⟨u, 0, none⟩), .pointer (some ⟨m, 0, none⟩)] w fun o w' => o = .returned (.int .i64 2) ∧ Env w0 (boxI b (rlC lv key vs x y z 2 W X K V C fd) :: boxI u (ruC uc e (wrap64 (ro + 1))) :: refI m F ml :: R) w' := by
  have hv := rvalid_w (L := (boxI b (rlC lv key vs x y z 2 W X K V C fd) :: boxI u (ruC uc e ro) :: refI m F ml :: R)) (k := uc.k) (s := uc.s) (b := uc.b) (h := uc.h) (l := uc.l) (A := uc.A) (n := uc.n) (c := uc.c) (N := uc.N) (hs := uc.hs) (r := ro) _ (rfl : getL ml (1, 0, 0) = getL ml (1, 0, 0)) hu he.1 he.2 hml 1 2 hE rfl rfl
  rw [hok] at hv
  simp only [List.set_cons_succ, List.set_cons_zero, Bool.false_eq_true, if_false] at hv
  have HV := Lib.hid hv
  clear hv hok hu
  have r := hE.rule 0 rfl
  unfold rlC at r
  go_enter Tryz.func99, Tryz.ntmps99
  go_wp2_with fail
  refine HV.out.mono ?_
  rintro o w1 ⟨rfl, hE1⟩
  go_wp2_with fail
  go_ret
  exact ⟨rfl, hE1⟩
set_option maxHeartbeats 1600000 in
theorem rvy2 (hok : okB (getL ml (1, 0, 0)) e = true) (hu : InU (getL ml (1, 0, 0))) (he : 0 ≤ e ∧ e ≤ 9223372036854775807) (hml : ml.length ≤ 1000000) (s : Int) (Y : World → Prop) (hE : Env w0 (boxI b (rlC lv key vs x y z 2 W X K V C fd) :: boxI u (ruC uc e ro) :: refI m F ml :: R) w)
    (hc : ∀ v, Env w0 (boxI b (rlC lv key vs x y z 2 W X K V C fd) :: boxI u (ruC uc e ro) :: refI m F ml :: R) v → Calls Tryz.prog 156 #[.pointer (some ⟨b, 0, none⟩)] v fun o w' => o = .returned (.int .i64 s) ∧ Y w') :
    Calls Tryz.prog 99 #[.pointer (some ⟨b, 0, none⟩), .pointer (some ⟨u, 0, none⟩), .pointer (some ⟨m, 0, none⟩)] w fun o w' => o = .returned (.int .i64 s) ∧ Y w' := by
  have hv := rvalid_w (L := (boxI b (rlC lv key vs x y z 2 W X K V C fd) :: boxI u (ruC uc e ro) :: refI m F ml :: R)) (k := uc.k) (s := uc.s) (b := uc.b) (h := uc.h) (l := uc.l) (A := uc.A) (n := uc.n) (c := uc.c) (N := uc.N) (hs := uc.hs) (r := ro) _ (rfl : getL ml (1, 0, 0) = getL ml (1, 0, 0)) hu he.1 he.2 hml 1 2 hE rfl rfl
  rw [hok] at hv
  simp only [List.set_cons_succ, List.set_cons_zero, if_true] at hv
  have HV := Lib.hid hv
  have HC := Lib.hid hc
  clear hv hok hu hc
  have r := hE.rule 0 rfl
  unfold rlC at r
  go_enter Tryz.func99, Tryz.ntmps99
  go_wp2_with fail
  refine HV.out.mono ?_
  rintro o w1 ⟨rfl, hE1⟩
  go_wp2_with fail
  refine (HC.out _ hE1).mono ?_
  rintro o w2 ⟨rfl, hY⟩
  go_wp2_with fail
  go_ret
  exact ⟨rfl, hY⟩

set_option maxHeartbeats 1600000 in
theorem rvn4 (hok : okB (getL ml (1, 0, 0)) e = false) (hu : InU (getL ml (1, 0, 0))) (he : 0 ≤ e ∧ e ≤ 9223372036854775807) (hml : ml.length ≤ 1000000) (hE : Env w0 (boxI b (rlC lv key vs x y z 4 W X K V C fd) :: boxI u (ruC uc e ro) :: refI m F ml :: R) w) :
    Calls Tryz.prog 99 #[.pointer (some ⟨b, 0, none⟩), .pointer (some ⟨u, 0, none⟩), .pointer (some ⟨m, 0, none⟩)] w fun o w' => o = .returned (.int .i64 2) ∧ Env w0 (boxI b (rlC lv key vs x y z 4 W X K V C fd) :: boxI u (ruC uc e (wrap64 (ro + 1))) :: refI m F ml :: R) w' := by
  have hv := rvalid_w (L := (boxI b (rlC lv key vs x y z 4 W X K V C fd) :: boxI u (ruC uc e ro) :: refI m F ml :: R)) (k := uc.k) (s := uc.s) (b := uc.b) (h := uc.h) (l := uc.l) (A := uc.A) (n := uc.n) (c := uc.c) (N := uc.N) (hs := uc.hs) (r := ro) _ (rfl : getL ml (1, 0, 0) = getL ml (1, 0, 0)) hu he.1 he.2 hml 1 2 hE rfl rfl
  rw [hok] at hv
  simp only [List.set_cons_succ, List.set_cons_zero, Bool.false_eq_true, if_false] at hv
  have HV := Lib.hid hv
  clear hv hok hu
  have r := hE.rule 0 rfl
  unfold rlC at r
  go_enter Tryz.func99, Tryz.ntmps99
  go_wp2_with fail
  refine HV.out.mono ?_
  rintro o w1 ⟨rfl, hE1⟩
  go_wp2_with fail
  go_ret
  exact ⟨rfl, hE1⟩
set_option maxHeartbeats 1600000 in
theorem rvy4 (hok : okB (getL ml (1, 0, 0)) e = true) (hu : InU (getL ml (1, 0, 0))) (he : 0 ≤ e ∧ e ≤ 9223372036854775807) (hml : ml.length ≤ 1000000) (s : Int) (Y : World → Prop) (hE : Env w0 (boxI b (rlC lv key vs x y z 4 W X K V C fd) :: boxI u (ruC uc e ro) :: refI m F ml :: R) w)
    (hc : ∀ v, Env w0 (boxI b (rlC lv key vs x y z 4 W X K V C fd) :: boxI u (ruC uc e ro) :: refI m F ml :: R) v → Calls Tryz.prog 156 #[.pointer (some ⟨b, 0, none⟩)] v fun o w' => o = .returned (.int .i64 s) ∧ Y w') :
    Calls Tryz.prog 99 #[.pointer (some ⟨b, 0, none⟩), .pointer (some ⟨u, 0, none⟩), .pointer (some ⟨m, 0, none⟩)] w fun o w' => o = .returned (.int .i64 s) ∧ Y w' := by
  have hv := rvalid_w (L := (boxI b (rlC lv key vs x y z 4 W X K V C fd) :: boxI u (ruC uc e ro) :: refI m F ml :: R)) (k := uc.k) (s := uc.s) (b := uc.b) (h := uc.h) (l := uc.l) (A := uc.A) (n := uc.n) (c := uc.c) (N := uc.N) (hs := uc.hs) (r := ro) _ (rfl : getL ml (1, 0, 0) = getL ml (1, 0, 0)) hu he.1 he.2 hml 1 2 hE rfl rfl
  rw [hok] at hv
  simp only [List.set_cons_succ, List.set_cons_zero, if_true] at hv
  have HV := Lib.hid hv
  have HC := Lib.hid hc
  clear hv hok hu hc
  have r := hE.rule 0 rfl
  unfold rlC at r
  go_enter Tryz.func99, Tryz.ntmps99
  go_wp2_with fail
  refine HV.out.mono ?_
  rintro o w1 ⟨rfl, hE1⟩
  go_wp2_with fail
  refine (HC.out _ hE1).mono ?_
  rintro o w2 ⟨rfl, hY⟩
  go_wp2_with fail
  go_ret
  exact ⟨rfl, hY⟩

set_option maxHeartbeats 1600000 in
theorem rvn7 (hok : okB (getL ml (1, 0, 0)) e = false) (hu : InU (getL ml (1, 0, 0))) (he : 0 ≤ e ∧ e ≤ 9223372036854775807) (hml : ml.length ≤ 1000000) (hE : Env w0 (boxI b (rlC lv key vs x y z 7 W X K V C fd) :: boxI u (ruC uc e ro) :: refI m F ml :: R) w) :
    Calls Tryz.prog 99 #[.pointer (some ⟨b, 0, none⟩), .pointer (some ⟨u, 0, none⟩), .pointer (some ⟨m, 0, none⟩)] w fun o w' => o = .returned (.int .i64 2) ∧ Env w0 (boxI b (rlC lv key vs x y z 7 W X K V C fd) :: boxI u (ruC uc e (wrap64 (ro + 1))) :: refI m F ml :: R) w' := by
  have hv := rvalid_w (L := (boxI b (rlC lv key vs x y z 7 W X K V C fd) :: boxI u (ruC uc e ro) :: refI m F ml :: R)) (k := uc.k) (s := uc.s) (b := uc.b) (h := uc.h) (l := uc.l) (A := uc.A) (n := uc.n) (c := uc.c) (N := uc.N) (hs := uc.hs) (r := ro) _ (rfl : getL ml (1, 0, 0) = getL ml (1, 0, 0)) hu he.1 he.2 hml 1 2 hE rfl rfl
  rw [hok] at hv
  simp only [List.set_cons_succ, List.set_cons_zero, Bool.false_eq_true, if_false] at hv
  have HV := Lib.hid hv
  clear hv hok hu
  have r := hE.rule 0 rfl
  unfold rlC at r
  go_enter Tryz.func99, Tryz.ntmps99
  go_wp2_with fail
  refine HV.out.mono ?_
  rintro o w1 ⟨rfl, hE1⟩
  go_wp2_with fail
  go_ret
  exact ⟨rfl, hE1⟩
set_option maxHeartbeats 1600000 in
theorem rvy7 (hok : okB (getL ml (1, 0, 0)) e = true) (hu : InU (getL ml (1, 0, 0))) (he : 0 ≤ e ∧ e ≤ 9223372036854775807) (hml : ml.length ≤ 1000000) (s : Int) (Y : World → Prop) (hE : Env w0 (boxI b (rlC lv key vs x y z 7 W X K V C fd) :: boxI u (ruC uc e ro) :: refI m F ml :: R) w)
    (hc : ∀ v, Env w0 (boxI b (rlC lv key vs x y z 7 W X K V C fd) :: boxI u (ruC uc e ro) :: refI m F ml :: R) v → Calls Tryz.prog 156 #[.pointer (some ⟨b, 0, none⟩)] v fun o w' => o = .returned (.int .i64 s) ∧ Y w') :
    Calls Tryz.prog 99 #[.pointer (some ⟨b, 0, none⟩), .pointer (some ⟨u, 0, none⟩), .pointer (some ⟨m, 0, none⟩)] w fun o w' => o = .returned (.int .i64 s) ∧ Y w' := by
  have hv := rvalid_w (L := (boxI b (rlC lv key vs x y z 7 W X K V C fd) :: boxI u (ruC uc e ro) :: refI m F ml :: R)) (k := uc.k) (s := uc.s) (b := uc.b) (h := uc.h) (l := uc.l) (A := uc.A) (n := uc.n) (c := uc.c) (N := uc.N) (hs := uc.hs) (r := ro) _ (rfl : getL ml (1, 0, 0) = getL ml (1, 0, 0)) hu he.1 he.2 hml 1 2 hE rfl rfl
  rw [hok] at hv
  simp only [List.set_cons_succ, List.set_cons_zero, if_true] at hv
  have HV := Lib.hid hv
  have HC := Lib.hid hc
  clear hv hok hu hc
  have r := hE.rule 0 rfl
  unfold rlC at r
  go_enter Tryz.func99, Tryz.ntmps99
  go_wp2_with fail
  refine HV.out.mono ?_
  rintro o w1 ⟨rfl, hE1⟩
  go_wp2_with fail
  refine (HC.out _ hE1).mono ?_
  rintro o w2 ⟨rfl, hY⟩
  go_wp2_with fail
  go_ret
  exact ⟨rfl, hY⟩

set_option maxHeartbeats 1600000 in
theorem rvn9 (hok : okB (getL ml (1, 0, 0)) e = false) (hu : InU (getL ml (1, 0, 0))) (he : 0 ≤ e ∧ e ≤ 9223372036854775807) (hml : ml.length ≤ 1000000) (hE : Env w0 (boxI b (rlC lv key vs x y z 9 W X K V C fd) :: boxI u (ruC uc e ro) :: refI m F ml :: R) w) :
    Calls Tryz.prog 99 #[.pointer (some ⟨b, 0, none⟩), .pointer (some ⟨u, 0, none⟩), .pointer (some ⟨m, 0, none⟩)] w fun o w' => o = .returned (.int .i64 2) ∧ Env w0 (boxI b (rlC lv key vs x y z 9 W X K V C fd) :: boxI u (ruC uc e (wrap64 (ro + 1))) :: refI m F ml :: R) w' := by
  have hv := rvalid_w (L := (boxI b (rlC lv key vs x y z 9 W X K V C fd) :: boxI u (ruC uc e ro) :: refI m F ml :: R)) (k := uc.k) (s := uc.s) (b := uc.b) (h := uc.h) (l := uc.l) (A := uc.A) (n := uc.n) (c := uc.c) (N := uc.N) (hs := uc.hs) (r := ro) _ (rfl : getL ml (1, 0, 0) = getL ml (1, 0, 0)) hu he.1 he.2 hml 1 2 hE rfl rfl
  rw [hok] at hv
  simp only [List.set_cons_succ, List.set_cons_zero, Bool.false_eq_true, if_false] at hv
  have HV := Lib.hid hv
  clear hv hok hu
  have r := hE.rule 0 rfl
  unfold rlC at r
  go_enter Tryz.func99, Tryz.ntmps99
  go_wp2_with fail
  refine HV.out.mono ?_
  rintro o w1 ⟨rfl, hE1⟩
  go_wp2_with fail
  go_ret
  exact ⟨rfl, hE1⟩
set_option maxHeartbeats 1600000 in
theorem rvy9 (hok : okB (getL ml (1, 0, 0)) e = true) (hu : InU (getL ml (1, 0, 0))) (he : 0 ≤ e ∧ e ≤ 9223372036854775807) (hml : ml.length ≤ 1000000) (s : Int) (Y : World → Prop) (hE : Env w0 (boxI b (rlC lv key vs x y z 9 W X K V C fd) :: boxI u (ruC uc e ro) :: refI m F ml :: R) w)
    (hc : ∀ v, Env w0 (boxI b (rlC lv key vs x y z 9 W X K V C fd) :: boxI u (ruC uc e ro) :: refI m F ml :: R) v → Calls Tryz.prog 156 #[.pointer (some ⟨b, 0, none⟩)] v fun o w' => o = .returned (.int .i64 s) ∧ Y w') :
    Calls Tryz.prog 99 #[.pointer (some ⟨b, 0, none⟩), .pointer (some ⟨u, 0, none⟩), .pointer (some ⟨m, 0, none⟩)] w fun o w' => o = .returned (.int .i64 s) ∧ Y w' := by
  have hv := rvalid_w (L := (boxI b (rlC lv key vs x y z 9 W X K V C fd) :: boxI u (ruC uc e ro) :: refI m F ml :: R)) (k := uc.k) (s := uc.s) (b := uc.b) (h := uc.h) (l := uc.l) (A := uc.A) (n := uc.n) (c := uc.c) (N := uc.N) (hs := uc.hs) (r := ro) _ (rfl : getL ml (1, 0, 0) = getL ml (1, 0, 0)) hu he.1 he.2 hml 1 2 hE rfl rfl
  rw [hok] at hv
  simp only [List.set_cons_succ, List.set_cons_zero, if_true] at hv
  have HV := Lib.hid hv
  have HC := Lib.hid hc
  clear hv hok hu hc
  have r := hE.rule 0 rfl
  unfold rlC at r
  go_enter Tryz.func99, Tryz.ntmps99
  go_wp2_with fail
  refine HV.out.mono ?_
  rintro o w1 ⟨rfl, hE1⟩
  go_wp2_with fail
  refine (HC.out _ hE1).mono ?_
  rintro o w2 ⟨rfl, hY⟩
  go_wp2_with fail
  go_ret
  exact ⟨rfl, hY⟩

end
/-- A reference's lane's cells, by the model. -/
def rlV (lv key : Int) (vs : Bool) (L : Lm) : List Value := rlC lv key vs L.p.1 L.p.2.1 L.p.2.2 (L.pc : Int) L.W L.X L.K L.V L.C L.fd
/-- A reference's lane, its thread's cells, its memory. -/
def RLn (uc : Uc) (w0 : World) (R : List Item) (b u m : Nat) (lv key : Int) (vs : Bool) (L : Lm) (e ro : Int) (f : Plc → Int) (N : Nat) (w : World) : Prop :=
  ∃ F ml, getL ml = f ∧ ml.length ≤ N ∧ Env w0 (boxI b (rlV lv key vs L) :: boxI u (ruC uc e ro) :: refI m F ml :: R) w
section
variable {uc : Uc} {w0 w : World} {R : List Item} {b u m N : Nat} {f : Plc → Int} {lv key e ro : Int} {vs : Bool} {L : Lm}

theorem rlane_0 (hpc : L.pc = 0) (hL : LmOk L) (hlv : 0 ≤ lv ∧ lv ≤ 1000000) (he : 0 ≤ e ∧ e ≤ 9223372036854775807) (hu : ∀ x, InU (f x)) (hN : N ≤ 1000000) (h : RLn uc w0 R b u m lv key vs L e ro f N w) :
    Calls Tryz.prog 99 #[.pointer (some ⟨b, 0, none⟩), .pointer (some ⟨u, 0, none⟩), .pointer (some ⟨m, 0, none⟩)] w fun o w' => o = .returned (.int .i64 (laneM lv key vs e L f).1) ∧ RLn uc w0 R b u m lv key vs (laneM lv key vs e L f).2.1 e (rollM e L f ro) (laneM lv key vs e L f).2.2 (N + 1) w' := by
  obtain ⟨F, ml, rfl, hl, hE⟩ := h
  have hE0 : Env w0 (boxI b (rlC lv key vs L.p.1 L.p.2.1 L.p.2.2 0 L.W L.X L.K L.V L.C L.fd) :: boxI u (ruC uc e ro) :: refI m F ml :: R) w := by
    have h9 := hE
    unfold rlV at h9
    rw [hpc] at h9
    exact h9
  clear hE
  have hM : laneM lv key vs e L (getL ml) = (0, { L with W := getL ml L.p, pc := 2 }, getL ml) := by simp [laneM, hpc]
  have hr : rollM e L (getL ml) ro = ro := by simp [rollM, hpc, isVal]
  rw [hM, hr]
  refine (rst0 (getL ml L.p) rfl (by omega) hE0).mono ?_
  rintro o w1 ⟨rfl, hE1⟩
  exact ⟨rfl, F, ml, rfl, by omega, hE1⟩

theorem rlane_3 (hpc : L.pc = 3) (hL : LmOk L) (hlv : 0 ≤ lv ∧ lv ≤ 1000000) (he : 0 ≤ e ∧ e ≤ 9223372036854775807) (hu : ∀ x, InU (f x)) (hN : N ≤ 1000000) (h : RLn uc w0 R b u m lv key vs L e ro f N w) :
    Calls Tryz.prog 99 #[.pointer (some ⟨b, 0, none⟩), .pointer (some ⟨u, 0, none⟩), .pointer (some ⟨m, 0, none⟩)] w fun o w' => o = .returned (.int .i64 (laneM lv key vs e L f).1) ∧ RLn uc w0 R b u m lv key vs (laneM lv key vs e L f).2.1 e (rollM e L f ro) (laneM lv key vs e L f).2.2 (N + 1) w' := by
  obtain ⟨F, ml, rfl, hl, hE⟩ := h
  have hE0 : Env w0 (boxI b (rlC lv key vs L.p.1 L.p.2.1 L.p.2.2 3 L.W L.X L.K L.V L.C L.fd) :: boxI u (ruC uc e ro) :: refI m F ml :: R) w := by
    have h9 := hE
    unfold rlV at h9
    rw [hpc] at h9
    exact h9
  clear hE
  have hM : laneM lv key vs e L (getL ml) = (0, { L with X := getL ml (5, L.C, 7 + lv), pc := 4 }, getL ml) := by simp [laneM, hpc]
  have hr : rollM e L (getL ml) ro = ro := by simp [rollM, hpc, isVal]
  rw [hM, hr]
  refine (rst3 hlv (getL ml (5, L.C, 7 + lv)) rfl (by omega) hE0).mono ?_
  rintro o w1 ⟨rfl, hE1⟩
  exact ⟨rfl, F, ml, rfl, by omega, hE1⟩

theorem rlane_6 (hpc : L.pc = 6) (hL : LmOk L) (hlv : 0 ≤ lv ∧ lv ≤ 1000000) (he : 0 ≤ e ∧ e ≤ 9223372036854775807) (hu : ∀ x, InU (f x)) (hN : N ≤ 1000000) (h : RLn uc w0 R b u m lv key vs L e ro f N w) :
    Calls Tryz.prog 99 #[.pointer (some ⟨b, 0, none⟩), .pointer (some ⟨u, 0, none⟩), .pointer (some ⟨m, 0, none⟩)] w fun o w' => o = .returned (.int .i64 (laneM lv key vs e L f).1) ∧ RLn uc w0 R b u m lv key vs (laneM lv key vs e L f).2.1 e (rollM e L f ro) (laneM lv key vs e L f).2.2 (N + 1) w' := by
  obtain ⟨F, ml, rfl, hl, hE⟩ := h
  have hE0 : Env w0 (boxI b (rlC lv key vs L.p.1 L.p.2.1 L.p.2.2 6 L.W L.X L.K L.V L.C L.fd) :: boxI u (ruC uc e ro) :: refI m F ml :: R) w := by
    have h9 := hE
    unfold rlV at h9
    rw [hpc] at h9
    exact h9
  clear hE
  have hM : laneM lv key vs e L (getL ml) = (0, { L with K := getL ml (5, L.C, 3), pc := 7 }, getL ml) := by simp [laneM, hpc]
  have hr : rollM e L (getL ml) ro = ro := by simp [rollM, hpc, isVal]
  rw [hM, hr]
  refine (rst6 (getL ml (5, L.C, 3)) rfl (by omega) hE0).mono ?_
  rintro o w1 ⟨rfl, hE1⟩
  exact ⟨rfl, F, ml, rfl, by omega, hE1⟩

theorem rlane_8 (hpc : L.pc = 8) (hL : LmOk L) (hlv : 0 ≤ lv ∧ lv ≤ 1000000) (he : 0 ≤ e ∧ e ≤ 9223372036854775807) (hu : ∀ x, InU (f x)) (hN : N ≤ 1000000) (h : RLn uc w0 R b u m lv key vs L e ro f N w) :
    Calls Tryz.prog 99 #[.pointer (some ⟨b, 0, none⟩), .pointer (some ⟨u, 0, none⟩), .pointer (some ⟨m, 0, none⟩)] w fun o w' => o = .returned (.int .i64 (laneM lv key vs e L f).1) ∧ RLn uc w0 R b u m lv key vs (laneM lv key vs e L f).2.1 e (rollM e L f ro) (laneM lv key vs e L f).2.2 (N + 1) w' := by
  obtain ⟨F, ml, rfl, hl, hE⟩ := h
  have hE0 : Env w0 (boxI b (rlC lv key vs L.p.1 L.p.2.1 L.p.2.2 8 L.W L.X L.K L.V L.C L.fd) :: boxI u (ruC uc e ro) :: refI m F ml :: R) w := by
    have h9 := hE
    unfold rlV at h9
    rw [hpc] at h9
    exact h9
  clear hE
  have hM : laneM lv key vs e L (getL ml) = (0, { L with V := getL ml (5, L.C, 4), pc := 9 }, getL ml) := by simp [laneM, hpc]
  have hr : rollM e L (getL ml) ro = ro := by simp [rollM, hpc, isVal]
  rw [hM, hr]
  refine (rst8 (getL ml (5, L.C, 4)) rfl (by omega) hE0).mono ?_
  rintro o w1 ⟨rfl, hE1⟩
  exact ⟨rfl, F, ml, rfl, by omega, hE1⟩

theorem swL_len (l : List OneR) (x : Plc) (o v : Int) : (swL l x o v).length ≤ l.length + 1 := by
  unfold swL
  split
  · exact setL_length _ _ _
  · omega
theorem rlane_5 (hpc : L.pc = 5) (hL : LmOk L) (hlv : 0 ≤ lv ∧ lv ≤ 1000000) (he : 0 ≤ e ∧ e ≤ 9223372036854775807) (hu : ∀ x, InU (f x)) (hN : N ≤ 1000000) (h : RLn uc w0 R b u m lv key vs L e ro f N w) :
    Calls Tryz.prog 99 #[.pointer (some ⟨b, 0, none⟩), .pointer (some ⟨u, 0, none⟩), .pointer (some ⟨m, 0, none⟩)] w fun o w' => o = .returned (.int .i64 (laneM lv key vs e L f).1) ∧ RLn uc w0 R b u m lv key vs (laneM lv key vs e L f).2.1 e (rollM e L f ro) (laneM lv key vs e L f).2.2 (N + 1) w' := by
  obtain ⟨F, ml, rfl, hl, hE⟩ := h
  have hE0 : Env w0 (boxI b (rlC lv key vs L.p.1 L.p.2.1 L.p.2.2 5 L.W L.X L.K L.V L.C L.fd) :: boxI u (ruC uc e ro) :: refI m F ml :: R) w := by
    have h9 := hE
    unfold rlV at h9
    rw [hpc] at h9
    exact h9
  clear hE
  have hr : rollM e L (getL ml) ro = ro := by simp [rollM, hpc, isVal]
  have hsl := swL_len ml L.p L.W (wordI false (slotI L.X) e)
  by_cases heq : getL ml L.p = L.W
  · have hM : laneM lv key vs e L (getL ml) = (cS (wordI false (slotI L.X) e), { L with W := wordI false (slotI L.X) e, X := 0, C := slotI (wordI false (slotI L.X) e), pc := 3 }, swf (getL ml) L.p L.W (wordI false (slotI L.X) e)) := by simp [laneM, hpc, heq, comeM_cS]
    rw [hM, hr]
    refine (rst5y heq hL.X (by omega) hE0).mono ?_
    rintro o w1 ⟨rfl, F', hE1⟩
    exact ⟨rfl, F', _, (swf_getL _ _ _ _).symm, by omega, hE1⟩
  · have hM : laneM lv key vs e L (getL ml) = (2, L, swf (getL ml) L.p L.W (wordI false (slotI L.X) e)) := by simp [laneM, hpc, heq]
    rw [hM, hr]
    refine (rst5n heq hL.X (by omega) hE0).mono ?_
    rintro o w1 ⟨rfl, F', hE1⟩
    refine ⟨rfl, F', _, (swf_getL _ _ _ _).symm, by omega, ?_⟩
    unfold rlV
    rw [hpc]
    exact hE1

theorem rlane_2 (hpc : L.pc = 2) (hL : LmOk L) (hlv : 0 ≤ lv ∧ lv ≤ 1000000) (he : 0 ≤ e ∧ e ≤ 9223372036854775807) (hu : ∀ x, InU (f x)) (hN : N ≤ 1000000) (h : RLn uc w0 R b u m lv key vs L e ro f N w) :
    Calls Tryz.prog 99 #[.pointer (some ⟨b, 0, none⟩), .pointer (some ⟨u, 0, none⟩), .pointer (some ⟨m, 0, none⟩)] w fun o w' => o = .returned (.int .i64 (laneM lv key vs e L f).1) ∧ RLn uc w0 R b u m lv key vs (laneM lv key vs e L f).2.1 e (rollM e L f ro) (laneM lv key vs e L f).2.2 (N + 1) w' := by
  obtain ⟨F, ml, rfl, hl, hE⟩ := h
  have hE0 : Env w0 (boxI b (rlC lv key vs L.p.1 L.p.2.1 L.p.2.2 2 L.W L.X L.K L.V L.C L.fd) :: boxI u (ruC uc e ro) :: refI m F ml :: R) w := by
    have h9 := hE
    unfold rlV at h9
    rw [hpc] at h9
    exact h9
  clear hE
  by_cases hok : okB (getL ml (1, 0, 0)) e = true
  · have hr : rollM e L (getL ml) ro = ro := by simp [rollM, hok]
    rw [hr]
    by_cases hmk : markB L.W = true
    · skip
      have hM : laneM lv key vs e L (getL ml) = (2, L, getL ml) := by simp [laneM, holdsM, hpc, hok, comeM_cS, hmk]
      rw [hM]
      refine rvy2 hok (hu _) he (by omega) _ _ hE0 fun v hv => ?_
      refine (holds2a_r hmk hL.W hv).mono ?_
      rintro o w1 ⟨rfl, hE1⟩
      refine ⟨rfl, F, ml, rfl, by omega, ?_⟩
      unfold rlV
      rw [hpc]
      exact hE1
    · have hmk : markB L.W = false := by simpa using hmk
      have hM : laneM lv key vs e L (getL ml) = (cS L.W, { L with W := L.W, X := 0, C := slotI L.W, pc := 3 }, getL ml) := by simp [laneM, holdsM, hpc, hok, comeM_cS, hmk]
      rw [hM]
      refine rvy2 hok (hu _) he (by omega) _ _ hE0 fun v hv => ?_
      refine (holds2b_r hmk hL.W hv).mono ?_
      rintro o w1 ⟨rfl, hE1⟩
      exact ⟨rfl, F, ml, rfl, by omega, hE1⟩
  · have hok : okB (getL ml (1, 0, 0)) e = false := by simpa using hok
    have hr : rollM e L (getL ml) ro = wrap64 (ro + 1) := by simp [rollM, hpc, isVal, hok]
    have hM : laneM lv key vs e L (getL ml) = (2, L, getL ml) := by simp [laneM, hpc, hok]
    rw [hM, hr]
    refine (rvn2 hok (hu _) he (by omega) hE0).mono ?_
    rintro o w1 ⟨rfl, hE1⟩
    refine ⟨rfl, F, ml, rfl, by omega, ?_⟩
    unfold rlV
    rw [hpc]
    exact hE1

theorem rlane_4 (hpc : L.pc = 4) (hL : LmOk L) (hlv : 0 ≤ lv ∧ lv ≤ 1000000) (he : 0 ≤ e ∧ e ≤ 9223372036854775807) (hu : ∀ x, InU (f x)) (hN : N ≤ 1000000) (h : RLn uc w0 R b u m lv key vs L e ro f N w) :
    Calls Tryz.prog 99 #[.pointer (some ⟨b, 0, none⟩), .pointer (some ⟨u, 0, none⟩), .pointer (some ⟨m, 0, none⟩)] w fun o w' => o = .returned (.int .i64 (laneM lv key vs e L f).1) ∧ RLn uc w0 R b u m lv key vs (laneM lv key vs e L f).2.1 e (rollM e L f ro) (laneM lv key vs e L f).2.2 (N + 1) w' := by
  obtain ⟨F, ml, rfl, hl, hE⟩ := h
  have hE0 : Env w0 (boxI b (rlC lv key vs L.p.1 L.p.2.1 L.p.2.2 4 L.W L.X L.K L.V L.C L.fd) :: boxI u (ruC uc e ro) :: refI m F ml :: R) w := by
    have h9 := hE
    unfold rlV at h9
    rw [hpc] at h9
    exact h9
  clear hE
  by_cases hok : okB (getL ml (1, 0, 0)) e = true
  · have hr : rollM e L (getL ml) ro = ro := by simp [rollM, hok]
    rw [hr]
    have hM : laneM lv key vs e L (getL ml) = (0, { L with pc := if markB L.X then 5 else 6 }, getL ml) := by simp [laneM, holdsM, hpc, hok, comeM_cS]
    rw [hM]
    refine rvy4 hok (hu _) he (by omega) _ _ hE0 fun v hv => ?_
    refine (holds4_r hL.X hv).mono ?_
    rintro o w1 ⟨rfl, hE1⟩
    refine ⟨rfl, F, ml, rfl, by omega, ?_⟩
    cases hmk : markB L.X
    · rw [hmk] at hE1
      exact hE1
    · rw [hmk] at hE1
      exact hE1
  · have hok : okB (getL ml (1, 0, 0)) e = false := by simpa using hok
    have hr : rollM e L (getL ml) ro = wrap64 (ro + 1) := by simp [rollM, hpc, isVal, hok]
    have hM : laneM lv key vs e L (getL ml) = (2, L, getL ml) := by simp [laneM, hpc, hok]
    rw [hM, hr]
    refine (rvn4 hok (hu _) he (by omega) hE0).mono ?_
    rintro o w1 ⟨rfl, hE1⟩
    refine ⟨rfl, F, ml, rfl, by omega, ?_⟩
    unfold rlV
    rw [hpc]
    exact hE1

theorem rlane_7 (hpc : L.pc = 7) (hL : LmOk L) (hlv : 0 ≤ lv ∧ lv ≤ 1000000) (he : 0 ≤ e ∧ e ≤ 9223372036854775807) (hu : ∀ x, InU (f x)) (hN : N ≤ 1000000) (h : RLn uc w0 R b u m lv key vs L e ro f N w) :
    Calls Tryz.prog 99 #[.pointer (some ⟨b, 0, none⟩), .pointer (some ⟨u, 0, none⟩), .pointer (some ⟨m, 0, none⟩)] w fun o w' => o = .returned (.int .i64 (laneM lv key vs e L f).1) ∧ RLn uc w0 R b u m lv key vs (laneM lv key vs e L f).2.1 e (rollM e L f ro) (laneM lv key vs e L f).2.2 (N + 1) w' := by
  obtain ⟨F, ml, rfl, hl, hE⟩ := h
  have hE0 : Env w0 (boxI b (rlC lv key vs L.p.1 L.p.2.1 L.p.2.2 7 L.W L.X L.K L.V L.C L.fd) :: boxI u (ruC uc e ro) :: refI m F ml :: R) w := by
    have h9 := hE
    unfold rlV at h9
    rw [hpc] at h9
    exact h9
  clear hE
  by_cases hok : okB (getL ml (1, 0, 0)) e = true
  · have hr : rollM e L (getL ml) ro = ro := by simp [rollM, hok]
    rw [hr]
    by_cases hlt : L.K < key
    · skip
      have hM : laneM lv key vs e L (getL ml) = (cS L.X, { L with p := (5, L.C, 7 + lv), W := L.X, X := 0, C := slotI L.X, pc := 3 }, getL ml) := by simp [laneM, holdsM, hpc, hok, comeM_cS, hlt]
      rw [hM]
      refine rvy7 hok (hu _) he (by omega) _ _ hE0 fun v hv => ?_
      refine (holds7a_r hlt hlv hL.X hv).mono ?_
      rintro o w1 ⟨rfl, hE1⟩
      exact ⟨rfl, F, ml, rfl, by omega, hE1⟩
    · by_cases heq : L.K = key
      · cases vs
        · skip
          have hM : laneM lv key false e L (getL ml) = (1, { L with fd := true }, getL ml) := by simp [laneM, holdsM, hpc, hok, comeM_cS, heq]
          rw [hM]
          refine rvy7 hok (hu _) he (by omega) _ _ hE0 fun v hv => ?_
          refine (holds7b_r heq hv).mono ?_
          rintro o w1 ⟨rfl, hE1⟩
          refine ⟨rfl, F, ml, rfl, by omega, ?_⟩
          unfold rlV
          dsimp only
          rw [hpc]
          exact hE1
        · skip
          have hM : laneM lv key true e L (getL ml) = (0, { L with fd := true, pc := 8 }, getL ml) := by simp [laneM, holdsM, hpc, hok, comeM_cS, heq]
          rw [hM]
          refine rvy7 hok (hu _) he (by omega) _ _ hE0 fun v hv => ?_
          refine (holds7c_r heq hv).mono ?_
          rintro o w1 ⟨rfl, hE1⟩
          exact ⟨rfl, F, ml, rfl, by omega, hE1⟩
      · skip
        have hM : laneM lv key vs e L (getL ml) = (1, L, getL ml) := by simp [laneM, holdsM, hpc, hok, comeM_cS, hlt, heq]
        rw [hM]
        refine rvy7 hok (hu _) he (by omega) _ _ hE0 fun v hv => ?_
        refine (holds7d_r (by omega) hv).mono ?_
        rintro o w1 ⟨rfl, hE1⟩
        refine ⟨rfl, F, ml, rfl, by omega, ?_⟩
        unfold rlV
        rw [hpc]
        exact hE1
  · have hok : okB (getL ml (1, 0, 0)) e = false := by simpa using hok
    have hr : rollM e L (getL ml) ro = wrap64 (ro + 1) := by simp [rollM, hpc, isVal, hok]
    have hM : laneM lv key vs e L (getL ml) = (2, L, getL ml) := by simp [laneM, hpc, hok]
    rw [hM, hr]
    refine (rvn7 hok (hu _) he (by omega) hE0).mono ?_
    rintro o w1 ⟨rfl, hE1⟩
    refine ⟨rfl, F, ml, rfl, by omega, ?_⟩
    unfold rlV
    rw [hpc]
    exact hE1

theorem rlane_9 (hpc : L.pc = 9) (hL : LmOk L) (hlv : 0 ≤ lv ∧ lv ≤ 1000000) (he : 0 ≤ e ∧ e ≤ 9223372036854775807) (hu : ∀ x, InU (f x)) (hN : N ≤ 1000000) (h : RLn uc w0 R b u m lv key vs L e ro f N w) :
    Calls Tryz.prog 99 #[.pointer (some ⟨b, 0, none⟩), .pointer (some ⟨u, 0, none⟩), .pointer (some ⟨m, 0, none⟩)] w fun o w' => o = .returned (.int .i64 (laneM lv key vs e L f).1) ∧ RLn uc w0 R b u m lv key vs (laneM lv key vs e L f).2.1 e (rollM e L f ro) (laneM lv key vs e L f).2.2 (N + 1) w' := by
  obtain ⟨F, ml, rfl, hl, hE⟩ := h
  have hE0 : Env w0 (boxI b (rlC lv key vs L.p.1 L.p.2.1 L.p.2.2 9 L.W L.X L.K L.V L.C L.fd) :: boxI u (ruC uc e ro) :: refI m F ml :: R) w := by
    have h9 := hE
    unfold rlV at h9
    rw [hpc] at h9
    exact h9
  clear hE
  by_cases hok : okB (getL ml (1, 0, 0)) e = true
  · have hr : rollM e L (getL ml) ro = ro := by simp [rollM, hok]
    rw [hr]
    have hM : laneM lv key vs e L (getL ml) = (1, L, getL ml) := by simp [laneM, holdsM, hpc, hok, comeM_cS]
    rw [hM]
    refine rvy9 hok (hu _) he (by omega) _ _ hE0 fun v hv => ?_
    refine (holds9_r hv).mono ?_
    rintro o w1 ⟨rfl, hE1⟩
    refine ⟨rfl, F, ml, rfl, by omega, ?_⟩
    unfold rlV
    rw [hpc]
    exact hE1
  · have hok : okB (getL ml (1, 0, 0)) e = false := by simpa using hok
    have hr : rollM e L (getL ml) ro = wrap64 (ro + 1) := by simp [rollM, hpc, isVal, hok]
    have hM : laneM lv key vs e L (getL ml) = (2, L, getL ml) := by simp [laneM, hpc, hok]
    rw [hM, hr]
    refine (rvn9 hok (hu _) he (by omega) hE0).mono ?_
    rintro o w1 ⟨rfl, hE1⟩
    refine ⟨rfl, F, ml, rfl, by omega, ?_⟩
    unfold rlV
    rw [hpc]
    exact hE1

theorem rlane (hL : LmOk L) (hlv : 0 ≤ lv ∧ lv ≤ 1000000) (he : 0 ≤ e ∧ e ≤ 9223372036854775807) (hu : ∀ x, InU (f x)) (hN : N ≤ 1000000) (h : RLn uc w0 R b u m lv key vs L e ro f N w) :
    Calls Tryz.prog 99 #[.pointer (some ⟨b, 0, none⟩), .pointer (some ⟨u, 0, none⟩), .pointer (some ⟨m, 0, none⟩)] w fun o w' => o = .returned (.int .i64 (laneM lv key vs e L f).1) ∧ RLn uc w0 R b u m lv key vs (laneM lv key vs e L f).2.1 e (rollM e L f ro) (laneM lv key vs e L f).2.2 (N + 1) w' := by
  rcases hL.pc with h0 | h0 | h0 | h0 | h0 | h0 | h0 | h0 | h0
  · exact rlane_0 h0 hL hlv he hu hN h
  · exact rlane_2 h0 hL hlv he hu hN h
  · exact rlane_3 h0 hL hlv he hu hN h
  · exact rlane_4 h0 hL hlv he hu hN h
  · exact rlane_5 h0 hL hlv he hu hN h
  · exact rlane_6 h0 hL hlv he hu hN h
  · exact rlane_7 h0 hL hlv he hu hN h
  · exact rlane_8 h0 hL hlv he hu hN h
  · exact rlane_9 h0 hL hlv he hu hN h
end
end Go.Proofs.YtnnjanaclgjneaaGreatDoor

/- The reference's lanes: Step over the model. -/
namespace Go.Proofs.YtnnjanaclgjneaaGreatDoor
open Go.RowKit Go.Maps
set_option maxRecDepth 100000

section
variable {PP TT : List Value} {k0 : Nat} (hpo : Hid (PP.length = k0))
include hpo
variable {uc : Uc} {w0 w : World} {R : List Item} {b u m : Nat} {F : Nat → Prop} {ml : List OneR} {lv key e ro : Int} {vs fd : Bool} {x y z pc W X K V C : Int}

set_option maxHeartbeats 1600000 in
theorem rst0o (v : Int) (hfx : getL ml (x, y, z) = v) (hml : ml.length ≤ 1000000) (hE : Env w0 (boxI b (wr PP TT (rlC lv key vs x y z 0 W X K V C fd)) :: boxI u (ruC uc e ro) :: refI m F ml :: R) w) :
    Calls Tryz.prog 99 #[.pointer (some ⟨b, k0, none⟩), .pointer (some ⟨u, 0, none⟩), .pointer (some ⟨m, 0, none⟩)] w fun o w' => o = .returned (.int .i64 0) ∧ Env w0 (boxI b (wr PP TT (rlC lv key vs x y z 2 v X K V C fd)) :: boxI u (ruC uc e ro) :: refI m F ml :: R) w' := by
  have HX := Lib.hid hfx
  clear hfx
  obtain ⟨rr0, rr1, rr2, rr3, rr4, rr5, rr6, rr7, rr8, rr9, rr10, rr11, rr12⟩ := rl_at hpo.out (hE.rule 0 rfl)
  go_enter Tryz.func99, Tryz.ntmps99
  go_wp2_with fail
  refine (refGet_any x y z hml (hE.ref 2 rfl)).mono ?_
  rintro o w2 ⟨rfl, hb⟩
  rw [HX.out]
  replace hE := hE.over hb
  clear hb rr0 rr1 rr2 rr3 rr4 rr5 rr6 rr7 rr8 rr9 rr10 rr11 rr12
  obtain ⟨rr0, rr1, rr2, rr3, rr4, rr5, rr6, rr7, rr8, rr9, rr10, rr11, rr12⟩ := rl_at hpo.out (hE.rule 0 rfl)
  have f1 := hE.thawW hpo.out 0 rfl 7 (by simp [rlC])
  have f6 := hE.thawW hpo.out 0 rfl 6 (by simp [rlC])
  have hP := (hE.putW hpo.out 0 rfl (j := 7) (by simp [rlC]) (.int .u64 v)).putW hpo.out 0 rfl (j := 6) (by simp [rlC]) (.int .i64 2)
  replace hP : Env w0 (boxI b (wr PP TT (rlC lv key vs x y z 2 v X K V C fd)) :: boxI u (ruC uc e ro) :: refI m F ml :: R) _ := hP
  go_wp2_with fail
  go_ret
  exact ⟨rfl, hP⟩

set_option maxHeartbeats 1600000 in
theorem rst3o (hlv : 0 ≤ lv ∧ lv ≤ 1000000) (v : Int) (hfx : getL ml (5, C, 7 + lv) = v) (hml : ml.length ≤ 1000000) (hE : Env w0 (boxI b (wr PP TT (rlC lv key vs x y z 3 W X K V C fd)) :: boxI u (ruC uc e ro) :: refI m F ml :: R) w) :
    Calls Tryz.prog 99 #[.pointer (some ⟨b, k0, none⟩), .pointer (some ⟨u, 0, none⟩), .pointer (some ⟨m, 0, none⟩)] w fun o w' => o = .returned (.int .i64 0) ∧ Env w0 (boxI b (wr PP TT (rlC lv key vs x y z 4 W v K V C fd)) :: boxI u (ruC uc e ro) :: refI m F ml :: R) w' := by
  have HX := Lib.hid hfx
  clear hfx
  obtain ⟨rr0, rr1, rr2, rr3, rr4, rr5, rr6, rr7, rr8, rr9, rr10, rr11, rr12⟩ := rl_at hpo.out (hE.rule 0 rfl)
  go_enter Tryz.func99, Tryz.ntmps99
  go_wp2_with fail
  refine (next_ro hpo hlv (hE.get 0 rfl)).mono ?_
  rintro o w1 ⟨rfl, hb⟩
  replace hE := hE.over hb
  clear hb rr0 rr1 rr2 rr3 rr4 rr5 rr6 rr7 rr8 rr9 rr10 rr11 rr12
  obtain ⟨rr0, rr1, rr2, rr3, rr4, rr5, rr6, rr7, rr8, rr9, rr10, rr11, rr12⟩ := rl_at hpo.out (hE.rule 0 rfl)
  go_wp2_with fail
  refine (refGet_any 5 C (7 + lv) hml (hE.ref 2 rfl)).mono ?_
  rintro o w2 ⟨rfl, hb⟩
  rw [HX.out]
  replace hE := hE.over hb
  clear hb rr0 rr1 rr2 rr3 rr4 rr5 rr6 rr7 rr8 rr9 rr10 rr11 rr12
  obtain ⟨rr0, rr1, rr2, rr3, rr4, rr5, rr6, rr7, rr8, rr9, rr10, rr11, rr12⟩ := rl_at hpo.out (hE.rule 0 rfl)
  have f1 := hE.thawW hpo.out 0 rfl 8 (by simp [rlC])
  have f6 := hE.thawW hpo.out 0 rfl 6 (by simp [rlC])
  have hP := (hE.putW hpo.out 0 rfl (j := 8) (by simp [rlC]) (.int .u64 v)).putW hpo.out 0 rfl (j := 6) (by simp [rlC]) (.int .i64 4)
  replace hP : Env w0 (boxI b (wr PP TT (rlC lv key vs x y z 4 W v K V C fd)) :: boxI u (ruC uc e ro) :: refI m F ml :: R) _ := hP
  go_wp2_with fail
  go_ret
  exact ⟨rfl, hP⟩

set_option maxHeartbeats 1600000 in
theorem rst6o (v : Int) (hfx : getL ml (5, C, 3) = v) (hml : ml.length ≤ 1000000) (hE : Env w0 (boxI b (wr PP TT (rlC lv key vs x y z 6 W X K V C fd)) :: boxI u (ruC uc e ro) :: refI m F ml :: R) w) :
    Calls Tryz.prog 99 #[.pointer (some ⟨b, k0, none⟩), .pointer (some ⟨u, 0, none⟩), .pointer (some ⟨m, 0, none⟩)] w fun o w' => o = .returned (.int .i64 0) ∧ Env w0 (boxI b (wr PP TT (rlC lv key vs x y z 7 W X v V C fd)) :: boxI u (ruC uc e ro) :: refI m F ml :: R) w' := by
  have HX := Lib.hid hfx
  clear hfx
  obtain ⟨rr0, rr1, rr2, rr3, rr4, rr5, rr6, rr7, rr8, rr9, rr10, rr11, rr12⟩ := rl_at hpo.out (hE.rule 0 rfl)
  go_enter Tryz.func99, Tryz.ntmps99
  go_wp2_with fail
  refine (cell13_any C 3 _).mono ?_
  rintro o w1 ⟨rfl, hb⟩
  replace hE := hE.over hb
  clear hb rr0 rr1 rr2 rr3 rr4 rr5 rr6 rr7 rr8 rr9 rr10 rr11 rr12
  obtain ⟨rr0, rr1, rr2, rr3, rr4, rr5, rr6, rr7, rr8, rr9, rr10, rr11, rr12⟩ := rl_at hpo.out (hE.rule 0 rfl)
  go_wp2_with fail
  refine (refGet_any 5 C 3 hml (hE.ref 2 rfl)).mono ?_
  rintro o w2 ⟨rfl, hb⟩
  rw [HX.out]
  replace hE := hE.over hb
  clear hb rr0 rr1 rr2 rr3 rr4 rr5 rr6 rr7 rr8 rr9 rr10 rr11 rr12
  obtain ⟨rr0, rr1, rr2, rr3, rr4, rr5, rr6, rr7, rr8, rr9, rr10, rr11, rr12⟩ := rl_at hpo.out (hE.rule 0 rfl)
  have f1 := hE.thawW hpo.out 0 rfl 9 (by simp [rlC])
  have f6 := hE.thawW hpo.out 0 rfl 6 (by simp [rlC])
  have hP := (hE.putW hpo.out 0 rfl (j := 9) (by simp [rlC]) (.int .u64 v)).putW hpo.out 0 rfl (j := 6) (by simp [rlC]) (.int .i64 7)
  replace hP : Env w0 (boxI b (wr PP TT (rlC lv key vs x y z 7 W X v V C fd)) :: boxI u (ruC uc e ro) :: refI m F ml :: R) _ := hP
  go_wp2_with fail
  go_ret
  exact ⟨rfl, hP⟩

set_option maxHeartbeats 1600000 in
theorem rst8o (v : Int) (hfx : getL ml (5, C, 4) = v) (hml : ml.length ≤ 1000000) (hE : Env w0 (boxI b (wr PP TT (rlC lv key vs x y z 8 W X K V C fd)) :: boxI u (ruC uc e ro) :: refI m F ml :: R) w) :
    Calls Tryz.prog 99 #[.pointer (some ⟨b, k0, none⟩), .pointer (some ⟨u, 0, none⟩), .pointer (some ⟨m, 0, none⟩)] w fun o w' => o = .returned (.int .i64 0) ∧ Env w0 (boxI b (wr PP TT (rlC lv key vs x y z 9 W X K v C fd)) :: boxI u (ruC uc e ro) :: refI m F ml :: R) w' := by
  have HX := Lib.hid hfx
  clear hfx
  obtain ⟨rr0, rr1, rr2, rr3, rr4, rr5, rr6, rr7, rr8, rr9, rr10, rr11, rr12⟩ := rl_at hpo.out (hE.rule 0 rfl)
  go_enter Tryz.func99, Tryz.ntmps99
  go_wp2_with fail
  refine (cell13_any C 4 _).mono ?_
  rintro o w1 ⟨rfl, hb⟩
  replace hE := hE.over hb
  clear hb rr0 rr1 rr2 rr3 rr4 rr5 rr6 rr7 rr8 rr9 rr10 rr11 rr12
  obtain ⟨rr0, rr1, rr2, rr3, rr4, rr5, rr6, rr7, rr8, rr9, rr10, rr11, rr12⟩ := rl_at hpo.out (hE.rule 0 rfl)
  go_wp2_with fail
  refine (refGet_any 5 C 4 hml (hE.ref 2 rfl)).mono ?_
  rintro o w2 ⟨rfl, hb⟩
  rw [HX.out]
  replace hE := hE.over hb
  clear hb rr0 rr1 rr2 rr3 rr4 rr5 rr6 rr7 rr8 rr9 rr10 rr11 rr12
  obtain ⟨rr0, rr1, rr2, rr3, rr4, rr5, rr6, rr7, rr8, rr9, rr10, rr11, rr12⟩ := rl_at hpo.out (hE.rule 0 rfl)
  have f1 := hE.thawW hpo.out 0 rfl 10 (by simp [rlC])
  have f6 := hE.thawW hpo.out 0 rfl 6 (by simp [rlC])
  have hP := (hE.putW hpo.out 0 rfl (j := 10) (by simp [rlC]) (.int .u64 v)).putW hpo.out 0 rfl (j := 6) (by simp [rlC]) (.int .i64 9)
  replace hP : Env w0 (boxI b (wr PP TT (rlC lv key vs x y z 9 W X K v C fd)) :: boxI u (ruC uc e ro) :: refI m F ml :: R) _ := hP
  go_wp2_with fail
  go_ret
  exact ⟨rfl, hP⟩

set_option maxHeartbeats 3200000 in
theorem rst5no (heq : getL ml (x, y, z) ≠ W) (hX : InU X) (hml : ml.length ≤ 1000000) (hE : Env w0 (boxI b (wr PP TT (rlC lv key vs x y z 5 W X K V C fd)) :: boxI u (ruC uc e ro) :: refI m F ml :: R) w) :
    Calls Tryz.prog 99 #[.pointer (some ⟨b, k0, none⟩), .pointer (some ⟨u, 0, none⟩), .pointer (some ⟨m, 0, none⟩)] w fun o w' => o = .returned (.int .i64 2) ∧ ∃ F', Env w0 (boxI b (wr PP TT (rlC lv key vs x y z 5 W X K V C fd)) :: boxI u (ruC uc e ro) :: refI m F' (swL ml (x, y, z) W (wordI false (slotI X) e)) :: R) w' := by
  have HD : Hid (decide (getL ml (x, y, z) = W) = false) := Lib.hid (by simpa using heq)
  have HS13 := Lib.hid fun (v : World) => slot13_any X hX v
  have hqi : InU (wordI false (slotI X) e) := wordI_in _ _ _
  have HQI := Lib.hid hqi
  have HTO := Lib.hid fun (v : World) (hv : Blk 0 v u (urv uc.k uc.s uc.b uc.h uc.l e uc.A uc.n uc.c uc.N uc.hs ro)) => rto_c (slotI X) hv
  obtain ⟨s, hs⟩ : ∃ s, slotI X = s := ⟨_, rfl⟩
  rw [hs] at HQI ⊢
  simp only [hs] at HS13 HTO
  obtain ⟨q, hq⟩ : ∃ q, wordI false s e = q := ⟨_, rfl⟩
  rw [hq] at HQI ⊢
  simp only [hq] at HTO
  clear hs hq heq hX hqi
  obtain ⟨rr0, rr1, rr2, rr3, rr4, rr5, rr6, rr7, rr8, rr9, rr10, rr11, rr12⟩ := rl_at hpo.out (hE.rule 0 rfl)
  go_enter Tryz.func99, Tryz.ntmps99
  go_wp2_with fail
  refine (HS13.out _).mono ?_
  rintro o w1 ⟨rfl, hb⟩
  replace hE := hE.over hb
  clear hb rr0 rr1 rr2 rr3 rr4 rr5 rr6 rr7 rr8 rr9 rr10 rr11 rr12
  go_wp2_with fail
  refine (HTO.out _ (hE.get 1 rfl)).mono ?_
  rintro o w2 ⟨rfl, hb⟩
  replace hE := hE.over hb
  clear hb
  go_wp2_with fail
  refine Ord.wp_chain [10] (fun v => Blk 0 v b (wr PP TT (rlC lv key vs x y z 5 W X K V C fd))) (fun k w' => ∃ G5, Env w0 (boxI b (wr PP TT (rlC lv key vs x y z 5 W X K V C fd)) :: boxI u (ruC uc e ro) :: refI m G5 (if k = 0 then ml else swL ml (x, y, z) W q) :: R) w') (by kernel_rfl) (by kernel_rfl) (by kernel_rfl) (hE.drew.get 0 rfl) ⟨_, hE.drew⟩ (fun hT => ?_)
  have hT9 := Lib.hid hT
  clear hT
  repeat (first
    | (refine Ord.ch_value (v := ?_) hT9.out (by decide) (by rfl) ?_ ?_; rotate_left; (focus (intro w5 hS; obtain ⟨rr0, rr1, rr2, rr3, rr4, rr5, rr6, rr7, rr8, rr9, rr10, rr11, rr12⟩ := rl_at hpo.out (Blk.rule hS); go_simp <;> with_reducible rfl)); (try simp only [Act.put, List.setIfInBounds_toArray, List.set_cons_zero, List.set_cons_succ]))
    | (refine Ord.ch_off hT9.out (by decide) (by rfl) ?_; (try simp only [Act.put, List.setIfInBounds_toArray, List.set_cons_zero, List.set_cons_succ])))
  refine Ord.ch_turn (v := .bool false) 0 hT9.out rfl (by decide) (Or.inl rfl) (by rfl) ?_ ?_
  · rintro w5 hC5 ⟨G5, hA5⟩
    simp only [if_true] at hA5
    go_simp
    simp only [Ord.LandsIn]
    have hsw := refSwap_any x y z W q hml (hA5.ref 2 rfl)
    rw [HD.out] at hsw
    refine hsw.mono ?_
    rintro e w6 ⟨rfl, G6, hU6, hs6⟩
    have hE6 := hA5.turnU 2 rfl hU6 hs6
    simp only [List.set_cons_succ, List.set_cons_zero] at hE6
    exact ⟨rfl, hE6.get 0 rfl, G6, hE6⟩
  (try simp only [Act.put, List.setIfInBounds_toArray, List.set_cons_zero, List.set_cons_succ])
  repeat (first
    | (refine Ord.ch_value (v := ?_) hT9.out (by decide) (by rfl) ?_ ?_; rotate_left; (focus (intro w5 hS; skip; go_simp <;> with_reducible rfl)); (try simp only [Act.put, List.setIfInBounds_toArray, List.set_cons_zero, List.set_cons_succ]))
    | (refine Ord.ch_off hT9.out (by decide) (by rfl) ?_; (try simp only [Act.put, List.setIfInBounds_toArray, List.set_cons_zero, List.set_cons_succ])))
  refine Ord.InText.nil fun w5 hS => ?_
  clear hT9
  obtain ⟨hC9, hA9⟩ := Ord.chain_end hS
  clear hS
  obtain ⟨G9, hA9⟩ := hA9
  clear hC9 hE
  simp only [List.length_cons, List.length_nil, Nat.zero_add, Nat.one_ne_zero, if_false] at hA9

  go_wp2_with fail
  go_ret
  exact ⟨rfl, G9, hA9⟩

set_option maxHeartbeats 3200000 in
theorem rst5yo (heq : getL ml (x, y, z) = W) (hX : InU X) (hml : ml.length ≤ 1000000) (hE : Env w0 (boxI b (wr PP TT (rlC lv key vs x y z 5 W X K V C fd)) :: boxI u (ruC uc e ro) :: refI m F ml :: R) w) :
    Calls Tryz.prog 99 #[.pointer (some ⟨b, k0, none⟩), .pointer (some ⟨u, 0, none⟩), .pointer (some ⟨m, 0, none⟩)] w fun o w' => o = .returned (.int .i64 (cS (wordI false (slotI X) e))) ∧ ∃ F', Env w0 (boxI b (wr PP TT (rlC lv key vs x y z 3 (wordI false (slotI X) e) 0 K V (slotI (wordI false (slotI X) e)) fd)) :: boxI u (ruC uc e ro) :: refI m F' (swL ml (x, y, z) W (wordI false (slotI X) e)) :: R) w' := by
  have HD : Hid (decide (getL ml (x, y, z) = W) = true) := Lib.hid (by simpa using heq)
  have HS13 := Lib.hid fun (v : World) => slot13_any X hX v
  have hqi : InU (wordI false (slotI X) e) := wordI_in _ _ _
  have HQI := Lib.hid hqi
  have HTO := Lib.hid fun (v : World) (hv : Blk 0 v u (urv uc.k uc.s uc.b uc.h uc.l e uc.A uc.n uc.c uc.N uc.hs ro)) => rto_c (slotI X) hv
  obtain ⟨s, hs⟩ : ∃ s, slotI X = s := ⟨_, rfl⟩
  rw [hs] at HQI ⊢
  simp only [hs] at HS13 HTO
  obtain ⟨q, hq⟩ : ∃ q, wordI false s e = q := ⟨_, rfl⟩
  rw [hq] at HQI ⊢
  simp only [hq] at HTO
  clear hs hq heq hX hqi
  obtain ⟨rr0, rr1, rr2, rr3, rr4, rr5, rr6, rr7, rr8, rr9, rr10, rr11, rr12⟩ := rl_at hpo.out (hE.rule 0 rfl)
  go_enter Tryz.func99, Tryz.ntmps99
  go_wp2_with fail
  refine (HS13.out _).mono ?_
  rintro o w1 ⟨rfl, hb⟩
  replace hE := hE.over hb
  clear hb rr0 rr1 rr2 rr3 rr4 rr5 rr6 rr7 rr8 rr9 rr10 rr11 rr12
  go_wp2_with fail
  refine (HTO.out _ (hE.get 1 rfl)).mono ?_
  rintro o w2 ⟨rfl, hb⟩
  replace hE := hE.over hb
  clear hb
  go_wp2_with fail
  refine Ord.wp_chain [10] (fun v => Blk 0 v b (wr PP TT (rlC lv key vs x y z 5 W X K V C fd))) (fun k w' => ∃ G5, Env w0 (boxI b (wr PP TT (rlC lv key vs x y z 5 W X K V C fd)) :: boxI u (ruC uc e ro) :: refI m G5 (if k = 0 then ml else swL ml (x, y, z) W q) :: R) w') (by kernel_rfl) (by kernel_rfl) (by kernel_rfl) (hE.drew.get 0 rfl) ⟨_, hE.drew⟩ (fun hT => ?_)
  have hT9 := Lib.hid hT
  clear hT
  repeat (first
    | (refine Ord.ch_value (v := ?_) hT9.out (by decide) (by rfl) ?_ ?_; rotate_left; (focus (intro w5 hS; obtain ⟨rr0, rr1, rr2, rr3, rr4, rr5, rr6, rr7, rr8, rr9, rr10, rr11, rr12⟩ := rl_at hpo.out (Blk.rule hS); go_simp <;> with_reducible rfl)); (try simp only [Act.put, List.setIfInBounds_toArray, List.set_cons_zero, List.set_cons_succ]))
    | (refine Ord.ch_off hT9.out (by decide) (by rfl) ?_; (try simp only [Act.put, List.setIfInBounds_toArray, List.set_cons_zero, List.set_cons_succ])))
  refine Ord.ch_turn (v := .bool true) 0 hT9.out rfl (by decide) (Or.inl rfl) (by rfl) ?_ ?_
  · rintro w5 hC5 ⟨G5, hA5⟩
    simp only [if_true] at hA5
    go_simp
    simp only [Ord.LandsIn]
    have hsw := refSwap_any x y z W q hml (hA5.ref 2 rfl)
    rw [HD.out] at hsw
    refine hsw.mono ?_
    rintro e w6 ⟨rfl, G6, hU6, hs6⟩
    have hE6 := hA5.turnU 2 rfl hU6 hs6
    simp only [List.set_cons_succ, List.set_cons_zero] at hE6
    exact ⟨rfl, hE6.get 0 rfl, G6, hE6⟩
  (try simp only [Act.put, List.setIfInBounds_toArray, List.set_cons_zero, List.set_cons_succ])
  repeat (first
    | (refine Ord.ch_value (v := ?_) hT9.out (by decide) (by rfl) ?_ ?_; rotate_left; (focus (intro w5 hS; skip; go_simp <;> with_reducible rfl)); (try simp only [Act.put, List.setIfInBounds_toArray, List.set_cons_zero, List.set_cons_succ]))
    | (refine Ord.ch_off hT9.out (by decide) (by rfl) ?_; (try simp only [Act.put, List.setIfInBounds_toArray, List.set_cons_zero, List.set_cons_succ])))
  refine Ord.InText.nil fun w5 hS => ?_
  clear hT9
  obtain ⟨hC9, hA9⟩ := Ord.chain_end hS
  clear hS
  obtain ⟨G9, hA9⟩ := hA9
  clear hC9 hE
  simp only [List.length_cons, List.length_nil, Nat.zero_add, Nat.one_ne_zero, if_false] at hA9

  go_wp2_with fail
  refine (come_ro hpo q HQI.out hA9).mono ?_
  rintro o w7 ⟨rfl, hE7⟩
  go_wp2_with fail
  go_ret
  exact ⟨rfl, G9, hE7⟩

set_option maxHeartbeats 1600000 in
theorem rvn2o (hok : okB (getL ml (1, 0, 0)) e = false) (hu : InU (getL ml (1, 0, 0))) (he : 0 ≤ e ∧ e ≤ 9223372036854775807) (hml : ml.length ≤ 1000000) (hE : Env w0 (boxI b (wr PP TT (rlC lv key vs x y z 2 W X K V C fd)) :: boxI u (ruC uc e ro) :: refI m F ml :: R) w) :
    Calls Tryz.prog 99 #[.pointer (some ⟨b, k0, none⟩), .pointer (some ⟨u, 0, none⟩), .pointer (some ⟨m, 0, none⟩)] w fun o w' => o = .returned (.int .i64 2) ∧ Env w0 (boxI b (wr PP TT (rlC lv key vs x y z 2 W X K V C fd)) :: boxI u (ruC uc e (wrap64 (ro + 1))) :: refI m F ml :: R) w' := by
  have hv := rvalid_w (L := (boxI b (wr PP TT (rlC lv key vs x y z 2 W X K V C fd)) :: boxI u (ruC uc e ro) :: refI m F ml :: R)) (k := uc.k) (s := uc.s) (b := uc.b) (h := uc.h) (l := uc.l) (A := uc.A) (n := uc.n) (c := uc.c) (N := uc.N) (hs := uc.hs) (r := ro) _ (rfl : getL ml (1, 0, 0) = getL ml (1, 0, 0)) hu he.1 he.2 hml 1 2 hE rfl rfl
  rw [hok] at hv
  simp only [List.set_cons_succ, List.set_cons_zero, Bool.false_eq_true, if_false] at hv
  have HV := Lib.hid hv
  clear hv hok hu
  obtain ⟨rr0, rr1, rr2, rr3, rr4, rr5, rr6, rr7, rr8, rr9, rr10, rr11, rr12⟩ := rl_at hpo.out (hE.rule 0 rfl)
  go_enter Tryz.func99, Tryz.ntmps99
  go_wp2_with fail
  refine HV.out.mono ?_
  rintro o w1 ⟨rfl, hE1⟩
  go_wp2_with fail
  go_ret
  exact ⟨rfl, hE1⟩
set_option maxHeartbeats 1600000 in
theorem rvy2o (hok : okB (getL ml (1, 0, 0)) e = true) (hu : InU (getL ml (1, 0, 0))) (he : 0 ≤ e ∧ e ≤ 9223372036854775807) (hml : ml.length ≤ 1000000) (s : Int) (Y : World → Prop) (hE : Env w0 (boxI b (wr PP TT (rlC lv key vs x y z 2 W X K V C fd)) :: boxI u (ruC uc e ro) :: refI m F ml :: R) w)
    (hc : ∀ v, Env w0 (boxI b (wr PP TT (rlC lv key vs x y z 2 W X K V C fd)) :: boxI u (ruC uc e ro) :: refI m F ml :: R) v → Calls Tryz.prog 156 #[.pointer (some ⟨b, k0, none⟩)] v fun o w' => o = .returned (.int .i64 s) ∧ Y w') :
    Calls Tryz.prog 99 #[.pointer (some ⟨b, k0, none⟩), .pointer (some ⟨u, 0, none⟩), .pointer (some ⟨m, 0, none⟩)] w fun o w' => o = .returned (.int .i64 s) ∧ Y w' := by
  have hv := rvalid_w (L := (boxI b (wr PP TT (rlC lv key vs x y z 2 W X K V C fd)) :: boxI u (ruC uc e ro) :: refI m F ml :: R)) (k := uc.k) (s := uc.s) (b := uc.b) (h := uc.h) (l := uc.l) (A := uc.A) (n := uc.n) (c := uc.c) (N := uc.N) (hs := uc.hs) (r := ro) _ (rfl : getL ml (1, 0, 0) = getL ml (1, 0, 0)) hu he.1 he.2 hml 1 2 hE rfl rfl
  rw [hok] at hv
  simp only [List.set_cons_succ, List.set_cons_zero, if_true] at hv
  have HV := Lib.hid hv
  have HC := Lib.hid hc
  clear hv hok hu hc
  obtain ⟨rr0, rr1, rr2, rr3, rr4, rr5, rr6, rr7, rr8, rr9, rr10, rr11, rr12⟩ := rl_at hpo.out (hE.rule 0 rfl)
  go_enter Tryz.func99, Tryz.ntmps99
  go_wp2_with fail
  refine HV.out.mono ?_
  rintro o w1 ⟨rfl, hE1⟩
  go_wp2_with fail
  refine (HC.out _ hE1).mono ?_
  rintro o w2 ⟨rfl, hY⟩
  go_wp2_with fail
  go_ret
  exact ⟨rfl, hY⟩

set_option maxHeartbeats 1600000 in
theorem rvn4o (hok : okB (getL ml (1, 0, 0)) e = false) (hu : InU (getL ml (1, 0, 0))) (he : 0 ≤ e ∧ e ≤ 9223372036854775807) (hml : ml.length ≤ 1000000) (hE : Env w0 (boxI b (wr PP TT (rlC lv key vs x y z 4 W X K V C fd)) :: boxI u (ruC uc e ro) :: refI m F ml :: R) w) :
    Calls Tryz.prog 99 #[.pointer (some ⟨b, k0, none⟩), .pointer (some ⟨u, 0, none⟩), .pointer (some ⟨m, 0, none⟩)] w fun o w' => o = .returned (.int .i64 2) ∧ Env w0 (boxI b (wr PP TT (rlC lv key vs x y z 4 W X K V C fd)) :: boxI u (ruC uc e (wrap64 (ro + 1))) :: refI m F ml :: R) w' := by
  have hv := rvalid_w (L := (boxI b (wr PP TT (rlC lv key vs x y z 4 W X K V C fd)) :: boxI u (ruC uc e ro) :: refI m F ml :: R)) (k := uc.k) (s := uc.s) (b := uc.b) (h := uc.h) (l := uc.l) (A := uc.A) (n := uc.n) (c := uc.c) (N := uc.N) (hs := uc.hs) (r := ro) _ (rfl : getL ml (1, 0, 0) = getL ml (1, 0, 0)) hu he.1 he.2 hml 1 2 hE rfl rfl
  rw [hok] at hv
  simp only [List.set_cons_succ, List.set_cons_zero, Bool.false_eq_true, if_false] at hv
  have HV := Lib.hid hv
  clear hv hok hu
  obtain ⟨rr0, rr1, rr2, rr3, rr4, rr5, rr6, rr7, rr8, rr9, rr10, rr11, rr12⟩ := rl_at hpo.out (hE.rule 0 rfl)
  go_enter Tryz.func99, Tryz.ntmps99
  go_wp2_with fail
  refine HV.out.mono ?_
  rintro o w1 ⟨rfl, hE1⟩
  go_wp2_with fail
  go_ret
  exact ⟨rfl, hE1⟩
set_option maxHeartbeats 1600000 in
theorem rvy4o (hok : okB (getL ml (1, 0, 0)) e = true) (hu : InU (getL ml (1, 0, 0))) (he : 0 ≤ e ∧ e ≤ 9223372036854775807) (hml : ml.length ≤ 1000000) (s : Int) (Y : World → Prop) (hE : Env w0 (boxI b (wr PP TT (rlC lv key vs x y z 4 W X K V C fd)) :: boxI u (ruC uc e ro) :: refI m F ml :: R) w)
    (hc : ∀ v, Env w0 (boxI b (wr PP TT (rlC lv key vs x y z 4 W X K V C fd)) :: boxI u (ruC uc e ro) :: refI m F ml :: R) v → Calls Tryz.prog 156 #[.pointer (some ⟨b, k0, none⟩)] v fun o w' => o = .returned (.int .i64 s) ∧ Y w') :
    Calls Tryz.prog 99 #[.pointer (some ⟨b, k0, none⟩), .pointer (some ⟨u, 0, none⟩), .pointer (some ⟨m, 0, none⟩)] w fun o w' => o = .returned (.int .i64 s) ∧ Y w' := by
  have hv := rvalid_w (L := (boxI b (wr PP TT (rlC lv key vs x y z 4 W X K V C fd)) :: boxI u (ruC uc e ro) :: refI m F ml :: R)) (k := uc.k) (s := uc.s) (b := uc.b) (h := uc.h) (l := uc.l) (A := uc.A) (n := uc.n) (c := uc.c) (N := uc.N) (hs := uc.hs) (r := ro) _ (rfl : getL ml (1, 0, 0) = getL ml (1, 0, 0)) hu he.1 he.2 hml 1 2 hE rfl rfl
  rw [hok] at hv
  simp only [List.set_cons_succ, List.set_cons_zero, if_true] at hv
  have HV := Lib.hid hv
  have HC := Lib.hid hc
  clear hv hok hu hc
  obtain ⟨rr0, rr1, rr2, rr3, rr4, rr5, rr6, rr7, rr8, rr9, rr10, rr11, rr12⟩ := rl_at hpo.out (hE.rule 0 rfl)
  go_enter Tryz.func99, Tryz.ntmps99
  go_wp2_with fail
  refine HV.out.mono ?_
  rintro o w1 ⟨rfl, hE1⟩
  go_wp2_with fail
  refine (HC.out _ hE1).mono ?_
  rintro o w2 ⟨rfl, hY⟩
  go_wp2_with fail
  go_ret
  exact ⟨rfl, hY⟩

set_option maxHeartbeats 1600000 in
theorem rvn7o (hok : okB (getL ml (1, 0, 0)) e = false) (hu : InU (getL ml (1, 0, 0))) (he : 0 ≤ e ∧ e ≤ 9223372036854775807) (hml : ml.length ≤ 1000000) (hE : Env w0 (boxI b (wr PP TT (rlC lv key vs x y z 7 W X K V C fd)) :: boxI u (ruC uc e ro) :: refI m F ml :: R) w) :
    Calls Tryz.prog 99 #[.pointer (some ⟨b, k0, none⟩), .pointer (some ⟨u, 0, none⟩), .pointer (some ⟨m, 0, none⟩)] w fun o w' => o = .returned (.int .i64 2) ∧ Env w0 (boxI b (wr PP TT (rlC lv key vs x y z 7 W X K V C fd)) :: boxI u (ruC uc e (wrap64 (ro + 1))) :: refI m F ml :: R) w' := by
  have hv := rvalid_w (L := (boxI b (wr PP TT (rlC lv key vs x y z 7 W X K V C fd)) :: boxI u (ruC uc e ro) :: refI m F ml :: R)) (k := uc.k) (s := uc.s) (b := uc.b) (h := uc.h) (l := uc.l) (A := uc.A) (n := uc.n) (c := uc.c) (N := uc.N) (hs := uc.hs) (r := ro) _ (rfl : getL ml (1, 0, 0) = getL ml (1, 0, 0)) hu he.1 he.2 hml 1 2 hE rfl rfl
  rw [hok] at hv
  simp only [List.set_cons_succ, List.set_cons_zero, Bool.false_eq_true, if_false] at hv
  have HV := Lib.hid hv
  clear hv hok hu
  obtain ⟨rr0, rr1, rr2, rr3, rr4, rr5, rr6, rr7, rr8, rr9, rr10, rr11, rr12⟩ := rl_at hpo.out (hE.rule 0 rfl)
  go_enter Tryz.func99, Tryz.ntmps99
  go_wp2_with fail
  refine HV.out.mono ?_
  rintro o w1 ⟨rfl, hE1⟩
  go_wp2_with fail
  go_ret
  exact ⟨rfl, hE1⟩
set_option maxHeartbeats 1600000 in
theorem rvy7o (hok : okB (getL ml (1, 0, 0)) e = true) (hu : InU (getL ml (1, 0, 0))) (he : 0 ≤ e ∧ e ≤ 9223372036854775807) (hml : ml.length ≤ 1000000) (s : Int) (Y : World → Prop) (hE : Env w0 (boxI b (wr PP TT (rlC lv key vs x y z 7 W X K V C fd)) :: boxI u (ruC uc e ro) :: refI m F ml :: R) w)
    (hc : ∀ v, Env w0 (boxI b (wr PP TT (rlC lv key vs x y z 7 W X K V C fd)) :: boxI u (ruC uc e ro) :: refI m F ml :: R) v → Calls Tryz.prog 156 #[.pointer (some ⟨b, k0, none⟩)] v fun o w' => o = .returned (.int .i64 s) ∧ Y w') :
    Calls Tryz.prog 99 #[.pointer (some ⟨b, k0, none⟩), .pointer (some ⟨u, 0, none⟩), .pointer (some ⟨m, 0, none⟩)] w fun o w' => o = .returned (.int .i64 s) ∧ Y w' := by
  have hv := rvalid_w (L := (boxI b (wr PP TT (rlC lv key vs x y z 7 W X K V C fd)) :: boxI u (ruC uc e ro) :: refI m F ml :: R)) (k := uc.k) (s := uc.s) (b := uc.b) (h := uc.h) (l := uc.l) (A := uc.A) (n := uc.n) (c := uc.c) (N := uc.N) (hs := uc.hs) (r := ro) _ (rfl : getL ml (1, 0, 0) = getL ml (1, 0, 0)) hu he.1 he.2 hml 1 2 hE rfl rfl
  rw [hok] at hv
  simp only [List.set_cons_succ, List.set_cons_zero, if_true] at hv
  have HV := Lib.hid hv
  have HC := Lib.hid hc
  clear hv hok hu hc
  obtain ⟨rr0, rr1, rr2, rr3, rr4, rr5, rr6, rr7, rr8, rr9, rr10, rr11, rr12⟩ := rl_at hpo.out (hE.rule 0 rfl)
  go_enter Tryz.func99, Tryz.ntmps99
  go_wp2_with fail
  refine HV.out.mono ?_
  rintro o w1 ⟨rfl, hE1⟩
  go_wp2_with fail
  refine (HC.out _ hE1).mono ?_
  rintro o w2 ⟨rfl, hY⟩
  go_wp2_with fail
  go_ret
  exact ⟨rfl, hY⟩

set_option maxHeartbeats 1600000 in
theorem rvn9o (hok : okB (getL ml (1, 0, 0)) e = false) (hu : InU (getL ml (1, 0, 0))) (he : 0 ≤ e ∧ e ≤ 9223372036854775807) (hml : ml.length ≤ 1000000) (hE : Env w0 (boxI b (wr PP TT (rlC lv key vs x y z 9 W X K V C fd)) :: boxI u (ruC uc e ro) :: refI m F ml :: R) w) :
    Calls Tryz.prog 99 #[.pointer (some ⟨b, k0, none⟩), .pointer (some ⟨u, 0, none⟩), .pointer (some ⟨m, 0, none⟩)] w fun o w' => o = .returned (.int .i64 2) ∧ Env w0 (boxI b (wr PP TT (rlC lv key vs x y z 9 W X K V C fd)) :: boxI u (ruC uc e (wrap64 (ro + 1))) :: refI m F ml :: R) w' := by
  have hv := rvalid_w (L := (boxI b (wr PP TT (rlC lv key vs x y z 9 W X K V C fd)) :: boxI u (ruC uc e ro) :: refI m F ml :: R)) (k := uc.k) (s := uc.s) (b := uc.b) (h := uc.h) (l := uc.l) (A := uc.A) (n := uc.n) (c := uc.c) (N := uc.N) (hs := uc.hs) (r := ro) _ (rfl : getL ml (1, 0, 0) = getL ml (1, 0, 0)) hu he.1 he.2 hml 1 2 hE rfl rfl
  rw [hok] at hv
  simp only [List.set_cons_succ, List.set_cons_zero, Bool.false_eq_true, if_false] at hv
  have HV := Lib.hid hv
  clear hv hok hu
  obtain ⟨rr0, rr1, rr2, rr3, rr4, rr5, rr6, rr7, rr8, rr9, rr10, rr11, rr12⟩ := rl_at hpo.out (hE.rule 0 rfl)
  go_enter Tryz.func99, Tryz.ntmps99
  go_wp2_with fail
  refine HV.out.mono ?_
  rintro o w1 ⟨rfl, hE1⟩
  go_wp2_with fail
  go_ret
  exact ⟨rfl, hE1⟩
set_option maxHeartbeats 1600000 in
theorem rvy9o (hok : okB (getL ml (1, 0, 0)) e = true) (hu : InU (getL ml (1, 0, 0))) (he : 0 ≤ e ∧ e ≤ 9223372036854775807) (hml : ml.length ≤ 1000000) (s : Int) (Y : World → Prop) (hE : Env w0 (boxI b (wr PP TT (rlC lv key vs x y z 9 W X K V C fd)) :: boxI u (ruC uc e ro) :: refI m F ml :: R) w)
    (hc : ∀ v, Env w0 (boxI b (wr PP TT (rlC lv key vs x y z 9 W X K V C fd)) :: boxI u (ruC uc e ro) :: refI m F ml :: R) v → Calls Tryz.prog 156 #[.pointer (some ⟨b, k0, none⟩)] v fun o w' => o = .returned (.int .i64 s) ∧ Y w') :
    Calls Tryz.prog 99 #[.pointer (some ⟨b, k0, none⟩), .pointer (some ⟨u, 0, none⟩), .pointer (some ⟨m, 0, none⟩)] w fun o w' => o = .returned (.int .i64 s) ∧ Y w' := by
  have hv := rvalid_w (L := (boxI b (wr PP TT (rlC lv key vs x y z 9 W X K V C fd)) :: boxI u (ruC uc e ro) :: refI m F ml :: R)) (k := uc.k) (s := uc.s) (b := uc.b) (h := uc.h) (l := uc.l) (A := uc.A) (n := uc.n) (c := uc.c) (N := uc.N) (hs := uc.hs) (r := ro) _ (rfl : getL ml (1, 0, 0) = getL ml (1, 0, 0)) hu he.1 he.2 hml 1 2 hE rfl rfl
  rw [hok] at hv
  simp only [List.set_cons_succ, List.set_cons_zero, if_true] at hv
  have HV := Lib.hid hv
  have HC := Lib.hid hc
  clear hv hok hu hc
  obtain ⟨rr0, rr1, rr2, rr3, rr4, rr5, rr6, rr7, rr8, rr9, rr10, rr11, rr12⟩ := rl_at hpo.out (hE.rule 0 rfl)
  go_enter Tryz.func99, Tryz.ntmps99
  go_wp2_with fail
  refine HV.out.mono ?_
  rintro o w1 ⟨rfl, hE1⟩
  go_wp2_with fail
  refine (HC.out _ hE1).mono ?_
  rintro o w2 ⟨rfl, hY⟩
  go_wp2_with fail
  go_ret
  exact ⟨rfl, hY⟩

end
/-- A reference's lane that is a part of a block, and all that it needs. -/
def RLno (PP TT : List Value) (uc : Uc) (w0 : World) (R : List Item) (b u m : Nat) (lv key : Int) (vs : Bool) (L : Lm) (e ro : Int) (f : Plc → Int) (N : Nat) (w : World) : Prop :=
  ∃ F ml, getL ml = f ∧ ml.length ≤ N ∧ Env w0 (boxI b (wr PP TT (rlV lv key vs L)) :: boxI u (ruC uc e ro) :: refI m F ml :: R) w
section
variable {PP TT : List Value} {k0 : Nat} (hpo : Hid (PP.length = k0))
include hpo
variable {uc : Uc} {w0 w : World} {R : List Item} {b u m N : Nat} {f : Plc → Int} {lv key e ro : Int} {vs : Bool} {L : Lm}

theorem rlane_0o (hpc : L.pc = 0) (hL : LmOk L) (hlv : 0 ≤ lv ∧ lv ≤ 1000000) (he : 0 ≤ e ∧ e ≤ 9223372036854775807) (hu : ∀ x, InU (f x)) (hN : N ≤ 1000000) (h : RLno PP TT uc w0 R b u m lv key vs L e ro f N w) :
    Calls Tryz.prog 99 #[.pointer (some ⟨b, k0, none⟩), .pointer (some ⟨u, 0, none⟩), .pointer (some ⟨m, 0, none⟩)] w fun o w' => o = .returned (.int .i64 (laneM lv key vs e L f).1) ∧ RLno PP TT uc w0 R b u m lv key vs (laneM lv key vs e L f).2.1 e (rollM e L f ro) (laneM lv key vs e L f).2.2 (N + 1) w' := by
  obtain ⟨F, ml, rfl, hl, hE⟩ := h
  have hE0 : Env w0 (boxI b (wr PP TT (rlC lv key vs L.p.1 L.p.2.1 L.p.2.2 0 L.W L.X L.K L.V L.C L.fd)) :: boxI u (ruC uc e ro) :: refI m F ml :: R) w := by
    have h9 := hE
    unfold rlV at h9
    rw [hpc] at h9
    exact h9
  clear hE
  have hM : laneM lv key vs e L (getL ml) = (0, { L with W := getL ml L.p, pc := 2 }, getL ml) := by simp [laneM, hpc]
  have hr : rollM e L (getL ml) ro = ro := by simp [rollM, hpc, isVal]
  rw [hM, hr]
  refine (rst0o hpo (getL ml L.p) rfl (by omega) hE0).mono ?_
  rintro o w1 ⟨rfl, hE1⟩
  exact ⟨rfl, F, ml, rfl, by omega, hE1⟩

theorem rlane_3o (hpc : L.pc = 3) (hL : LmOk L) (hlv : 0 ≤ lv ∧ lv ≤ 1000000) (he : 0 ≤ e ∧ e ≤ 9223372036854775807) (hu : ∀ x, InU (f x)) (hN : N ≤ 1000000) (h : RLno PP TT uc w0 R b u m lv key vs L e ro f N w) :
    Calls Tryz.prog 99 #[.pointer (some ⟨b, k0, none⟩), .pointer (some ⟨u, 0, none⟩), .pointer (some ⟨m, 0, none⟩)] w fun o w' => o = .returned (.int .i64 (laneM lv key vs e L f).1) ∧ RLno PP TT uc w0 R b u m lv key vs (laneM lv key vs e L f).2.1 e (rollM e L f ro) (laneM lv key vs e L f).2.2 (N + 1) w' := by
  obtain ⟨F, ml, rfl, hl, hE⟩ := h
  have hE0 : Env w0 (boxI b (wr PP TT (rlC lv key vs L.p.1 L.p.2.1 L.p.2.2 3 L.W L.X L.K L.V L.C L.fd)) :: boxI u (ruC uc e ro) :: refI m F ml :: R) w := by
    have h9 := hE
    unfold rlV at h9
    rw [hpc] at h9
    exact h9
  clear hE
  have hM : laneM lv key vs e L (getL ml) = (0, { L with X := getL ml (5, L.C, 7 + lv), pc := 4 }, getL ml) := by simp [laneM, hpc]
  have hr : rollM e L (getL ml) ro = ro := by simp [rollM, hpc, isVal]
  rw [hM, hr]
  refine (rst3o hpo hlv (getL ml (5, L.C, 7 + lv)) rfl (by omega) hE0).mono ?_
  rintro o w1 ⟨rfl, hE1⟩
  exact ⟨rfl, F, ml, rfl, by omega, hE1⟩

theorem rlane_6o (hpc : L.pc = 6) (hL : LmOk L) (hlv : 0 ≤ lv ∧ lv ≤ 1000000) (he : 0 ≤ e ∧ e ≤ 9223372036854775807) (hu : ∀ x, InU (f x)) (hN : N ≤ 1000000) (h : RLno PP TT uc w0 R b u m lv key vs L e ro f N w) :
    Calls Tryz.prog 99 #[.pointer (some ⟨b, k0, none⟩), .pointer (some ⟨u, 0, none⟩), .pointer (some ⟨m, 0, none⟩)] w fun o w' => o = .returned (.int .i64 (laneM lv key vs e L f).1) ∧ RLno PP TT uc w0 R b u m lv key vs (laneM lv key vs e L f).2.1 e (rollM e L f ro) (laneM lv key vs e L f).2.2 (N + 1) w' := by
  obtain ⟨F, ml, rfl, hl, hE⟩ := h
  have hE0 : Env w0 (boxI b (wr PP TT (rlC lv key vs L.p.1 L.p.2.1 L.p.2.2 6 L.W L.X L.K L.V L.C L.fd)) :: boxI u (ruC uc e ro) :: refI m F ml :: R) w := by
    have h9 := hE
    unfold rlV at h9
    rw [hpc] at h9
    exact h9
  clear hE
  have hM : laneM lv key vs e L (getL ml) = (0, { L with K := getL ml (5, L.C, 3), pc := 7 }, getL ml) := by simp [laneM, hpc]
  have hr : rollM e L (getL ml) ro = ro := by simp [rollM, hpc, isVal]
  rw [hM, hr]
  refine (rst6o hpo (getL ml (5, L.C, 3)) rfl (by omega) hE0).mono ?_
  rintro o w1 ⟨rfl, hE1⟩
  exact ⟨rfl, F, ml, rfl, by omega, hE1⟩

theorem rlane_8o (hpc : L.pc = 8) (hL : LmOk L) (hlv : 0 ≤ lv ∧ lv ≤ 1000000) (he : 0 ≤ e ∧ e ≤ 9223372036854775807) (hu : ∀ x, InU (f x)) (hN : N ≤ 1000000) (h : RLno PP TT uc w0 R b u m lv key vs L e ro f N w) :
    Calls Tryz.prog 99 #[.pointer (some ⟨b, k0, none⟩), .pointer (some ⟨u, 0, none⟩), .pointer (some ⟨m, 0, none⟩)] w fun o w' => o = .returned (.int .i64 (laneM lv key vs e L f).1) ∧ RLno PP TT uc w0 R b u m lv key vs (laneM lv key vs e L f).2.1 e (rollM e L f ro) (laneM lv key vs e L f).2.2 (N + 1) w' := by
  obtain ⟨F, ml, rfl, hl, hE⟩ := h
  have hE0 : Env w0 (boxI b (wr PP TT (rlC lv key vs L.p.1 L.p.2.1 L.p.2.2 8 L.W L.X L.K L.V L.C L.fd)) :: boxI u (ruC uc e ro) :: refI m F ml :: R) w := by
    have h9 := hE
    unfold rlV at h9
    rw [hpc] at h9
    exact h9
  clear hE
  have hM : laneM lv key vs e L (getL ml) = (0, { L with V := getL ml (5, L.C, 4), pc := 9 }, getL ml) := by simp [laneM, hpc]
  have hr : rollM e L (getL ml) ro = ro := by simp [rollM, hpc, isVal]
  rw [hM, hr]
  refine (rst8o hpo (getL ml (5, L.C, 4)) rfl (by omega) hE0).mono ?_
  rintro o w1 ⟨rfl, hE1⟩
  exact ⟨rfl, F, ml, rfl, by omega, hE1⟩


theorem rlane_5o (hpc : L.pc = 5) (hL : LmOk L) (hlv : 0 ≤ lv ∧ lv ≤ 1000000) (he : 0 ≤ e ∧ e ≤ 9223372036854775807) (hu : ∀ x, InU (f x)) (hN : N ≤ 1000000) (h : RLno PP TT uc w0 R b u m lv key vs L e ro f N w) :
    Calls Tryz.prog 99 #[.pointer (some ⟨b, k0, none⟩), .pointer (some ⟨u, 0, none⟩), .pointer (some ⟨m, 0, none⟩)] w fun o w' => o = .returned (.int .i64 (laneM lv key vs e L f).1) ∧ RLno PP TT uc w0 R b u m lv key vs (laneM lv key vs e L f).2.1 e (rollM e L f ro) (laneM lv key vs e L f).2.2 (N + 1) w' := by
  obtain ⟨F, ml, rfl, hl, hE⟩ := h
  have hE0 : Env w0 (boxI b (wr PP TT (rlC lv key vs L.p.1 L.p.2.1 L.p.2.2 5 L.W L.X L.K L.V L.C L.fd)) :: boxI u (ruC uc e ro) :: refI m F ml :: R) w := by
    have h9 := hE
    unfold rlV at h9
    rw [hpc] at h9
    exact h9
  clear hE
  have hr : rollM e L (getL ml) ro = ro := by simp [rollM, hpc, isVal]
  have hsl := swL_len ml L.p L.W (wordI false (slotI L.X) e)
  by_cases heq : getL ml L.p = L.W
  · have hM : laneM lv key vs e L (getL ml) = (cS (wordI false (slotI L.X) e), { L with W := wordI false (slotI L.X) e, X := 0, C := slotI (wordI false (slotI L.X) e), pc := 3 }, swf (getL ml) L.p L.W (wordI false (slotI L.X) e)) := by simp [laneM, hpc, heq, comeM_cS]
    rw [hM, hr]
    refine (rst5yo hpo heq hL.X (by omega) hE0).mono ?_
    rintro o w1 ⟨rfl, F', hE1⟩
    exact ⟨rfl, F', _, (swf_getL _ _ _ _).symm, by omega, hE1⟩
  · have hM : laneM lv key vs e L (getL ml) = (2, L, swf (getL ml) L.p L.W (wordI false (slotI L.X) e)) := by simp [laneM, hpc, heq]
    rw [hM, hr]
    refine (rst5no hpo heq hL.X (by omega) hE0).mono ?_
    rintro o w1 ⟨rfl, F', hE1⟩
    refine ⟨rfl, F', _, (swf_getL _ _ _ _).symm, by omega, ?_⟩
    unfold rlV
    rw [hpc]
    exact hE1

theorem rlane_2o (hpc : L.pc = 2) (hL : LmOk L) (hlv : 0 ≤ lv ∧ lv ≤ 1000000) (he : 0 ≤ e ∧ e ≤ 9223372036854775807) (hu : ∀ x, InU (f x)) (hN : N ≤ 1000000) (h : RLno PP TT uc w0 R b u m lv key vs L e ro f N w) :
    Calls Tryz.prog 99 #[.pointer (some ⟨b, k0, none⟩), .pointer (some ⟨u, 0, none⟩), .pointer (some ⟨m, 0, none⟩)] w fun o w' => o = .returned (.int .i64 (laneM lv key vs e L f).1) ∧ RLno PP TT uc w0 R b u m lv key vs (laneM lv key vs e L f).2.1 e (rollM e L f ro) (laneM lv key vs e L f).2.2 (N + 1) w' := by
  obtain ⟨F, ml, rfl, hl, hE⟩ := h
  have hE0 : Env w0 (boxI b (wr PP TT (rlC lv key vs L.p.1 L.p.2.1 L.p.2.2 2 L.W L.X L.K L.V L.C L.fd)) :: boxI u (ruC uc e ro) :: refI m F ml :: R) w := by
    have h9 := hE
    unfold rlV at h9
    rw [hpc] at h9
    exact h9
  clear hE
  by_cases hok : okB (getL ml (1, 0, 0)) e = true
  · have hr : rollM e L (getL ml) ro = ro := by simp [rollM, hok]
    rw [hr]
    by_cases hmk : markB L.W = true
    · skip
      have hM : laneM lv key vs e L (getL ml) = (2, L, getL ml) := by simp [laneM, holdsM, hpc, hok, comeM_cS, hmk]
      rw [hM]
      refine rvy2o hpo hok (hu _) he (by omega) _ _ hE0 fun v hv => ?_
      refine (holds2a_ro hpo hmk hL.W hv).mono ?_
      rintro o w1 ⟨rfl, hE1⟩
      refine ⟨rfl, F, ml, rfl, by omega, ?_⟩
      unfold rlV
      rw [hpc]
      exact hE1
    · have hmk : markB L.W = false := by simpa using hmk
      have hM : laneM lv key vs e L (getL ml) = (cS L.W, { L with W := L.W, X := 0, C := slotI L.W, pc := 3 }, getL ml) := by simp [laneM, holdsM, hpc, hok, comeM_cS, hmk]
      rw [hM]
      refine rvy2o hpo hok (hu _) he (by omega) _ _ hE0 fun v hv => ?_
      refine (holds2b_ro hpo hmk hL.W hv).mono ?_
      rintro o w1 ⟨rfl, hE1⟩
      exact ⟨rfl, F, ml, rfl, by omega, hE1⟩
  · have hok : okB (getL ml (1, 0, 0)) e = false := by simpa using hok
    have hr : rollM e L (getL ml) ro = wrap64 (ro + 1) := by simp [rollM, hpc, isVal, hok]
    have hM : laneM lv key vs e L (getL ml) = (2, L, getL ml) := by simp [laneM, hpc, hok]
    rw [hM, hr]
    refine (rvn2o hpo hok (hu _) he (by omega) hE0).mono ?_
    rintro o w1 ⟨rfl, hE1⟩
    refine ⟨rfl, F, ml, rfl, by omega, ?_⟩
    unfold rlV
    rw [hpc]
    exact hE1

theorem rlane_4o (hpc : L.pc = 4) (hL : LmOk L) (hlv : 0 ≤ lv ∧ lv ≤ 1000000) (he : 0 ≤ e ∧ e ≤ 9223372036854775807) (hu : ∀ x, InU (f x)) (hN : N ≤ 1000000) (h : RLno PP TT uc w0 R b u m lv key vs L e ro f N w) :
    Calls Tryz.prog 99 #[.pointer (some ⟨b, k0, none⟩), .pointer (some ⟨u, 0, none⟩), .pointer (some ⟨m, 0, none⟩)] w fun o w' => o = .returned (.int .i64 (laneM lv key vs e L f).1) ∧ RLno PP TT uc w0 R b u m lv key vs (laneM lv key vs e L f).2.1 e (rollM e L f ro) (laneM lv key vs e L f).2.2 (N + 1) w' := by
  obtain ⟨F, ml, rfl, hl, hE⟩ := h
  have hE0 : Env w0 (boxI b (wr PP TT (rlC lv key vs L.p.1 L.p.2.1 L.p.2.2 4 L.W L.X L.K L.V L.C L.fd)) :: boxI u (ruC uc e ro) :: refI m F ml :: R) w := by
    have h9 := hE
    unfold rlV at h9
    rw [hpc] at h9
    exact h9
  clear hE
  by_cases hok : okB (getL ml (1, 0, 0)) e = true
  · have hr : rollM e L (getL ml) ro = ro := by simp [rollM, hok]
    rw [hr]
    have hM : laneM lv key vs e L (getL ml) = (0, { L with pc := if markB L.X then 5 else 6 }, getL ml) := by simp [laneM, holdsM, hpc, hok, comeM_cS]
    rw [hM]
    refine rvy4o hpo hok (hu _) he (by omega) _ _ hE0 fun v hv => ?_
    refine (holds4_ro hpo hL.X hv).mono ?_
    rintro o w1 ⟨rfl, hE1⟩
    refine ⟨rfl, F, ml, rfl, by omega, ?_⟩
    cases hmk : markB L.X
    · rw [hmk] at hE1
      exact hE1
    · rw [hmk] at hE1
      exact hE1
  · have hok : okB (getL ml (1, 0, 0)) e = false := by simpa using hok
    have hr : rollM e L (getL ml) ro = wrap64 (ro + 1) := by simp [rollM, hpc, isVal, hok]
    have hM : laneM lv key vs e L (getL ml) = (2, L, getL ml) := by simp [laneM, hpc, hok]
    rw [hM, hr]
    refine (rvn4o hpo hok (hu _) he (by omega) hE0).mono ?_
    rintro o w1 ⟨rfl, hE1⟩
    refine ⟨rfl, F, ml, rfl, by omega, ?_⟩
    unfold rlV
    rw [hpc]
    exact hE1

theorem rlane_7o (hpc : L.pc = 7) (hL : LmOk L) (hlv : 0 ≤ lv ∧ lv ≤ 1000000) (he : 0 ≤ e ∧ e ≤ 9223372036854775807) (hu : ∀ x, InU (f x)) (hN : N ≤ 1000000) (h : RLno PP TT uc w0 R b u m lv key vs L e ro f N w) :
    Calls Tryz.prog 99 #[.pointer (some ⟨b, k0, none⟩), .pointer (some ⟨u, 0, none⟩), .pointer (some ⟨m, 0, none⟩)] w fun o w' => o = .returned (.int .i64 (laneM lv key vs e L f).1) ∧ RLno PP TT uc w0 R b u m lv key vs (laneM lv key vs e L f).2.1 e (rollM e L f ro) (laneM lv key vs e L f).2.2 (N + 1) w' := by
  obtain ⟨F, ml, rfl, hl, hE⟩ := h
  have hE0 : Env w0 (boxI b (wr PP TT (rlC lv key vs L.p.1 L.p.2.1 L.p.2.2 7 L.W L.X L.K L.V L.C L.fd)) :: boxI u (ruC uc e ro) :: refI m F ml :: R) w := by
    have h9 := hE
    unfold rlV at h9
    rw [hpc] at h9
    exact h9
  clear hE
  by_cases hok : okB (getL ml (1, 0, 0)) e = true
  · have hr : rollM e L (getL ml) ro = ro := by simp [rollM, hok]
    rw [hr]
    by_cases hlt : L.K < key
    · skip
      have hM : laneM lv key vs e L (getL ml) = (cS L.X, { L with p := (5, L.C, 7 + lv), W := L.X, X := 0, C := slotI L.X, pc := 3 }, getL ml) := by simp [laneM, holdsM, hpc, hok, comeM_cS, hlt]
      rw [hM]
      refine rvy7o hpo hok (hu _) he (by omega) _ _ hE0 fun v hv => ?_
      refine (holds7a_ro hpo hlt hlv hL.X hv).mono ?_
      rintro o w1 ⟨rfl, hE1⟩
      exact ⟨rfl, F, ml, rfl, by omega, hE1⟩
    · by_cases heq : L.K = key
      · cases vs
        · skip
          have hM : laneM lv key false e L (getL ml) = (1, { L with fd := true }, getL ml) := by simp [laneM, holdsM, hpc, hok, comeM_cS, heq]
          rw [hM]
          refine rvy7o hpo hok (hu _) he (by omega) _ _ hE0 fun v hv => ?_
          refine (holds7b_ro hpo heq hv).mono ?_
          rintro o w1 ⟨rfl, hE1⟩
          refine ⟨rfl, F, ml, rfl, by omega, ?_⟩
          unfold rlV
          dsimp only
          rw [hpc]
          exact hE1
        · skip
          have hM : laneM lv key true e L (getL ml) = (0, { L with fd := true, pc := 8 }, getL ml) := by simp [laneM, holdsM, hpc, hok, comeM_cS, heq]
          rw [hM]
          refine rvy7o hpo hok (hu _) he (by omega) _ _ hE0 fun v hv => ?_
          refine (holds7c_ro hpo heq hv).mono ?_
          rintro o w1 ⟨rfl, hE1⟩
          exact ⟨rfl, F, ml, rfl, by omega, hE1⟩
      · skip
        have hM : laneM lv key vs e L (getL ml) = (1, L, getL ml) := by simp [laneM, holdsM, hpc, hok, comeM_cS, hlt, heq]
        rw [hM]
        refine rvy7o hpo hok (hu _) he (by omega) _ _ hE0 fun v hv => ?_
        refine (holds7d_ro hpo (by omega) hv).mono ?_
        rintro o w1 ⟨rfl, hE1⟩
        refine ⟨rfl, F, ml, rfl, by omega, ?_⟩
        unfold rlV
        rw [hpc]
        exact hE1
  · have hok : okB (getL ml (1, 0, 0)) e = false := by simpa using hok
    have hr : rollM e L (getL ml) ro = wrap64 (ro + 1) := by simp [rollM, hpc, isVal, hok]
    have hM : laneM lv key vs e L (getL ml) = (2, L, getL ml) := by simp [laneM, hpc, hok]
    rw [hM, hr]
    refine (rvn7o hpo hok (hu _) he (by omega) hE0).mono ?_
    rintro o w1 ⟨rfl, hE1⟩
    refine ⟨rfl, F, ml, rfl, by omega, ?_⟩
    unfold rlV
    rw [hpc]
    exact hE1

theorem rlane_9o (hpc : L.pc = 9) (hL : LmOk L) (hlv : 0 ≤ lv ∧ lv ≤ 1000000) (he : 0 ≤ e ∧ e ≤ 9223372036854775807) (hu : ∀ x, InU (f x)) (hN : N ≤ 1000000) (h : RLno PP TT uc w0 R b u m lv key vs L e ro f N w) :
    Calls Tryz.prog 99 #[.pointer (some ⟨b, k0, none⟩), .pointer (some ⟨u, 0, none⟩), .pointer (some ⟨m, 0, none⟩)] w fun o w' => o = .returned (.int .i64 (laneM lv key vs e L f).1) ∧ RLno PP TT uc w0 R b u m lv key vs (laneM lv key vs e L f).2.1 e (rollM e L f ro) (laneM lv key vs e L f).2.2 (N + 1) w' := by
  obtain ⟨F, ml, rfl, hl, hE⟩ := h
  have hE0 : Env w0 (boxI b (wr PP TT (rlC lv key vs L.p.1 L.p.2.1 L.p.2.2 9 L.W L.X L.K L.V L.C L.fd)) :: boxI u (ruC uc e ro) :: refI m F ml :: R) w := by
    have h9 := hE
    unfold rlV at h9
    rw [hpc] at h9
    exact h9
  clear hE
  by_cases hok : okB (getL ml (1, 0, 0)) e = true
  · have hr : rollM e L (getL ml) ro = ro := by simp [rollM, hok]
    rw [hr]
    have hM : laneM lv key vs e L (getL ml) = (1, L, getL ml) := by simp [laneM, holdsM, hpc, hok, comeM_cS]
    rw [hM]
    refine rvy9o hpo hok (hu _) he (by omega) _ _ hE0 fun v hv => ?_
    refine (holds9_ro hpo hv).mono ?_
    rintro o w1 ⟨rfl, hE1⟩
    refine ⟨rfl, F, ml, rfl, by omega, ?_⟩
    unfold rlV
    rw [hpc]
    exact hE1
  · have hok : okB (getL ml (1, 0, 0)) e = false := by simpa using hok
    have hr : rollM e L (getL ml) ro = wrap64 (ro + 1) := by simp [rollM, hpc, isVal, hok]
    have hM : laneM lv key vs e L (getL ml) = (2, L, getL ml) := by simp [laneM, hpc, hok]
    rw [hM, hr]
    refine (rvn9o hpo hok (hu _) he (by omega) hE0).mono ?_
    rintro o w1 ⟨rfl, hE1⟩
    refine ⟨rfl, F, ml, rfl, by omega, ?_⟩
    unfold rlV
    rw [hpc]
    exact hE1

theorem rlaneo (hL : LmOk L) (hlv : 0 ≤ lv ∧ lv ≤ 1000000) (he : 0 ≤ e ∧ e ≤ 9223372036854775807) (hu : ∀ x, InU (f x)) (hN : N ≤ 1000000) (h : RLno PP TT uc w0 R b u m lv key vs L e ro f N w) :
    Calls Tryz.prog 99 #[.pointer (some ⟨b, k0, none⟩), .pointer (some ⟨u, 0, none⟩), .pointer (some ⟨m, 0, none⟩)] w fun o w' => o = .returned (.int .i64 (laneM lv key vs e L f).1) ∧ RLno PP TT uc w0 R b u m lv key vs (laneM lv key vs e L f).2.1 e (rollM e L f ro) (laneM lv key vs e L f).2.2 (N + 1) w' := by
  rcases hL.pc with h0 | h0 | h0 | h0 | h0 | h0 | h0 | h0 | h0
  · exact rlane_0o hpo h0 hL hlv he hu hN h
  · exact rlane_2o hpo h0 hL hlv he hu hN h
  · exact rlane_3o hpo h0 hL hlv he hu hN h
  · exact rlane_4o hpo h0 hL hlv he hu hN h
  · exact rlane_5o hpo h0 hL hlv he hu hN h
  · exact rlane_6o hpo h0 hL hlv he hu hN h
  · exact rlane_7o hpo h0 hL hlv he hu hN h
  · exact rlane_8o hpo h0 hL hlv he hu hN h
  · exact rlane_9o hpo h0 hL hlv he hu hN h
end
end Go.Proofs.YtnnjanaclgjneaaGreatDoor

/- Finds by plain mathematics: going down a skip list, level by level. -/
namespace Go.Proofs.YtnnjanaclgjneaaGreatDoor
open Go.RowKit Go.Maps
set_option maxRecDepth 100000

/-- A Find: whether a lane is on, at which level, the last lane of each level, the thread's epoch and rolls. -/
structure Fm where
  on : Bool
  lv : Nat
  L : Nat → Lm
  e : Int
  r : Int
/-- One level's lane. -/
def setN {α : Type} (L : Nat → α) (k : Nat) (x : α) : Nat → α := fun i => if i = k then x else L i
theorem setN_same {α : Type} (L : Nat → α) (k : Nat) (x : α) : setN L k x k = x := by simp [setN]
theorem setN_other {α : Type} (L : Nat → α) {k i : Nat} (x : α) (h : i ≠ k) : setN L k x i = L i := by simp [setN, h]
/-- Where the lane of the next lower level begins. -/
def belowP (p : Plc) : Plc := (p.1, p.2.1, p.2.2 - 1)
def F0m (e r : Int) : Fm := ⟨false, 0, fun _ => L0 (0, 0, 0), e, r⟩
/-- A Find's step: its state, the Find, the memory. -/
def downM (h : Nat) (key : Int) (F : Fm) (f : Plc → Int) : Int × Fm × (Plc → Int) :=
  if F.on then
    (if (laneM F.lv key false F.e (F.L F.lv) f).1 = 1 ∧ F.lv = 0 then 1 else 0,
     (if (laneM F.lv key false F.e (F.L F.lv) f).1 = 2 then { F with on := false, r := rollM F.e (F.L F.lv) f F.r }
      else if (laneM F.lv key false F.e (F.L F.lv) f).1 = 1 ∧ F.lv ≠ 0 then
        { F with lv := F.lv - 1, L := setN (setN F.L F.lv (laneM F.lv key false F.e (F.L F.lv) f).2.1) (F.lv - 1) (L0 (belowP (laneM F.lv key false F.e (F.L F.lv) f).2.1.p)), r := rollM F.e (F.L F.lv) f F.r }
      else { F with L := setN F.L F.lv (laneM F.lv key false F.e (F.L F.lv) f).2.1, r := rollM F.e (F.L F.lv) f F.r }),
     (laneM F.lv key false F.e (F.L F.lv) f).2.2)
  else (0, { F with on := true, lv := h - 1, L := setN F.L (h - 1) (L0 (4, 0, ((h - 1 : Nat) : Int))), e := epI (f (1, 0, 0)) }, f)
/-- Where a lane of a level stands. -/
def AtOk (lv : Int) (p : Plc) : Prop := p = (4, 0, lv) ∨ ∃ c, 0 ≤ c ∧ c ≤ 8388607 ∧ p = (5, c, 7 + lv)
theorem AtOk.wf {lv : Int} {p : Plc} (h : AtOk lv p) (hlv : -7 ≤ lv ∧ lv ≤ 1000000) : Wf p := by
  rcases h with rfl | ⟨c, h0, h1, rfl⟩
  · unfold Wf In64; simp; omega
  · unfold Wf In64; simp; omega
theorem AtOk.below {lv : Int} {p : Plc} (h : AtOk lv p) : AtOk (lv - 1) (belowP p) := by
  rcases h with rfl | ⟨c, h0, h1, rfl⟩
  · exact .inl rfl
  · exact .inr ⟨c, h0, h1, by unfold belowP; simp; omega⟩
theorem AtOk.lane {lv key e : Int} {vs : Bool} {L : Lm} {f : Plc → Int} (h : AtOk lv L.p) (hC : 0 ≤ L.C ∧ L.C ≤ 8388607) : AtOk lv (laneM lv key vs e L f).2.1.p := by
  have h2 : AtOk lv (5, L.C, 7 + lv) := .inr ⟨_, hC.1, hC.2, rfl⟩
  by_cases h0 : L.pc = 0
  · simp only [laneM, if_pos h0]; exact h
  by_cases h3 : L.pc = 3
  · simp only [laneM, if_neg h0, if_pos h3]; exact h
  by_cases h5 : L.pc = 5
  · simp only [laneM, if_neg h0, if_neg h3, if_pos h5]
    by_cases hx : f L.p = L.W
    · rw [if_pos hx]; exact h
    · rw [if_neg hx]; exact h
  by_cases h6 : L.pc = 6
  · simp only [laneM, if_neg h0, if_neg h3, if_neg h5, if_pos h6]; exact h
  by_cases h8 : L.pc = 8
  · simp only [laneM, if_neg h0, if_neg h3, if_neg h5, if_neg h6, if_pos h8]; exact h
  simp only [laneM, if_neg h0, if_neg h3, if_neg h5, if_neg h6, if_neg h8]
  by_cases hok : okB (f (1, 0, 0)) e = true
  · rw [if_pos hok]
    unfold holdsM
    by_cases p2 : L.pc = 2
    · rw [if_pos p2]
      by_cases hm : markB L.W = true
      · rw [if_pos hm]; exact h
      · rw [if_neg hm]; exact h
    rw [if_neg p2]
    by_cases p4 : L.pc = 4
    · rw [if_pos p4]; exact h
    rw [if_neg p4]
    by_cases p7 : L.pc = 7
    · rw [if_pos p7]
      by_cases hk : L.K < key
      · rw [if_pos hk]; exact h2
      · rw [if_neg hk]
        by_cases hq : L.K = key
        · rw [if_pos hq]
          cases vs
          · exact h
          · exact h
        · rw [if_neg hq]; exact h
    · rw [if_neg p7]; exact h
  · rw [if_neg hok]; exact h
/-- What a Find keeps. -/
def FmOk (h : Nat) (F : Fm) : Prop := F.on = true → F.lv < h ∧ LmOk (F.L F.lv) ∧ AtOk F.lv (F.L F.lv).p
theorem F0m_ok (h : Nat) (e r : Int) : FmOk h (F0m e r) := fun h => absurd h (by simp [F0m])
end Go.Proofs.YtnnjanaclgjneaaGreatDoor
