/- What is proved on the way to the statement, part 6 of 7: contracts of the functions, among other things in memory. -/
import Derived.Test.YtdeohigggjfjjaaG5

/- The document's answer for layer 21: an op at once. -/
namespace Go.Proofs.Ytdeohigggjfjjaa
open Go.RowKit Go.Maps
set_option maxRecDepth 100000

theorem und32 : Try.prog.underlying 32 = some (.struct (match Try.prog.underlying 32 with | some (.struct x) => x | _ => default)) := by kernel_rfl
theorem size32 : (Try.prog.info? 32).map (·.size) = some 1 := by kernel_rfl
def nextR (M : List (Int × Int)) (kd k v : Int) : List (Int × Int) :=
  if kd = 1 then (if (lookM M k).2 then M else putM M k 0) else if kd = 2 then remM M k else if kd = 3 then M else if kd = 4 then putM M k v
  else if kd = 5 then (if (lookM M k).2 then M else putM M k v) else if kd = 6 then remM M k else M
def ansD (M : List (Int × Int)) (kd k : Int) : Bool := if kd = 1 ∨ kd = 5 then !(lookM M k).2 else if kd = 8 then true else (lookM M k).2
def ansV (M : List (Int × Int)) (kd k : Int) : Int := if kd = 4 ∨ kd = 5 ∨ kd = 6 ∨ kd = 7 then (lookM M k).1 else 0
/-- What the document's Do answers. -/
structure RDo where
  M : List (Int × Int)
  D : Bool
  V : Int
  E : Int
def doR (M : List (Int × Int)) (kd k v : Int) : RDo :=
  if 1 ≤ kd ∧ kd ≤ 8 then (if 16 < (nextR M kd k v).length then ⟨[], false, 0, 6⟩ else ⟨nextR M kd k v, ansD M kd k, ansV M kd k, 0⟩) else ⟨[], false, 0, 8⟩
/-- .. and where it stands. -/
def DoPost (w : World) (A : Option Addr) (R : RDo) (e : Ending) (w' : World) : Prop :=
  ∃ A' cap', e = .returned (.tuple #[.agg #[.slice A' R.M.length cap'], .agg (encA 0 R.D R.V).toArray, .int .i64 R.E]) ∧ RowX encP 2 w' A' R.M ∧ (A' = none → R.M = []) ∧ (A' = A ∨ ∀ b off, A' = some ⟨b, off, none⟩ → szOf w ≤ b) ∧ Below w.heap.size w w'
theorem putM_len (M : List (Int × Int)) (k v : Int) : (putM M k v).length ≤ M.length + 1 := by unfold putM; simp; exact rem_len M k
theorem RowX.putsAp {w : World} {A : Option Addr} {M : List (Int × Int)} {n : Nat} (h : RowX encP 2 w A M) (hn : ∀ b off, A = some ⟨b, off, none⟩ → b ≠ n) : ∀ (us : List Value) (o : Nat), RowX encP 2 (w.setCells n o us) A M := by
  intro us
  induction us generalizing w with
  | nil => intro o; exact h
  | cons u us ih => intro o; exact ih (h.put hn o u) (o + 1)
set_option maxHeartbeats 8000000 in
theorem doR1t {A : Option Addr} {cap : Nat} {M : List (Int × Int)} {w : World} (hm : M.length ≤ 100000) (hr : RowX encP 2 w A M) (hA : A = none → M = []) (k v lv : Int) (hb : (lookM M k).2 = true) :
    Calls Try.prog 10 #[.agg #[.slice A M.length cap], .agg #[.int .i64 1, .int .u64 k, .int .u64 v, .int .i64 lv]] w (DoPost w A (doR M 1 k v)) := by
  have hF := ((((Fr.start w).push w.heap.size rfl [.slice A M.length cap] 32).push (w.heap.size + 1) (by simp) [.int .i64 1, .int .u64 k, .int .u64 v, .int .i64 lv] 39).push (w.heap.size + 2) (by simp) [.slice none 0 0] 32).push (w.heap.size + 3) (by simp) (encA 0 false 0) 35
  have HRR := Lib.hid hr
  have CG : Hid (∀ w', Below w.heap.size w w' → Calls Try.prog 12 #[.agg #[.slice A M.length cap], .int .u64 k] w' fun e w'' => e = .returned (.tuple #[.int .u64 (lookM M k).1, .bool (lookM M k).2]) ∧ Below w'.heap.size w' w'') := Lib.hid fun w' h => get_r (by omega) (hr.below h) k
  have CW : Hid (∀ w' y, Below w.heap.size w w' → Calls Try.prog 15 #[.agg #[.slice A M.length cap], .agg #[.int .u64 k, .int .u64 y]] w' fun e w'' => ∃ A' cap', e = .returned (.agg #[.slice A' (putM M k y).length cap']) ∧ Env w' [rowR A' cap' (putM M k y)] w'') := Lib.hid fun w' y h => with_r (by omega) (hr.below h) k y
  have CO : Hid (∀ w', Below w.heap.size w w' → Calls Try.prog 19 #[.agg #[.slice A M.length cap], .int .u64 k] w' fun e w'' => ∃ A' cap', e = .returned (.agg #[.slice A' (remM M k).length cap']) ∧ Env w' [rowR A' cap' (remM M k)] w'') := Lib.hid fun w' h => without_r (by omega) (hr.below h) k
  have HA := Lib.hid hA
  generalize hdd : doR M 1 k v = RR
  have HD := Lib.hid hdd
  clear hr hA hdd
  go_enter Try.func10, Try.ntmps10
  have r0 := hF.rule 3 rfl
  have r1 := hF.rule 2 rfl
  go_wp2_with fail
  refine (CG.out _ hF.below).mono ?_
  rintro o w1 ⟨rfl, hb⟩
  replace hF := hF.over hb
  clear hb r0 r1
  have r0 := hF.rule 3 rfl
  have r1 := hF.rule 2 rfl
  have hZ0 := hF.lt 0 rfl
  go_upto_region 4 with fail
  replace hF := (hF.push w1.heap.size rfl [.slice A M.length cap] 32).push (w1.heap.size + 1) (by simp) [.int .i64 0, .bool false, .int .u64 0] 35
  clear r0 r1
  generalize World.alloc (World.alloc w1 _) _ = w2 at *
  generalize w1.heap.size = Z at *
  have rr1 := hF.rule 4 rfl
  have rr2 := hF.rule 0 rfl
  have ff3 := hF.thaw 0 rfl (by omega)
  go_upto_region 8 with fail
  clear rr1 rr2 ff3
  replace hF := hF.put (by omega) (by simp <;> omega) 1 (by simp) (.bool false)
  generalize World.setCell _ _ _ = w21 at *
  replace hF : Fr w [((Z + 1), [.int .i64 0, .bool false, .int .u64 0]), (Z, [.slice A M.length cap]), ((w.heap.size + 3), encA 0 false 0), ((w.heap.size + 2), [.slice none 0 0]), ((w.heap.size + 1), [.int .i64 1, .int .u64 k, .int .u64 v, .int .i64 lv]), (w.heap.size, [.slice A M.length cap])] w21 := hF
  have hR9 := HRR.out.below hF.below
  have hN9 := HA.out
  have rr4 := hF.rule 1 rfl
  by_cases h16 : 16 < (M).length
  case' pos =>
    have h16' : (16 : Int) < ((M).length : Int) := by omega
    go_upto_region 34 with fail
    clear rr4
    apply wp_region_lit
    refine wpList_buildTo rfl 32 _ rfl (some 100) rfl [Value.slice none 0 0].toArray (by kernel_rfl) ?_
    refine wpList_buildTo rfl 35 _ rfl (some 101) rfl (encA 0 false 0).toArray (by kernel_rfl) ?_
    replace hF := hF.sub (bl' := [((w.heap.size + 2), [.slice none 0 0]), ((Z + 1), [.int .i64 0, .bool false, .int .u64 0]), (Z, [.slice A M.length cap]), ((w.heap.size + 3), encA 0 false 0), ((w.heap.size + 1), [.int .i64 1, .int .u64 k, .int .u64 v, .int .i64 lv]), (w.heap.size, [.slice A M.length cap])]) (by simp)
    refine wpList_store_mid rfl 32 _ _ rfl (w.heap.size + 2) 0 [Value.slice none 0 0].toArray rfl rfl (hF.there 0 rfl (by omega) rfl) size32 (all_oneCell_toArray (fun v hv => by simp at hv; subst hv; rfl)) ?_
    replace hF := hF.whole (us := [.slice none 0 0]) (by omega) (by simp <;> omega) rfl
    generalize World.setCells _ _ _ _ = w8 at *
    replace hF := hF.sub (bl' := [((w.heap.size + 3), encA 0 false 0), ((w.heap.size + 2), [.slice none 0 0]), ((Z + 1), [.int .i64 0, .bool false, .int .u64 0]), (Z, [.slice A M.length cap]), ((w.heap.size + 1), [.int .i64 1, .int .u64 k, .int .u64 v, .int .i64 lv]), (w.heap.size, [.slice A M.length cap])]) (by simp)
    refine wpList_store_mid rfl 35 _ _ rfl (w.heap.size + 3) 0 (encA 0 false 0).toArray rfl rfl (hF.there 0 rfl (by omega) rfl) size35 (all_oneCell_toArray (encA_one _ _ _)) ?_
    replace hF := hF.whole (us := encA 0 false 0) (by omega) (by simp <;> omega) rfl
    generalize World.setCells _ _ _ _ = w8 at *
    go_wp2_with fail
    have e9 : doR M 1 k v = ⟨[], false, 0, 6⟩ := by unfold doR; rw [if_pos (by omega), if_pos (by simpa [nextR, hb] using h16)]
    rw [HD.out] at e9
    subst e9
    exact bodyPost_ret (res_cct rfl _ _ (w.heap.size + 2) (w.heap.size + 3) rfl rfl _ _ _ _ (hF.range 1 rfl) (hF.range 0 rfl) und32 rfl size32 und35 rfl size35) rfl ⟨none, 0, rfl, .inl rfl, fun _ => rfl, .inr (fun b off h => (by cases h)), hF.below⟩
  case' neg =>
    have h16' : ¬ ((16 : Int) < ((M).length : Int)) := by omega
    go_upto_region 35 with fail
    clear rr4
    have hG := hF.sub (bl' := [((w.heap.size + 2), [.slice none 0 0]), ((w.heap.size + 3), encA 0 false 0)]) (by simp)
    have hK := hF.sub (bl' := [(Z, [.slice A M.length cap]), ((Z + 1), encA 0 false 0)]) (by simp [encA])
    have STEP1 : Hid (∀ w5, Fr w [((w.heap.size + 2), [.slice none 0 0]), ((w.heap.size + 3), encA 0 false 0)] w5 → Fr w [((w.heap.size + 2), [.slice A M.length cap]), ((w.heap.size + 3), encA 0 false 0)] (w5.setCells (w.heap.size + 2) 0 [.slice A M.length cap])) := Lib.hid fun w5 h => h.whole (by omega) (by simp) rfl
    have STEP2 : Hid (∀ w5, Fr w [((w.heap.size + 2), [.slice A M.length cap]), ((w.heap.size + 3), encA 0 false 0)] w5 → Fr w [((w.heap.size + 2), [.slice A M.length cap]), ((w.heap.size + 3), encA 0 false 0)] (w5.setCells (w.heap.size + 3) 0 (encA 0 false 0))) := Lib.hid fun w5 h => by
      have h2 := (h.sub (bl' := [((w.heap.size + 3), encA 0 false 0), ((w.heap.size + 2), [.slice A M.length cap])]) (by simp)).whole (us := encA 0 false 0) (by omega) (by simp) rfl
      exact h2.sub (by simp)
    have STEP3 : Hid (∀ (w5 : World) (n : Nat) (us : List Value), w.heap.size + 2 ≤ n → n ≤ w.heap.size + 3 → Fr w [(Z, [.slice A M.length cap]), ((Z + 1), encA 0 false 0)] w5 ∧ RowX encP 2 w5 A (M) → Fr w [(Z, [.slice A M.length cap]), ((Z + 1), encA 0 false 0)] (w5.setCells n 0 us) ∧ RowX encP 2 (w5.setCells n 0 us) A (M)) := Lib.hid fun w5 n us h1 h2 h => ⟨h.1.apart (by omega) (by simp; omega) us 0, HRR.out.below (h.1.apart (n := n) (by omega) (by simp; omega) us 0).below⟩
    refine Ord.wp_chain [2, 3] (fun w' => Fr w [(Z, [.slice A M.length cap]), ((Z + 1), encA 0 false 0)] w' ∧ RowX encP 2 w' A (M)) (fun j w' => Fr w [((w.heap.size + 2), if j = 0 then [.slice none 0 0] else [.slice A M.length cap]), ((w.heap.size + 3), if j < 2 then encA 0 false 0 else encA 0 false 0)] w') (by kernel_rfl) (by kernel_rfl) (by kernel_rfl) ⟨hK.drew, hR9⟩ (by rw [if_pos rfl, if_pos (by omega)]; exact hG.drew) (fun hT => ?_)
    have hT9 := Lib.hid hT
    clear hT
    refine Ord.ch_value (v := .agg [.slice A M.length cap].toArray) hT9.out (by decide) (by rfl) (fun w5 hS => exec_load w5 32 _ rfl Z rfl [.slice A M.length cap] _ (hS.1.range 0 rfl) und32 rfl size32) ?_
    (try simp only [Act.put, List.setIfInBounds_toArray, List.set_cons_zero, List.set_cons_succ])
    refine Ord.ch_value (v := .agg (encA 0 false 0).toArray) hT9.out (by decide) (by rfl) (fun w5 hS => exec_load w5 35 _ rfl (Z + 1) rfl (encA 0 false 0) _ (hS.1.range 1 rfl) und35 rfl size35) ?_
    (try simp only [Act.put, List.setIfInBounds_toArray, List.set_cons_zero, List.set_cons_succ])
    refine Ord.ch_turn (v := undef) 0 hT9.out rfl (by decide) (Or.inl rfl) (by rfl) ?_ ?_
    · rintro w5 hC5 hA5
      rw [if_pos rfl, if_pos (by omega)] at hA5
      rw [exec_store w5 32 _ _ rfl (w.heap.size + 2) [.slice A M.length cap] rfl rfl (hA5.there 0 rfl (by omega) rfl) size32 (fun v hv => by simp at hv; subst hv; rfl)]
      exact ⟨rfl, STEP3.out _ _ _ (by omega) (by omega) hC5, STEP1.out _ hA5⟩
    (try simp only [Act.put, List.setIfInBounds_toArray, List.set_cons_zero, List.set_cons_succ])
    refine Ord.ch_turn (v := undef) 1 hT9.out rfl (by decide) (Or.inr ⟨2, rfl, by kernel_rfl⟩) (by rfl) ?_ ?_
    · rintro w5 hC5 hA5
      rw [exec_store w5 35 _ _ rfl (w.heap.size + 3) (encA 0 false 0) rfl rfl (hA5.there 1 rfl (by omega) rfl) size35 (encA_one _ _ _)]
      exact ⟨rfl, STEP3.out _ _ _ (by omega) (by omega) hC5, STEP2.out _ hA5⟩
    (try simp only [Act.put, List.setIfInBounds_toArray, List.set_cons_zero, List.set_cons_succ])
    repeat (first
      | (refine Ord.ch_value (v := ?_) hT9.out (by decide) (by rfl) ?_ ?_; rotate_left; (focus (intro w5 hS; skip; go_simp <;> with_reducible rfl)); (try simp only [Act.put, List.setIfInBounds_toArray, List.set_cons_zero, List.set_cons_succ]))
      | (refine Ord.ch_off hT9.out (by decide) (by rfl) ?_; (try simp only [Act.put, List.setIfInBounds_toArray, List.set_cons_zero, List.set_cons_succ])))
    refine Ord.InText.nil fun w5 hS => ?_
    clear hT9
    obtain ⟨hC9, hG9⟩ := Ord.chain_end hS
    clear hS
    have hG9' : Fr w [((w.heap.size + 2), [.slice A M.length cap]), ((w.heap.size + 3), encA 0 false 0)] w5 := hG9
    go_wp2_with fail
    have e9 : doR M 1 k v = ⟨M, false, 0, 0⟩ := by unfold doR; rw [if_pos (by omega), if_neg (by simpa [nextR, hb] using h16)]; simp [nextR, ansD, ansV, hb]
    rw [HD.out] at e9
    subst e9
    exact bodyPost_ret (res_cct rfl _ _ (w.heap.size + 2) (w.heap.size + 3) rfl rfl _ _ _ _ (hG9'.range 0 rfl) (hG9'.range 1 rfl) und32 rfl size32 und35 rfl size35) rfl ⟨A, cap, rfl, hC9.2, hN9, .inl rfl, hG9'.below⟩
set_option maxHeartbeats 8000000 in
theorem doR1f {A : Option Addr} {cap : Nat} {M : List (Int × Int)} {w : World} (hm : M.length ≤ 100000) (hr : RowX encP 2 w A M) (hA : A = none → M = []) (k v lv : Int) (hb : (lookM M k).2 = false) :
    Calls Try.prog 10 #[.agg #[.slice A M.length cap], .agg #[.int .i64 1, .int .u64 k, .int .u64 v, .int .i64 lv]] w (DoPost w A (doR M 1 k v)) := by
  have hF := ((((Fr.start w).push w.heap.size rfl [.slice A M.length cap] 32).push (w.heap.size + 1) (by simp) [.int .i64 1, .int .u64 k, .int .u64 v, .int .i64 lv] 39).push (w.heap.size + 2) (by simp) [.slice none 0 0] 32).push (w.heap.size + 3) (by simp) (encA 0 false 0) 35
  have HRR := Lib.hid hr
  have CG : Hid (∀ w', Below w.heap.size w w' → Calls Try.prog 12 #[.agg #[.slice A M.length cap], .int .u64 k] w' fun e w'' => e = .returned (.tuple #[.int .u64 (lookM M k).1, .bool (lookM M k).2]) ∧ Below w'.heap.size w' w'') := Lib.hid fun w' h => get_r (by omega) (hr.below h) k
  have CW : Hid (∀ w' y, Below w.heap.size w w' → Calls Try.prog 15 #[.agg #[.slice A M.length cap], .agg #[.int .u64 k, .int .u64 y]] w' fun e w'' => ∃ A' cap', e = .returned (.agg #[.slice A' (putM M k y).length cap']) ∧ Env w' [rowR A' cap' (putM M k y)] w'') := Lib.hid fun w' y h => with_r (by omega) (hr.below h) k y
  have CO : Hid (∀ w', Below w.heap.size w w' → Calls Try.prog 19 #[.agg #[.slice A M.length cap], .int .u64 k] w' fun e w'' => ∃ A' cap', e = .returned (.agg #[.slice A' (remM M k).length cap']) ∧ Env w' [rowR A' cap' (remM M k)] w'') := Lib.hid fun w' h => without_r (by omega) (hr.below h) k
  have HA := Lib.hid hA
  generalize hdd : doR M 1 k v = RR
  have HD := Lib.hid hdd
  clear hr hA hdd
  go_enter Try.func10, Try.ntmps10
  have r0 := hF.rule 3 rfl
  have r1 := hF.rule 2 rfl
  go_wp2_with fail
  refine (CG.out _ hF.below).mono ?_
  rintro o w1 ⟨rfl, hb⟩
  replace hF := hF.over hb
  clear hb r0 r1
  have r0 := hF.rule 3 rfl
  have r1 := hF.rule 2 rfl
  have hZ0 := hF.lt 0 rfl
  go_upto_region 4 with fail
  replace hF := (hF.push w1.heap.size rfl [.slice A M.length cap] 32).push (w1.heap.size + 1) (by simp) [.int .i64 0, .bool false, .int .u64 0] 35
  clear r0 r1
  generalize World.alloc (World.alloc w1 _) _ = w2 at *
  generalize w1.heap.size = Z at *
  have rr1 := hF.rule 4 rfl
  have rr2 := hF.rule 0 rfl
  have ff3 := hF.thaw 0 rfl (by omega)
  go_upto_region 9 with fail
  clear rr1 rr2 ff3
  replace hF := hF.put (by omega) (by simp <;> omega) 1 (by simp) (.bool true)
  generalize World.setCell _ _ _ = w21 at *
  replace hF : Fr w [((Z + 1), [.int .i64 0, .bool true, .int .u64 0]), (Z, [.slice A M.length cap]), ((w.heap.size + 3), encA 0 false 0), ((w.heap.size + 2), [.slice none 0 0]), ((w.heap.size + 1), [.int .i64 1, .int .u64 k, .int .u64 v, .int .i64 lv]), (w.heap.size, [.slice A M.length cap])] w21 := hF
  have rr4 := hF.rule 5 rfl
  have rr5 := hF.rule 4 rfl
  go_wp2_with fail
  refine (CW.out _ 0 hF.below).mono ?_
  rintro o w22 ⟨A9, c9, rfl, hE9⟩
  obtain ⟨hR9, hfr, hN9, hb4⟩ := of_row hE9
  have hz4 := hF.lt 0 rfl
  have hz5 := hF.below.size
  replace hF := hF.over hb4
  clear rr4 rr5
  have hAp9 : ∀ b off, A9 = some ⟨b, off, none⟩ → Z + 1 < b := fun b off e => by have := hfr b off e; omega
  have hFr9 : ∀ b off, A9 = some ⟨b, off, none⟩ → szOf w ≤ b := fun b off e => by have := hfr b off e; show w.heap.size ≤ b; omega
  clear hE9 hfr hb4
  have rr6 := hF.rule 1 rfl
  have ff7 := hF.thaw 1 rfl (by omega)
  go_upto_region 33 with fail
  clear rr6 ff7
  replace hF := hF.sub (bl' := [(Z, [.slice A M.length cap]), ((Z + 1), [.int .i64 0, .bool true, .int .u64 0]), ((w.heap.size + 3), encA 0 false 0), ((w.heap.size + 2), [.slice none 0 0]), ((w.heap.size + 1), [.int .i64 1, .int .u64 k, .int .u64 v, .int .i64 lv]), (w.heap.size, [.slice A M.length cap])]) (by simp)
  replace hR9 := hR9.put (n := Z) (fun b off e => by have := hAp9 b off e; omega) 0 (.slice A9 (putM M k 0).length c9)
  replace hF := hF.put (by omega) (by simp <;> omega) 0 (by simp) (.slice A9 (putM M k 0).length c9)
  generalize World.setCell _ _ _ = w23 at *
  replace hF : Fr w [(Z, [.slice A9 (putM M k 0).length c9]), ((Z + 1), [.int .i64 0, .bool true, .int .u64 0]), ((w.heap.size + 3), encA 0 false 0), ((w.heap.size + 2), [.slice none 0 0]), ((w.heap.size + 1), [.int .i64 1, .int .u64 k, .int .u64 v, .int .i64 lv]), (w.heap.size, [.slice A M.length cap])] w23 := hF
  have rr8 := hF.rule 0 rfl
  by_cases h16 : 16 < (putM M k 0).length
  case' pos =>
    have h16' : (16 : Int) < ((putM M k 0).length : Int) := by omega
    go_upto_region 34 with fail
    clear rr8
    apply wp_region_lit
    refine wpList_buildTo rfl 32 _ rfl (some 100) rfl [Value.slice none 0 0].toArray (by kernel_rfl) ?_
    refine wpList_buildTo rfl 35 _ rfl (some 101) rfl (encA 0 false 0).toArray (by kernel_rfl) ?_
    replace hF := hF.sub (bl' := [((w.heap.size + 2), [.slice none 0 0]), (Z, [.slice A9 (putM M k 0).length c9]), ((Z + 1), [.int .i64 0, .bool true, .int .u64 0]), ((w.heap.size + 3), encA 0 false 0), ((w.heap.size + 1), [.int .i64 1, .int .u64 k, .int .u64 v, .int .i64 lv]), (w.heap.size, [.slice A M.length cap])]) (by simp)
    refine wpList_store_mid rfl 32 _ _ rfl (w.heap.size + 2) 0 [Value.slice none 0 0].toArray rfl rfl (hF.there 0 rfl (by omega) rfl) size32 (all_oneCell_toArray (fun v hv => by simp at hv; subst hv; rfl)) ?_
    replace hF := hF.whole (us := [.slice none 0 0]) (by omega) (by simp <;> omega) rfl
    generalize World.setCells _ _ _ _ = w8 at *
    replace hF := hF.sub (bl' := [((w.heap.size + 3), encA 0 false 0), ((w.heap.size + 2), [.slice none 0 0]), (Z, [.slice A9 (putM M k 0).length c9]), ((Z + 1), [.int .i64 0, .bool true, .int .u64 0]), ((w.heap.size + 1), [.int .i64 1, .int .u64 k, .int .u64 v, .int .i64 lv]), (w.heap.size, [.slice A M.length cap])]) (by simp)
    refine wpList_store_mid rfl 35 _ _ rfl (w.heap.size + 3) 0 (encA 0 false 0).toArray rfl rfl (hF.there 0 rfl (by omega) rfl) size35 (all_oneCell_toArray (encA_one _ _ _)) ?_
    replace hF := hF.whole (us := encA 0 false 0) (by omega) (by simp <;> omega) rfl
    generalize World.setCells _ _ _ _ = w8 at *
    go_wp2_with fail
    have e9 : doR M 1 k v = ⟨[], false, 0, 6⟩ := by unfold doR; rw [if_pos (by omega), if_pos (by simpa [nextR, hb] using h16)]
    rw [HD.out] at e9
    subst e9
    exact bodyPost_ret (res_cct rfl _ _ (w.heap.size + 2) (w.heap.size + 3) rfl rfl _ _ _ _ (hF.range 1 rfl) (hF.range 0 rfl) und32 rfl size32 und35 rfl size35) rfl ⟨none, 0, rfl, .inl rfl, fun _ => rfl, .inr (fun b off h => (by cases h)), hF.below⟩
  case' neg =>
    have h16' : ¬ ((16 : Int) < ((putM M k 0).length : Int)) := by omega
    go_upto_region 35 with fail
    clear rr8
    have hG := hF.sub (bl' := [((w.heap.size + 2), [.slice none 0 0]), ((w.heap.size + 3), encA 0 false 0)]) (by simp)
    have hK := hF.sub (bl' := [(Z, [.slice A9 (putM M k 0).length c9]), ((Z + 1), encA 0 true 0)]) (by simp [encA])
    have STEP1 : Hid (∀ w5, Fr w [((w.heap.size + 2), [.slice none 0 0]), ((w.heap.size + 3), encA 0 false 0)] w5 → Fr w [((w.heap.size + 2), [.slice A9 (putM M k 0).length c9]), ((w.heap.size + 3), encA 0 false 0)] (w5.setCells (w.heap.size + 2) 0 [.slice A9 (putM M k 0).length c9])) := Lib.hid fun w5 h => h.whole (by omega) (by simp) rfl
    have STEP2 : Hid (∀ w5, Fr w [((w.heap.size + 2), [.slice A9 (putM M k 0).length c9]), ((w.heap.size + 3), encA 0 false 0)] w5 → Fr w [((w.heap.size + 2), [.slice A9 (putM M k 0).length c9]), ((w.heap.size + 3), encA 0 true 0)] (w5.setCells (w.heap.size + 3) 0 (encA 0 true 0))) := Lib.hid fun w5 h => by
      have h2 := (h.sub (bl' := [((w.heap.size + 3), encA 0 false 0), ((w.heap.size + 2), [.slice A9 (putM M k 0).length c9])]) (by simp)).whole (us := encA 0 true 0) (by omega) (by simp) rfl
      exact h2.sub (by simp)
    have STEP3 : Hid (∀ (w5 : World) (n : Nat) (us : List Value), w.heap.size + 2 ≤ n → n ≤ w.heap.size + 3 → Fr w [(Z, [.slice A9 (putM M k 0).length c9]), ((Z + 1), encA 0 true 0)] w5 ∧ RowX encP 2 w5 A9 (putM M k 0) → Fr w [(Z, [.slice A9 (putM M k 0).length c9]), ((Z + 1), encA 0 true 0)] (w5.setCells n 0 us) ∧ RowX encP 2 (w5.setCells n 0 us) A9 (putM M k 0)) := Lib.hid fun w5 n us h1 h2 h => ⟨h.1.apart (by omega) (by simp; omega) us 0, h.2.putsAp (fun b off e => by have := hAp9 b off e; omega) us 0⟩
    refine Ord.wp_chain [2, 3] (fun w' => Fr w [(Z, [.slice A9 (putM M k 0).length c9]), ((Z + 1), encA 0 true 0)] w' ∧ RowX encP 2 w' A9 (putM M k 0)) (fun j w' => Fr w [((w.heap.size + 2), if j = 0 then [.slice none 0 0] else [.slice A9 (putM M k 0).length c9]), ((w.heap.size + 3), if j < 2 then encA 0 false 0 else encA 0 true 0)] w') (by kernel_rfl) (by kernel_rfl) (by kernel_rfl) ⟨hK.drew, hR9⟩ (by rw [if_pos rfl, if_pos (by omega)]; exact hG.drew) (fun hT => ?_)
    have hT9 := Lib.hid hT
    clear hT
    refine Ord.ch_value (v := .agg [.slice A9 (putM M k 0).length c9].toArray) hT9.out (by decide) (by rfl) (fun w5 hS => exec_load w5 32 _ rfl Z rfl [.slice A9 (putM M k 0).length c9] _ (hS.1.range 0 rfl) und32 rfl size32) ?_
    (try simp only [Act.put, List.setIfInBounds_toArray, List.set_cons_zero, List.set_cons_succ])
    refine Ord.ch_value (v := .agg (encA 0 true 0).toArray) hT9.out (by decide) (by rfl) (fun w5 hS => exec_load w5 35 _ rfl (Z + 1) rfl (encA 0 true 0) _ (hS.1.range 1 rfl) und35 rfl size35) ?_
    (try simp only [Act.put, List.setIfInBounds_toArray, List.set_cons_zero, List.set_cons_succ])
    refine Ord.ch_turn (v := undef) 0 hT9.out rfl (by decide) (Or.inl rfl) (by rfl) ?_ ?_
    · rintro w5 hC5 hA5
      rw [if_pos rfl, if_pos (by omega)] at hA5
      rw [exec_store w5 32 _ _ rfl (w.heap.size + 2) [.slice A9 (putM M k 0).length c9] rfl rfl (hA5.there 0 rfl (by omega) rfl) size32 (fun v hv => by simp at hv; subst hv; rfl)]
      exact ⟨rfl, STEP3.out _ _ _ (by omega) (by omega) hC5, STEP1.out _ hA5⟩
    (try simp only [Act.put, List.setIfInBounds_toArray, List.set_cons_zero, List.set_cons_succ])
    refine Ord.ch_turn (v := undef) 1 hT9.out rfl (by decide) (Or.inr ⟨2, rfl, by kernel_rfl⟩) (by rfl) ?_ ?_
    · rintro w5 hC5 hA5
      rw [exec_store w5 35 _ _ rfl (w.heap.size + 3) (encA 0 true 0) rfl rfl (hA5.there 1 rfl (by omega) rfl) size35 (encA_one _ _ _)]
      exact ⟨rfl, STEP3.out _ _ _ (by omega) (by omega) hC5, STEP2.out _ hA5⟩
    (try simp only [Act.put, List.setIfInBounds_toArray, List.set_cons_zero, List.set_cons_succ])
    repeat (first
      | (refine Ord.ch_value (v := ?_) hT9.out (by decide) (by rfl) ?_ ?_; rotate_left; (focus (intro w5 hS; skip; go_simp <;> with_reducible rfl)); (try simp only [Act.put, List.setIfInBounds_toArray, List.set_cons_zero, List.set_cons_succ]))
      | (refine Ord.ch_off hT9.out (by decide) (by rfl) ?_; (try simp only [Act.put, List.setIfInBounds_toArray, List.set_cons_zero, List.set_cons_succ])))
    refine Ord.InText.nil fun w5 hS => ?_
    clear hT9
    obtain ⟨hC9, hG9⟩ := Ord.chain_end hS
    clear hS
    have hG9' : Fr w [((w.heap.size + 2), [.slice A9 (putM M k 0).length c9]), ((w.heap.size + 3), encA 0 true 0)] w5 := hG9
    go_wp2_with fail
    have e9 : doR M 1 k v = ⟨putM M k 0, true, 0, 0⟩ := by unfold doR; rw [if_pos (by omega), if_neg (by simpa [nextR, hb] using h16)]; simp [nextR, ansD, ansV, hb]
    rw [HD.out] at e9
    subst e9
    exact bodyPost_ret (res_cct rfl _ _ (w.heap.size + 2) (w.heap.size + 3) rfl rfl _ _ _ _ (hG9'.range 0 rfl) (hG9'.range 1 rfl) und32 rfl size32 und35 rfl size35) rfl ⟨A9, c9, rfl, hC9.2, hN9, .inr hFr9, hG9'.below⟩
set_option maxHeartbeats 8000000 in
theorem doR2 {A : Option Addr} {cap : Nat} {M : List (Int × Int)} {w : World} (hm : M.length ≤ 100000) (hr : RowX encP 2 w A M) (hA : A = none → M = []) (k v lv : Int) :
    Calls Try.prog 10 #[.agg #[.slice A M.length cap], .agg #[.int .i64 2, .int .u64 k, .int .u64 v, .int .i64 lv]] w (DoPost w A (doR M 2 k v)) := by
  have hF := ((((Fr.start w).push w.heap.size rfl [.slice A M.length cap] 32).push (w.heap.size + 1) (by simp) [.int .i64 2, .int .u64 k, .int .u64 v, .int .i64 lv] 39).push (w.heap.size + 2) (by simp) [.slice none 0 0] 32).push (w.heap.size + 3) (by simp) (encA 0 false 0) 35
  have HRR := Lib.hid hr
  have CG : Hid (∀ w', Below w.heap.size w w' → Calls Try.prog 12 #[.agg #[.slice A M.length cap], .int .u64 k] w' fun e w'' => e = .returned (.tuple #[.int .u64 (lookM M k).1, .bool (lookM M k).2]) ∧ Below w'.heap.size w' w'') := Lib.hid fun w' h => get_r (by omega) (hr.below h) k
  have CW : Hid (∀ w' y, Below w.heap.size w w' → Calls Try.prog 15 #[.agg #[.slice A M.length cap], .agg #[.int .u64 k, .int .u64 y]] w' fun e w'' => ∃ A' cap', e = .returned (.agg #[.slice A' (putM M k y).length cap']) ∧ Env w' [rowR A' cap' (putM M k y)] w'') := Lib.hid fun w' y h => with_r (by omega) (hr.below h) k y
  have CO : Hid (∀ w', Below w.heap.size w w' → Calls Try.prog 19 #[.agg #[.slice A M.length cap], .int .u64 k] w' fun e w'' => ∃ A' cap', e = .returned (.agg #[.slice A' (remM M k).length cap']) ∧ Env w' [rowR A' cap' (remM M k)] w'') := Lib.hid fun w' h => without_r (by omega) (hr.below h) k
  have HA := Lib.hid hA
  generalize hdd : doR M 2 k v = RR
  have HD := Lib.hid hdd
  clear hr hA hdd
  go_enter Try.func10, Try.ntmps10
  have r0 := hF.rule 3 rfl
  have r1 := hF.rule 2 rfl
  go_wp2_with fail
  refine (CG.out _ hF.below).mono ?_
  rintro o w1 ⟨rfl, hb⟩
  replace hF := hF.over hb
  clear hb r0 r1
  have r0 := hF.rule 3 rfl
  have r1 := hF.rule 2 rfl
  have hZ0 := hF.lt 0 rfl
  go_upto_region 4 with fail
  replace hF := (hF.push w1.heap.size rfl [.slice A M.length cap] 32).push (w1.heap.size + 1) (by simp) [.int .i64 0, .bool false, .int .u64 0] 35
  clear r0 r1
  generalize World.alloc (World.alloc w1 _) _ = w2 at *
  generalize w1.heap.size = Z at *
  have rr1 := hF.rule 4 rfl
  have rr2 := hF.rule 0 rfl
  have ff3 := hF.thaw 0 rfl (by omega)
  go_upto_region 12 with fail
  clear rr1 rr2 ff3
  replace hF := hF.put (by omega) (by simp <;> omega) 1 (by simp) (.bool (lookM M k).2)
  generalize World.setCell _ _ _ = w21 at *
  replace hF : Fr w [((Z + 1), [.int .i64 0, .bool (lookM M k).2, .int .u64 0]), (Z, [.slice A M.length cap]), ((w.heap.size + 3), encA 0 false 0), ((w.heap.size + 2), [.slice none 0 0]), ((w.heap.size + 1), [.int .i64 2, .int .u64 k, .int .u64 v, .int .i64 lv]), (w.heap.size, [.slice A M.length cap])] w21 := hF
  have rr4 := hF.rule 5 rfl
  have rr5 := hF.rule 4 rfl
  go_wp2_with fail
  refine (CO.out _ hF.below).mono ?_
  rintro o w22 ⟨A9, c9, rfl, hE9⟩
  obtain ⟨hR9, hfr, hN9, hb4⟩ := of_row hE9
  have hz4 := hF.lt 0 rfl
  have hz5 := hF.below.size
  replace hF := hF.over hb4
  clear rr4 rr5
  have hAp9 : ∀ b off, A9 = some ⟨b, off, none⟩ → Z + 1 < b := fun b off e => by have := hfr b off e; omega
  have hFr9 : ∀ b off, A9 = some ⟨b, off, none⟩ → szOf w ≤ b := fun b off e => by have := hfr b off e; show w.heap.size ≤ b; omega
  clear hE9 hfr hb4
  have rr6 := hF.rule 1 rfl
  have ff7 := hF.thaw 1 rfl (by omega)
  go_upto_region 33 with fail
  clear rr6 ff7
  replace hF := hF.sub (bl' := [(Z, [.slice A M.length cap]), ((Z + 1), [.int .i64 0, .bool (lookM M k).2, .int .u64 0]), ((w.heap.size + 3), encA 0 false 0), ((w.heap.size + 2), [.slice none 0 0]), ((w.heap.size + 1), [.int .i64 2, .int .u64 k, .int .u64 v, .int .i64 lv]), (w.heap.size, [.slice A M.length cap])]) (by simp)
  replace hR9 := hR9.put (n := Z) (fun b off e => by have := hAp9 b off e; omega) 0 (.slice A9 (remM M k).length c9)
  replace hF := hF.put (by omega) (by simp <;> omega) 0 (by simp) (.slice A9 (remM M k).length c9)
  generalize World.setCell _ _ _ = w23 at *
  replace hF : Fr w [(Z, [.slice A9 (remM M k).length c9]), ((Z + 1), [.int .i64 0, .bool (lookM M k).2, .int .u64 0]), ((w.heap.size + 3), encA 0 false 0), ((w.heap.size + 2), [.slice none 0 0]), ((w.heap.size + 1), [.int .i64 2, .int .u64 k, .int .u64 v, .int .i64 lv]), (w.heap.size, [.slice A M.length cap])] w23 := hF
  have rr8 := hF.rule 0 rfl
  by_cases h16 : 16 < (remM M k).length
  case' pos =>
    have h16' : (16 : Int) < ((remM M k).length : Int) := by omega
    go_upto_region 34 with fail
    clear rr8
    apply wp_region_lit
    refine wpList_buildTo rfl 32 _ rfl (some 100) rfl [Value.slice none 0 0].toArray (by kernel_rfl) ?_
    refine wpList_buildTo rfl 35 _ rfl (some 101) rfl (encA 0 false 0).toArray (by kernel_rfl) ?_
    replace hF := hF.sub (bl' := [((w.heap.size + 2), [.slice none 0 0]), (Z, [.slice A9 (remM M k).length c9]), ((Z + 1), [.int .i64 0, .bool (lookM M k).2, .int .u64 0]), ((w.heap.size + 3), encA 0 false 0), ((w.heap.size + 1), [.int .i64 2, .int .u64 k, .int .u64 v, .int .i64 lv]), (w.heap.size, [.slice A M.length cap])]) (by simp)
    refine wpList_store_mid rfl 32 _ _ rfl (w.heap.size + 2) 0 [Value.slice none 0 0].toArray rfl rfl (hF.there 0 rfl (by omega) rfl) size32 (all_oneCell_toArray (fun v hv => by simp at hv; subst hv; rfl)) ?_
    replace hF := hF.whole (us := [.slice none 0 0]) (by omega) (by simp <;> omega) rfl
    generalize World.setCells _ _ _ _ = w8 at *
    replace hF := hF.sub (bl' := [((w.heap.size + 3), encA 0 false 0), ((w.heap.size + 2), [.slice none 0 0]), (Z, [.slice A9 (remM M k).length c9]), ((Z + 1), [.int .i64 0, .bool (lookM M k).2, .int .u64 0]), ((w.heap.size + 1), [.int .i64 2, .int .u64 k, .int .u64 v, .int .i64 lv]), (w.heap.size, [.slice A M.length cap])]) (by simp)
    refine wpList_store_mid rfl 35 _ _ rfl (w.heap.size + 3) 0 (encA 0 false 0).toArray rfl rfl (hF.there 0 rfl (by omega) rfl) size35 (all_oneCell_toArray (encA_one _ _ _)) ?_
    replace hF := hF.whole (us := encA 0 false 0) (by omega) (by simp <;> omega) rfl
    generalize World.setCells _ _ _ _ = w8 at *
    go_wp2_with fail
    have e9 : doR M 2 k v = ⟨[], false, 0, 6⟩ := by unfold doR; rw [if_pos (by omega), if_pos (by simpa [nextR] using h16)]
    rw [HD.out] at e9
    subst e9
    exact bodyPost_ret (res_cct rfl _ _ (w.heap.size + 2) (w.heap.size + 3) rfl rfl _ _ _ _ (hF.range 1 rfl) (hF.range 0 rfl) und32 rfl size32 und35 rfl size35) rfl ⟨none, 0, rfl, .inl rfl, fun _ => rfl, .inr (fun b off h => (by cases h)), hF.below⟩
  case' neg =>
    have h16' : ¬ ((16 : Int) < ((remM M k).length : Int)) := by omega
    go_upto_region 35 with fail
    clear rr8
    have hG := hF.sub (bl' := [((w.heap.size + 2), [.slice none 0 0]), ((w.heap.size + 3), encA 0 false 0)]) (by simp)
    have hK := hF.sub (bl' := [(Z, [.slice A9 (remM M k).length c9]), ((Z + 1), encA 0 (lookM M k).2 0)]) (by simp [encA])
    have STEP1 : Hid (∀ w5, Fr w [((w.heap.size + 2), [.slice none 0 0]), ((w.heap.size + 3), encA 0 false 0)] w5 → Fr w [((w.heap.size + 2), [.slice A9 (remM M k).length c9]), ((w.heap.size + 3), encA 0 false 0)] (w5.setCells (w.heap.size + 2) 0 [.slice A9 (remM M k).length c9])) := Lib.hid fun w5 h => h.whole (by omega) (by simp) rfl
    have STEP2 : Hid (∀ w5, Fr w [((w.heap.size + 2), [.slice A9 (remM M k).length c9]), ((w.heap.size + 3), encA 0 false 0)] w5 → Fr w [((w.heap.size + 2), [.slice A9 (remM M k).length c9]), ((w.heap.size + 3), encA 0 (lookM M k).2 0)] (w5.setCells (w.heap.size + 3) 0 (encA 0 (lookM M k).2 0))) := Lib.hid fun w5 h => by
      have h2 := (h.sub (bl' := [((w.heap.size + 3), encA 0 false 0), ((w.heap.size + 2), [.slice A9 (remM M k).length c9])]) (by simp)).whole (us := encA 0 (lookM M k).2 0) (by omega) (by simp) rfl
      exact h2.sub (by simp)
    have STEP3 : Hid (∀ (w5 : World) (n : Nat) (us : List Value), w.heap.size + 2 ≤ n → n ≤ w.heap.size + 3 → Fr w [(Z, [.slice A9 (remM M k).length c9]), ((Z + 1), encA 0 (lookM M k).2 0)] w5 ∧ RowX encP 2 w5 A9 (remM M k) → Fr w [(Z, [.slice A9 (remM M k).length c9]), ((Z + 1), encA 0 (lookM M k).2 0)] (w5.setCells n 0 us) ∧ RowX encP 2 (w5.setCells n 0 us) A9 (remM M k)) := Lib.hid fun w5 n us h1 h2 h => ⟨h.1.apart (by omega) (by simp; omega) us 0, h.2.putsAp (fun b off e => by have := hAp9 b off e; omega) us 0⟩
    refine Ord.wp_chain [2, 3] (fun w' => Fr w [(Z, [.slice A9 (remM M k).length c9]), ((Z + 1), encA 0 (lookM M k).2 0)] w' ∧ RowX encP 2 w' A9 (remM M k)) (fun j w' => Fr w [((w.heap.size + 2), if j = 0 then [.slice none 0 0] else [.slice A9 (remM M k).length c9]), ((w.heap.size + 3), if j < 2 then encA 0 false 0 else encA 0 (lookM M k).2 0)] w') (by kernel_rfl) (by kernel_rfl) (by kernel_rfl) ⟨hK.drew, hR9⟩ (by rw [if_pos rfl, if_pos (by omega)]; exact hG.drew) (fun hT => ?_)
    have hT9 := Lib.hid hT
    clear hT
    refine Ord.ch_value (v := .agg [.slice A9 (remM M k).length c9].toArray) hT9.out (by decide) (by rfl) (fun w5 hS => exec_load w5 32 _ rfl Z rfl [.slice A9 (remM M k).length c9] _ (hS.1.range 0 rfl) und32 rfl size32) ?_
    (try simp only [Act.put, List.setIfInBounds_toArray, List.set_cons_zero, List.set_cons_succ])
    refine Ord.ch_value (v := .agg (encA 0 (lookM M k).2 0).toArray) hT9.out (by decide) (by rfl) (fun w5 hS => exec_load w5 35 _ rfl (Z + 1) rfl (encA 0 (lookM M k).2 0) _ (hS.1.range 1 rfl) und35 rfl size35) ?_
    (try simp only [Act.put, List.setIfInBounds_toArray, List.set_cons_zero, List.set_cons_succ])
    refine Ord.ch_turn (v := undef) 0 hT9.out rfl (by decide) (Or.inl rfl) (by rfl) ?_ ?_
    · rintro w5 hC5 hA5
      rw [if_pos rfl, if_pos (by omega)] at hA5
      rw [exec_store w5 32 _ _ rfl (w.heap.size + 2) [.slice A9 (remM M k).length c9] rfl rfl (hA5.there 0 rfl (by omega) rfl) size32 (fun v hv => by simp at hv; subst hv; rfl)]
      exact ⟨rfl, STEP3.out _ _ _ (by omega) (by omega) hC5, STEP1.out _ hA5⟩
    (try simp only [Act.put, List.setIfInBounds_toArray, List.set_cons_zero, List.set_cons_succ])
    refine Ord.ch_turn (v := undef) 1 hT9.out rfl (by decide) (Or.inr ⟨2, rfl, by kernel_rfl⟩) (by rfl) ?_ ?_
    · rintro w5 hC5 hA5
      rw [exec_store w5 35 _ _ rfl (w.heap.size + 3) (encA 0 (lookM M k).2 0) rfl rfl (hA5.there 1 rfl (by omega) rfl) size35 (encA_one _ _ _)]
      exact ⟨rfl, STEP3.out _ _ _ (by omega) (by omega) hC5, STEP2.out _ hA5⟩
    (try simp only [Act.put, List.setIfInBounds_toArray, List.set_cons_zero, List.set_cons_succ])
    repeat (first
      | (refine Ord.ch_value (v := ?_) hT9.out (by decide) (by rfl) ?_ ?_; rotate_left; (focus (intro w5 hS; skip; go_simp <;> with_reducible rfl)); (try simp only [Act.put, List.setIfInBounds_toArray, List.set_cons_zero, List.set_cons_succ]))
      | (refine Ord.ch_off hT9.out (by decide) (by rfl) ?_; (try simp only [Act.put, List.setIfInBounds_toArray, List.set_cons_zero, List.set_cons_succ])))
    refine Ord.InText.nil fun w5 hS => ?_
    clear hT9
    obtain ⟨hC9, hG9⟩ := Ord.chain_end hS
    clear hS
    have hG9' : Fr w [((w.heap.size + 2), [.slice A9 (remM M k).length c9]), ((w.heap.size + 3), encA 0 (lookM M k).2 0)] w5 := hG9
    go_wp2_with fail
    have e9 : doR M 2 k v = ⟨remM M k, (lookM M k).2, 0, 0⟩ := by unfold doR; rw [if_pos (by omega), if_neg (by simpa [nextR] using h16)]; simp [nextR, ansD, ansV]
    rw [HD.out] at e9
    subst e9
    exact bodyPost_ret (res_cct rfl _ _ (w.heap.size + 2) (w.heap.size + 3) rfl rfl _ _ _ _ (hG9'.range 0 rfl) (hG9'.range 1 rfl) und32 rfl size32 und35 rfl size35) rfl ⟨A9, c9, rfl, hC9.2, hN9, .inr hFr9, hG9'.below⟩
set_option maxHeartbeats 8000000 in
theorem doR3 {A : Option Addr} {cap : Nat} {M : List (Int × Int)} {w : World} (hm : M.length ≤ 100000) (hr : RowX encP 2 w A M) (hA : A = none → M = []) (k v lv : Int) :
    Calls Try.prog 10 #[.agg #[.slice A M.length cap], .agg #[.int .i64 3, .int .u64 k, .int .u64 v, .int .i64 lv]] w (DoPost w A (doR M 3 k v)) := by
  have hF := ((((Fr.start w).push w.heap.size rfl [.slice A M.length cap] 32).push (w.heap.size + 1) (by simp) [.int .i64 3, .int .u64 k, .int .u64 v, .int .i64 lv] 39).push (w.heap.size + 2) (by simp) [.slice none 0 0] 32).push (w.heap.size + 3) (by simp) (encA 0 false 0) 35
  have HRR := Lib.hid hr
  have CG : Hid (∀ w', Below w.heap.size w w' → Calls Try.prog 12 #[.agg #[.slice A M.length cap], .int .u64 k] w' fun e w'' => e = .returned (.tuple #[.int .u64 (lookM M k).1, .bool (lookM M k).2]) ∧ Below w'.heap.size w' w'') := Lib.hid fun w' h => get_r (by omega) (hr.below h) k
  have CW : Hid (∀ w' y, Below w.heap.size w w' → Calls Try.prog 15 #[.agg #[.slice A M.length cap], .agg #[.int .u64 k, .int .u64 y]] w' fun e w'' => ∃ A' cap', e = .returned (.agg #[.slice A' (putM M k y).length cap']) ∧ Env w' [rowR A' cap' (putM M k y)] w'') := Lib.hid fun w' y h => with_r (by omega) (hr.below h) k y
  have CO : Hid (∀ w', Below w.heap.size w w' → Calls Try.prog 19 #[.agg #[.slice A M.length cap], .int .u64 k] w' fun e w'' => ∃ A' cap', e = .returned (.agg #[.slice A' (remM M k).length cap']) ∧ Env w' [rowR A' cap' (remM M k)] w'') := Lib.hid fun w' h => without_r (by omega) (hr.below h) k
  have HA := Lib.hid hA
  generalize hdd : doR M 3 k v = RR
  have HD := Lib.hid hdd
  clear hr hA hdd
  go_enter Try.func10, Try.ntmps10
  have r0 := hF.rule 3 rfl
  have r1 := hF.rule 2 rfl
  go_wp2_with fail
  refine (CG.out _ hF.below).mono ?_
  rintro o w1 ⟨rfl, hb⟩
  replace hF := hF.over hb
  clear hb r0 r1
  have r0 := hF.rule 3 rfl
  have r1 := hF.rule 2 rfl
  have hZ0 := hF.lt 0 rfl
  go_upto_region 4 with fail
  replace hF := (hF.push w1.heap.size rfl [.slice A M.length cap] 32).push (w1.heap.size + 1) (by simp) [.int .i64 0, .bool false, .int .u64 0] 35
  clear r0 r1
  generalize World.alloc (World.alloc w1 _) _ = w2 at *
  generalize w1.heap.size = Z at *
  have rr1 := hF.rule 4 rfl
  have rr2 := hF.rule 0 rfl
  have ff3 := hF.thaw 0 rfl (by omega)
  go_upto_region 33 with fail
  clear rr1 rr2 ff3
  replace hF := hF.put (by omega) (by simp <;> omega) 1 (by simp) (.bool (lookM M k).2)
  generalize World.setCell _ _ _ = w21 at *
  replace hF : Fr w [((Z + 1), [.int .i64 0, .bool (lookM M k).2, .int .u64 0]), (Z, [.slice A M.length cap]), ((w.heap.size + 3), encA 0 false 0), ((w.heap.size + 2), [.slice none 0 0]), ((w.heap.size + 1), [.int .i64 3, .int .u64 k, .int .u64 v, .int .i64 lv]), (w.heap.size, [.slice A M.length cap])] w21 := hF
  have hR9 := HRR.out.below hF.below
  have hN9 := HA.out
  have rr4 := hF.rule 1 rfl
  by_cases h16 : 16 < (M).length
  case' pos =>
    have h16' : (16 : Int) < ((M).length : Int) := by omega
    go_upto_region 34 with fail
    clear rr4
    apply wp_region_lit
    refine wpList_buildTo rfl 32 _ rfl (some 100) rfl [Value.slice none 0 0].toArray (by kernel_rfl) ?_
    refine wpList_buildTo rfl 35 _ rfl (some 101) rfl (encA 0 false 0).toArray (by kernel_rfl) ?_
    replace hF := hF.sub (bl' := [((w.heap.size + 2), [.slice none 0 0]), ((Z + 1), [.int .i64 0, .bool (lookM M k).2, .int .u64 0]), (Z, [.slice A M.length cap]), ((w.heap.size + 3), encA 0 false 0), ((w.heap.size + 1), [.int .i64 3, .int .u64 k, .int .u64 v, .int .i64 lv]), (w.heap.size, [.slice A M.length cap])]) (by simp)
    refine wpList_store_mid rfl 32 _ _ rfl (w.heap.size + 2) 0 [Value.slice none 0 0].toArray rfl rfl (hF.there 0 rfl (by omega) rfl) size32 (all_oneCell_toArray (fun v hv => by simp at hv; subst hv; rfl)) ?_
    replace hF := hF.whole (us := [.slice none 0 0]) (by omega) (by simp <;> omega) rfl
    generalize World.setCells _ _ _ _ = w8 at *
    replace hF := hF.sub (bl' := [((w.heap.size + 3), encA 0 false 0), ((w.heap.size + 2), [.slice none 0 0]), ((Z + 1), [.int .i64 0, .bool (lookM M k).2, .int .u64 0]), (Z, [.slice A M.length cap]), ((w.heap.size + 1), [.int .i64 3, .int .u64 k, .int .u64 v, .int .i64 lv]), (w.heap.size, [.slice A M.length cap])]) (by simp)
    refine wpList_store_mid rfl 35 _ _ rfl (w.heap.size + 3) 0 (encA 0 false 0).toArray rfl rfl (hF.there 0 rfl (by omega) rfl) size35 (all_oneCell_toArray (encA_one _ _ _)) ?_
    replace hF := hF.whole (us := encA 0 false 0) (by omega) (by simp <;> omega) rfl
    generalize World.setCells _ _ _ _ = w8 at *
    go_wp2_with fail
    have e9 : doR M 3 k v = ⟨[], false, 0, 6⟩ := by unfold doR; rw [if_pos (by omega), if_pos (by simpa [nextR] using h16)]
    rw [HD.out] at e9
    subst e9
    exact bodyPost_ret (res_cct rfl _ _ (w.heap.size + 2) (w.heap.size + 3) rfl rfl _ _ _ _ (hF.range 1 rfl) (hF.range 0 rfl) und32 rfl size32 und35 rfl size35) rfl ⟨none, 0, rfl, .inl rfl, fun _ => rfl, .inr (fun b off h => (by cases h)), hF.below⟩
  case' neg =>
    have h16' : ¬ ((16 : Int) < ((M).length : Int)) := by omega
    go_upto_region 35 with fail
    clear rr4
    have hG := hF.sub (bl' := [((w.heap.size + 2), [.slice none 0 0]), ((w.heap.size + 3), encA 0 false 0)]) (by simp)
    have hK := hF.sub (bl' := [(Z, [.slice A M.length cap]), ((Z + 1), encA 0 (lookM M k).2 0)]) (by simp [encA])
    have STEP1 : Hid (∀ w5, Fr w [((w.heap.size + 2), [.slice none 0 0]), ((w.heap.size + 3), encA 0 false 0)] w5 → Fr w [((w.heap.size + 2), [.slice A M.length cap]), ((w.heap.size + 3), encA 0 false 0)] (w5.setCells (w.heap.size + 2) 0 [.slice A M.length cap])) := Lib.hid fun w5 h => h.whole (by omega) (by simp) rfl
    have STEP2 : Hid (∀ w5, Fr w [((w.heap.size + 2), [.slice A M.length cap]), ((w.heap.size + 3), encA 0 false 0)] w5 → Fr w [((w.heap.size + 2), [.slice A M.length cap]), ((w.heap.size + 3), encA 0 (lookM M k).2 0)] (w5.setCells (w.heap.size + 3) 0 (encA 0 (lookM M k).2 0))) := Lib.hid fun w5 h => by
      have h2 := (h.sub (bl' := [((w.heap.size + 3), encA 0 false 0), ((w.heap.size + 2), [.slice A M.length cap])]) (by simp)).whole (us := encA 0 (lookM M k).2 0) (by omega) (by simp) rfl
      exact h2.sub (by simp)
    have STEP3 : Hid (∀ (w5 : World) (n : Nat) (us : List Value), w.heap.size + 2 ≤ n → n ≤ w.heap.size + 3 → Fr w [(Z, [.slice A M.length cap]), ((Z + 1), encA 0 (lookM M k).2 0)] w5 ∧ RowX encP 2 w5 A (M) → Fr w [(Z, [.slice A M.length cap]), ((Z + 1), encA 0 (lookM M k).2 0)] (w5.setCells n 0 us) ∧ RowX encP 2 (w5.setCells n 0 us) A (M)) := Lib.hid fun w5 n us h1 h2 h => ⟨h.1.apart (by omega) (by simp; omega) us 0, HRR.out.below (h.1.apart (n := n) (by omega) (by simp; omega) us 0).below⟩
    refine Ord.wp_chain [2, 3] (fun w' => Fr w [(Z, [.slice A M.length cap]), ((Z + 1), encA 0 (lookM M k).2 0)] w' ∧ RowX encP 2 w' A (M)) (fun j w' => Fr w [((w.heap.size + 2), if j = 0 then [.slice none 0 0] else [.slice A M.length cap]), ((w.heap.size + 3), if j < 2 then encA 0 false 0 else encA 0 (lookM M k).2 0)] w') (by kernel_rfl) (by kernel_rfl) (by kernel_rfl) ⟨hK.drew, hR9⟩ (by rw [if_pos rfl, if_pos (by omega)]; exact hG.drew) (fun hT => ?_)
    have hT9 := Lib.hid hT
    clear hT
    refine Ord.ch_value (v := .agg [.slice A M.length cap].toArray) hT9.out (by decide) (by rfl) (fun w5 hS => exec_load w5 32 _ rfl Z rfl [.slice A M.length cap] _ (hS.1.range 0 rfl) und32 rfl size32) ?_
    (try simp only [Act.put, List.setIfInBounds_toArray, List.set_cons_zero, List.set_cons_succ])
    refine Ord.ch_value (v := .agg (encA 0 (lookM M k).2 0).toArray) hT9.out (by decide) (by rfl) (fun w5 hS => exec_load w5 35 _ rfl (Z + 1) rfl (encA 0 (lookM M k).2 0) _ (hS.1.range 1 rfl) und35 rfl size35) ?_
    (try simp only [Act.put, List.setIfInBounds_toArray, List.set_cons_zero, List.set_cons_succ])
    refine Ord.ch_turn (v := undef) 0 hT9.out rfl (by decide) (Or.inl rfl) (by rfl) ?_ ?_
    · rintro w5 hC5 hA5
      rw [if_pos rfl, if_pos (by omega)] at hA5
      rw [exec_store w5 32 _ _ rfl (w.heap.size + 2) [.slice A M.length cap] rfl rfl (hA5.there 0 rfl (by omega) rfl) size32 (fun v hv => by simp at hv; subst hv; rfl)]
      exact ⟨rfl, STEP3.out _ _ _ (by omega) (by omega) hC5, STEP1.out _ hA5⟩
    (try simp only [Act.put, List.setIfInBounds_toArray, List.set_cons_zero, List.set_cons_succ])
    refine Ord.ch_turn (v := undef) 1 hT9.out rfl (by decide) (Or.inr ⟨2, rfl, by kernel_rfl⟩) (by rfl) ?_ ?_
    · rintro w5 hC5 hA5
      rw [exec_store w5 35 _ _ rfl (w.heap.size + 3) (encA 0 (lookM M k).2 0) rfl rfl (hA5.there 1 rfl (by omega) rfl) size35 (encA_one _ _ _)]
      exact ⟨rfl, STEP3.out _ _ _ (by omega) (by omega) hC5, STEP2.out _ hA5⟩
    (try simp only [Act.put, List.setIfInBounds_toArray, List.set_cons_zero, List.set_cons_succ])
    repeat (first
      | (refine Ord.ch_value (v := ?_) hT9.out (by decide) (by rfl) ?_ ?_; rotate_left; (focus (intro w5 hS; skip; go_simp <;> with_reducible rfl)); (try simp only [Act.put, List.setIfInBounds_toArray, List.set_cons_zero, List.set_cons_succ]))
      | (refine Ord.ch_off hT9.out (by decide) (by rfl) ?_; (try simp only [Act.put, List.setIfInBounds_toArray, List.set_cons_zero, List.set_cons_succ])))
    refine Ord.InText.nil fun w5 hS => ?_
    clear hT9
    obtain ⟨hC9, hG9⟩ := Ord.chain_end hS
    clear hS
    have hG9' : Fr w [((w.heap.size + 2), [.slice A M.length cap]), ((w.heap.size + 3), encA 0 (lookM M k).2 0)] w5 := hG9
    go_wp2_with fail
    have e9 : doR M 3 k v = ⟨M, (lookM M k).2, 0, 0⟩ := by unfold doR; rw [if_pos (by omega), if_neg (by simpa [nextR] using h16)]; simp [nextR, ansD, ansV]
    rw [HD.out] at e9
    subst e9
    exact bodyPost_ret (res_cct rfl _ _ (w.heap.size + 2) (w.heap.size + 3) rfl rfl _ _ _ _ (hG9'.range 0 rfl) (hG9'.range 1 rfl) und32 rfl size32 und35 rfl size35) rfl ⟨A, cap, rfl, hC9.2, hN9, .inl rfl, hG9'.below⟩
set_option maxHeartbeats 8000000 in
theorem doR4 {A : Option Addr} {cap : Nat} {M : List (Int × Int)} {w : World} (hm : M.length ≤ 100000) (hr : RowX encP 2 w A M) (hA : A = none → M = []) (k v lv : Int) :
    Calls Try.prog 10 #[.agg #[.slice A M.length cap], .agg #[.int .i64 4, .int .u64 k, .int .u64 v, .int .i64 lv]] w (DoPost w A (doR M 4 k v)) := by
  have hF := ((((Fr.start w).push w.heap.size rfl [.slice A M.length cap] 32).push (w.heap.size + 1) (by simp) [.int .i64 4, .int .u64 k, .int .u64 v, .int .i64 lv] 39).push (w.heap.size + 2) (by simp) [.slice none 0 0] 32).push (w.heap.size + 3) (by simp) (encA 0 false 0) 35
  have HRR := Lib.hid hr
  have CG : Hid (∀ w', Below w.heap.size w w' → Calls Try.prog 12 #[.agg #[.slice A M.length cap], .int .u64 k] w' fun e w'' => e = .returned (.tuple #[.int .u64 (lookM M k).1, .bool (lookM M k).2]) ∧ Below w'.heap.size w' w'') := Lib.hid fun w' h => get_r (by omega) (hr.below h) k
  have CW : Hid (∀ w' y, Below w.heap.size w w' → Calls Try.prog 15 #[.agg #[.slice A M.length cap], .agg #[.int .u64 k, .int .u64 y]] w' fun e w'' => ∃ A' cap', e = .returned (.agg #[.slice A' (putM M k y).length cap']) ∧ Env w' [rowR A' cap' (putM M k y)] w'') := Lib.hid fun w' y h => with_r (by omega) (hr.below h) k y
  have CO : Hid (∀ w', Below w.heap.size w w' → Calls Try.prog 19 #[.agg #[.slice A M.length cap], .int .u64 k] w' fun e w'' => ∃ A' cap', e = .returned (.agg #[.slice A' (remM M k).length cap']) ∧ Env w' [rowR A' cap' (remM M k)] w'') := Lib.hid fun w' h => without_r (by omega) (hr.below h) k
  have HA := Lib.hid hA
  generalize hdd : doR M 4 k v = RR
  have HD := Lib.hid hdd
  clear hr hA hdd
  go_enter Try.func10, Try.ntmps10
  have r0 := hF.rule 3 rfl
  have r1 := hF.rule 2 rfl
  go_wp2_with fail
  refine (CG.out _ hF.below).mono ?_
  rintro o w1 ⟨rfl, hb⟩
  replace hF := hF.over hb
  clear hb r0 r1
  have r0 := hF.rule 3 rfl
  have r1 := hF.rule 2 rfl
  have hZ0 := hF.lt 0 rfl
  go_upto_region 4 with fail
  replace hF := (hF.push w1.heap.size rfl [.slice A M.length cap] 32).push (w1.heap.size + 1) (by simp) [.int .i64 0, .bool false, .int .u64 0] 35
  clear r0 r1
  generalize World.alloc (World.alloc w1 _) _ = w2 at *
  generalize w1.heap.size = Z at *
  have rr1 := hF.rule 4 rfl
  have rr2 := hF.rule 0 rfl
  have ff3 := hF.thaw 0 rfl (by omega)
  go_upto_region 17 with fail
  clear rr1 rr2 ff3
  replace hF := hF.put (by omega) (by simp <;> omega) 1 (by simp) (.bool (lookM M k).2)
  generalize World.setCell _ _ _ = w21 at *
  replace hF : Fr w [((Z + 1), [.int .i64 0, .bool (lookM M k).2, .int .u64 0]), (Z, [.slice A M.length cap]), ((w.heap.size + 3), encA 0 false 0), ((w.heap.size + 2), [.slice none 0 0]), ((w.heap.size + 1), [.int .i64 4, .int .u64 k, .int .u64 v, .int .i64 lv]), (w.heap.size, [.slice A M.length cap])] w21 := hF
  have rr4 := hF.rule 4 rfl
  have rr5 := hF.rule 0 rfl
  have ff6 := hF.thaw 0 rfl (by omega)
  go_upto_region 18 with fail
  clear rr4 rr5 ff6
  replace hF := hF.put (by omega) (by simp <;> omega) 2 (by simp) (.int .u64 (lookM M k).1)
  generalize World.setCell _ _ _ = w22 at *
  replace hF : Fr w [((Z + 1), [.int .i64 0, .bool (lookM M k).2, .int .u64 (lookM M k).1]), (Z, [.slice A M.length cap]), ((w.heap.size + 3), encA 0 false 0), ((w.heap.size + 2), [.slice none 0 0]), ((w.heap.size + 1), [.int .i64 4, .int .u64 k, .int .u64 v, .int .i64 lv]), (w.heap.size, [.slice A M.length cap])] w22 := hF
  have rr7 := hF.rule 5 rfl
  have rr8 := hF.rule 4 rfl
  go_wp2_with fail
  refine (CW.out _ v hF.below).mono ?_
  rintro o w23 ⟨A9, c9, rfl, hE9⟩
  obtain ⟨hR9, hfr, hN9, hb4⟩ := of_row hE9
  have hz4 := hF.lt 0 rfl
  have hz5 := hF.below.size
  replace hF := hF.over hb4
  clear rr7 rr8
  have hAp9 : ∀ b off, A9 = some ⟨b, off, none⟩ → Z + 1 < b := fun b off e => by have := hfr b off e; omega
  have hFr9 : ∀ b off, A9 = some ⟨b, off, none⟩ → szOf w ≤ b := fun b off e => by have := hfr b off e; show w.heap.size ≤ b; omega
  clear hE9 hfr hb4
  have rr9 := hF.rule 1 rfl
  have ff10 := hF.thaw 1 rfl (by omega)
  go_upto_region 33 with fail
  clear rr9 ff10
  replace hF := hF.sub (bl' := [(Z, [.slice A M.length cap]), ((Z + 1), [.int .i64 0, .bool (lookM M k).2, .int .u64 (lookM M k).1]), ((w.heap.size + 3), encA 0 false 0), ((w.heap.size + 2), [.slice none 0 0]), ((w.heap.size + 1), [.int .i64 4, .int .u64 k, .int .u64 v, .int .i64 lv]), (w.heap.size, [.slice A M.length cap])]) (by simp)
  replace hR9 := hR9.put (n := Z) (fun b off e => by have := hAp9 b off e; omega) 0 (.slice A9 (putM M k v).length c9)
  replace hF := hF.put (by omega) (by simp <;> omega) 0 (by simp) (.slice A9 (putM M k v).length c9)
  generalize World.setCell _ _ _ = w24 at *
  replace hF : Fr w [(Z, [.slice A9 (putM M k v).length c9]), ((Z + 1), [.int .i64 0, .bool (lookM M k).2, .int .u64 (lookM M k).1]), ((w.heap.size + 3), encA 0 false 0), ((w.heap.size + 2), [.slice none 0 0]), ((w.heap.size + 1), [.int .i64 4, .int .u64 k, .int .u64 v, .int .i64 lv]), (w.heap.size, [.slice A M.length cap])] w24 := hF
  have rr11 := hF.rule 0 rfl
  by_cases h16 : 16 < (putM M k v).length
  case' pos =>
    have h16' : (16 : Int) < ((putM M k v).length : Int) := by omega
    go_upto_region 34 with fail
    clear rr11
    apply wp_region_lit
    refine wpList_buildTo rfl 32 _ rfl (some 100) rfl [Value.slice none 0 0].toArray (by kernel_rfl) ?_
    refine wpList_buildTo rfl 35 _ rfl (some 101) rfl (encA 0 false 0).toArray (by kernel_rfl) ?_
    replace hF := hF.sub (bl' := [((w.heap.size + 2), [.slice none 0 0]), (Z, [.slice A9 (putM M k v).length c9]), ((Z + 1), [.int .i64 0, .bool (lookM M k).2, .int .u64 (lookM M k).1]), ((w.heap.size + 3), encA 0 false 0), ((w.heap.size + 1), [.int .i64 4, .int .u64 k, .int .u64 v, .int .i64 lv]), (w.heap.size, [.slice A M.length cap])]) (by simp)
    refine wpList_store_mid rfl 32 _ _ rfl (w.heap.size + 2) 0 [Value.slice none 0 0].toArray rfl rfl (hF.there 0 rfl (by omega) rfl) size32 (all_oneCell_toArray (fun v hv => by simp at hv; subst hv; rfl)) ?_
    replace hF := hF.whole (us := [.slice none 0 0]) (by omega) (by simp <;> omega) rfl
    generalize World.setCells _ _ _ _ = w8 at *
    replace hF := hF.sub (bl' := [((w.heap.size + 3), encA 0 false 0), ((w.heap.size + 2), [.slice none 0 0]), (Z, [.slice A9 (putM M k v).length c9]), ((Z + 1), [.int .i64 0, .bool (lookM M k).2, .int .u64 (lookM M k).1]), ((w.heap.size + 1), [.int .i64 4, .int .u64 k, .int .u64 v, .int .i64 lv]), (w.heap.size, [.slice A M.length cap])]) (by simp)
    refine wpList_store_mid rfl 35 _ _ rfl (w.heap.size + 3) 0 (encA 0 false 0).toArray rfl rfl (hF.there 0 rfl (by omega) rfl) size35 (all_oneCell_toArray (encA_one _ _ _)) ?_
    replace hF := hF.whole (us := encA 0 false 0) (by omega) (by simp <;> omega) rfl
    generalize World.setCells _ _ _ _ = w8 at *
    go_wp2_with fail
    have e9 : doR M 4 k v = ⟨[], false, 0, 6⟩ := by unfold doR; rw [if_pos (by omega), if_pos (by simpa [nextR] using h16)]
    rw [HD.out] at e9
    subst e9
    exact bodyPost_ret (res_cct rfl _ _ (w.heap.size + 2) (w.heap.size + 3) rfl rfl _ _ _ _ (hF.range 1 rfl) (hF.range 0 rfl) und32 rfl size32 und35 rfl size35) rfl ⟨none, 0, rfl, .inl rfl, fun _ => rfl, .inr (fun b off h => (by cases h)), hF.below⟩
  case' neg =>
    have h16' : ¬ ((16 : Int) < ((putM M k v).length : Int)) := by omega
    go_upto_region 35 with fail
    clear rr11
    have hG := hF.sub (bl' := [((w.heap.size + 2), [.slice none 0 0]), ((w.heap.size + 3), encA 0 false 0)]) (by simp)
    have hK := hF.sub (bl' := [(Z, [.slice A9 (putM M k v).length c9]), ((Z + 1), encA 0 (lookM M k).2 (lookM M k).1)]) (by simp [encA])
    have STEP1 : Hid (∀ w5, Fr w [((w.heap.size + 2), [.slice none 0 0]), ((w.heap.size + 3), encA 0 false 0)] w5 → Fr w [((w.heap.size + 2), [.slice A9 (putM M k v).length c9]), ((w.heap.size + 3), encA 0 false 0)] (w5.setCells (w.heap.size + 2) 0 [.slice A9 (putM M k v).length c9])) := Lib.hid fun w5 h => h.whole (by omega) (by simp) rfl
    have STEP2 : Hid (∀ w5, Fr w [((w.heap.size + 2), [.slice A9 (putM M k v).length c9]), ((w.heap.size + 3), encA 0 false 0)] w5 → Fr w [((w.heap.size + 2), [.slice A9 (putM M k v).length c9]), ((w.heap.size + 3), encA 0 (lookM M k).2 (lookM M k).1)] (w5.setCells (w.heap.size + 3) 0 (encA 0 (lookM M k).2 (lookM M k).1))) := Lib.hid fun w5 h => by
      have h2 := (h.sub (bl' := [((w.heap.size + 3), encA 0 false 0), ((w.heap.size + 2), [.slice A9 (putM M k v).length c9])]) (by simp)).whole (us := encA 0 (lookM M k).2 (lookM M k).1) (by omega) (by simp) rfl
      exact h2.sub (by simp)
    have STEP3 : Hid (∀ (w5 : World) (n : Nat) (us : List Value), w.heap.size + 2 ≤ n → n ≤ w.heap.size + 3 → Fr w [(Z, [.slice A9 (putM M k v).length c9]), ((Z + 1), encA 0 (lookM M k).2 (lookM M k).1)] w5 ∧ RowX encP 2 w5 A9 (putM M k v) → Fr w [(Z, [.slice A9 (putM M k v).length c9]), ((Z + 1), encA 0 (lookM M k).2 (lookM M k).1)] (w5.setCells n 0 us) ∧ RowX encP 2 (w5.setCells n 0 us) A9 (putM M k v)) := Lib.hid fun w5 n us h1 h2 h => ⟨h.1.apart (by omega) (by simp; omega) us 0, h.2.putsAp (fun b off e => by have := hAp9 b off e; omega) us 0⟩
    refine Ord.wp_chain [2, 3] (fun w' => Fr w [(Z, [.slice A9 (putM M k v).length c9]), ((Z + 1), encA 0 (lookM M k).2 (lookM M k).1)] w' ∧ RowX encP 2 w' A9 (putM M k v)) (fun j w' => Fr w [((w.heap.size + 2), if j = 0 then [.slice none 0 0] else [.slice A9 (putM M k v).length c9]), ((w.heap.size + 3), if j < 2 then encA 0 false 0 else encA 0 (lookM M k).2 (lookM M k).1)] w') (by kernel_rfl) (by kernel_rfl) (by kernel_rfl) ⟨hK.drew, hR9⟩ (by rw [if_pos rfl, if_pos (by omega)]; exact hG.drew) (fun hT => ?_)
    have hT9 := Lib.hid hT
    clear hT
    refine Ord.ch_value (v := .agg [.slice A9 (putM M k v).length c9].toArray) hT9.out (by decide) (by rfl) (fun w5 hS => exec_load w5 32 _ rfl Z rfl [.slice A9 (putM M k v).length c9] _ (hS.1.range 0 rfl) und32 rfl size32) ?_
    (try simp only [Act.put, List.setIfInBounds_toArray, List.set_cons_zero, List.set_cons_succ])
    refine Ord.ch_value (v := .agg (encA 0 (lookM M k).2 (lookM M k).1).toArray) hT9.out (by decide) (by rfl) (fun w5 hS => exec_load w5 35 _ rfl (Z + 1) rfl (encA 0 (lookM M k).2 (lookM M k).1) _ (hS.1.range 1 rfl) und35 rfl size35) ?_
    (try simp only [Act.put, List.setIfInBounds_toArray, List.set_cons_zero, List.set_cons_succ])
    refine Ord.ch_turn (v := undef) 0 hT9.out rfl (by decide) (Or.inl rfl) (by rfl) ?_ ?_
    · rintro w5 hC5 hA5
      rw [if_pos rfl, if_pos (by omega)] at hA5
      rw [exec_store w5 32 _ _ rfl (w.heap.size + 2) [.slice A9 (putM M k v).length c9] rfl rfl (hA5.there 0 rfl (by omega) rfl) size32 (fun v hv => by simp at hv; subst hv; rfl)]
      exact ⟨rfl, STEP3.out _ _ _ (by omega) (by omega) hC5, STEP1.out _ hA5⟩
    (try simp only [Act.put, List.setIfInBounds_toArray, List.set_cons_zero, List.set_cons_succ])
    refine Ord.ch_turn (v := undef) 1 hT9.out rfl (by decide) (Or.inr ⟨2, rfl, by kernel_rfl⟩) (by rfl) ?_ ?_
    · rintro w5 hC5 hA5
      rw [exec_store w5 35 _ _ rfl (w.heap.size + 3) (encA 0 (lookM M k).2 (lookM M k).1) rfl rfl (hA5.there 1 rfl (by omega) rfl) size35 (encA_one _ _ _)]
      exact ⟨rfl, STEP3.out _ _ _ (by omega) (by omega) hC5, STEP2.out _ hA5⟩
    (try simp only [Act.put, List.setIfInBounds_toArray, List.set_cons_zero, List.set_cons_succ])
    repeat (first
      | (refine Ord.ch_value (v := ?_) hT9.out (by decide) (by rfl) ?_ ?_; rotate_left; (focus (intro w5 hS; skip; go_simp <;> with_reducible rfl)); (try simp only [Act.put, List.setIfInBounds_toArray, List.set_cons_zero, List.set_cons_succ]))
      | (refine Ord.ch_off hT9.out (by decide) (by rfl) ?_; (try simp only [Act.put, List.setIfInBounds_toArray, List.set_cons_zero, List.set_cons_succ])))
    refine Ord.InText.nil fun w5 hS => ?_
    clear hT9
    obtain ⟨hC9, hG9⟩ := Ord.chain_end hS
    clear hS
    have hG9' : Fr w [((w.heap.size + 2), [.slice A9 (putM M k v).length c9]), ((w.heap.size + 3), encA 0 (lookM M k).2 (lookM M k).1)] w5 := hG9
    go_wp2_with fail
    have e9 : doR M 4 k v = ⟨putM M k v, (lookM M k).2, (lookM M k).1, 0⟩ := by unfold doR; rw [if_pos (by omega), if_neg (by simpa [nextR] using h16)]; simp [nextR, ansD, ansV]
    rw [HD.out] at e9
    subst e9
    exact bodyPost_ret (res_cct rfl _ _ (w.heap.size + 2) (w.heap.size + 3) rfl rfl _ _ _ _ (hG9'.range 0 rfl) (hG9'.range 1 rfl) und32 rfl size32 und35 rfl size35) rfl ⟨A9, c9, rfl, hC9.2, hN9, .inr hFr9, hG9'.below⟩
set_option maxHeartbeats 8000000 in
theorem doR5t {A : Option Addr} {cap : Nat} {M : List (Int × Int)} {w : World} (hm : M.length ≤ 100000) (hr : RowX encP 2 w A M) (hA : A = none → M = []) (k v lv : Int) (hb : (lookM M k).2 = true) :
    Calls Try.prog 10 #[.agg #[.slice A M.length cap], .agg #[.int .i64 5, .int .u64 k, .int .u64 v, .int .i64 lv]] w (DoPost w A (doR M 5 k v)) := by
  have hF := ((((Fr.start w).push w.heap.size rfl [.slice A M.length cap] 32).push (w.heap.size + 1) (by simp) [.int .i64 5, .int .u64 k, .int .u64 v, .int .i64 lv] 39).push (w.heap.size + 2) (by simp) [.slice none 0 0] 32).push (w.heap.size + 3) (by simp) (encA 0 false 0) 35
  have HRR := Lib.hid hr
  have CG : Hid (∀ w', Below w.heap.size w w' → Calls Try.prog 12 #[.agg #[.slice A M.length cap], .int .u64 k] w' fun e w'' => e = .returned (.tuple #[.int .u64 (lookM M k).1, .bool (lookM M k).2]) ∧ Below w'.heap.size w' w'') := Lib.hid fun w' h => get_r (by omega) (hr.below h) k
  have CW : Hid (∀ w' y, Below w.heap.size w w' → Calls Try.prog 15 #[.agg #[.slice A M.length cap], .agg #[.int .u64 k, .int .u64 y]] w' fun e w'' => ∃ A' cap', e = .returned (.agg #[.slice A' (putM M k y).length cap']) ∧ Env w' [rowR A' cap' (putM M k y)] w'') := Lib.hid fun w' y h => with_r (by omega) (hr.below h) k y
  have CO : Hid (∀ w', Below w.heap.size w w' → Calls Try.prog 19 #[.agg #[.slice A M.length cap], .int .u64 k] w' fun e w'' => ∃ A' cap', e = .returned (.agg #[.slice A' (remM M k).length cap']) ∧ Env w' [rowR A' cap' (remM M k)] w'') := Lib.hid fun w' h => without_r (by omega) (hr.below h) k
  have HA := Lib.hid hA
  generalize hdd : doR M 5 k v = RR
  have HD := Lib.hid hdd
  clear hr hA hdd
  go_enter Try.func10, Try.ntmps10
  have r0 := hF.rule 3 rfl
  have r1 := hF.rule 2 rfl
  go_wp2_with fail
  refine (CG.out _ hF.below).mono ?_
  rintro o w1 ⟨rfl, hb⟩
  replace hF := hF.over hb
  clear hb r0 r1
  have r0 := hF.rule 3 rfl
  have r1 := hF.rule 2 rfl
  have hZ0 := hF.lt 0 rfl
  go_upto_region 4 with fail
  replace hF := (hF.push w1.heap.size rfl [.slice A M.length cap] 32).push (w1.heap.size + 1) (by simp) [.int .i64 0, .bool false, .int .u64 0] 35
  clear r0 r1
  generalize World.alloc (World.alloc w1 _) _ = w2 at *
  generalize w1.heap.size = Z at *
  have rr1 := hF.rule 4 rfl
  have rr2 := hF.rule 0 rfl
  have ff3 := hF.thaw 0 rfl (by omega)
  go_upto_region 21 with fail
  clear rr1 rr2 ff3
  replace hF := hF.put (by omega) (by simp <;> omega) 1 (by simp) (.bool false)
  generalize World.setCell _ _ _ = w21 at *
  replace hF : Fr w [((Z + 1), [.int .i64 0, .bool false, .int .u64 0]), (Z, [.slice A M.length cap]), ((w.heap.size + 3), encA 0 false 0), ((w.heap.size + 2), [.slice none 0 0]), ((w.heap.size + 1), [.int .i64 5, .int .u64 k, .int .u64 v, .int .i64 lv]), (w.heap.size, [.slice A M.length cap])] w21 := hF
  have rr4 := hF.rule 4 rfl
  have rr5 := hF.rule 0 rfl
  have ff6 := hF.thaw 0 rfl (by omega)
  go_upto_region 22 with fail
  clear rr4 rr5 ff6
  replace hF := hF.put (by omega) (by simp <;> omega) 2 (by simp) (.int .u64 (lookM M k).1)
  generalize World.setCell _ _ _ = w22 at *
  replace hF : Fr w [((Z + 1), [.int .i64 0, .bool false, .int .u64 (lookM M k).1]), (Z, [.slice A M.length cap]), ((w.heap.size + 3), encA 0 false 0), ((w.heap.size + 2), [.slice none 0 0]), ((w.heap.size + 1), [.int .i64 5, .int .u64 k, .int .u64 v, .int .i64 lv]), (w.heap.size, [.slice A M.length cap])] w22 := hF
  have hR9 := HRR.out.below hF.below
  have hN9 := HA.out
  have rr7 := hF.rule 1 rfl
  by_cases h16 : 16 < (M).length
  case' pos =>
    have h16' : (16 : Int) < ((M).length : Int) := by omega
    go_upto_region 34 with fail
    clear rr7
    apply wp_region_lit
    refine wpList_buildTo rfl 32 _ rfl (some 100) rfl [Value.slice none 0 0].toArray (by kernel_rfl) ?_
    refine wpList_buildTo rfl 35 _ rfl (some 101) rfl (encA 0 false 0).toArray (by kernel_rfl) ?_
    replace hF := hF.sub (bl' := [((w.heap.size + 2), [.slice none 0 0]), ((Z + 1), [.int .i64 0, .bool false, .int .u64 (lookM M k).1]), (Z, [.slice A M.length cap]), ((w.heap.size + 3), encA 0 false 0), ((w.heap.size + 1), [.int .i64 5, .int .u64 k, .int .u64 v, .int .i64 lv]), (w.heap.size, [.slice A M.length cap])]) (by simp)
    refine wpList_store_mid rfl 32 _ _ rfl (w.heap.size + 2) 0 [Value.slice none 0 0].toArray rfl rfl (hF.there 0 rfl (by omega) rfl) size32 (all_oneCell_toArray (fun v hv => by simp at hv; subst hv; rfl)) ?_
    replace hF := hF.whole (us := [.slice none 0 0]) (by omega) (by simp <;> omega) rfl
    generalize World.setCells _ _ _ _ = w8 at *
    replace hF := hF.sub (bl' := [((w.heap.size + 3), encA 0 false 0), ((w.heap.size + 2), [.slice none 0 0]), ((Z + 1), [.int .i64 0, .bool false, .int .u64 (lookM M k).1]), (Z, [.slice A M.length cap]), ((w.heap.size + 1), [.int .i64 5, .int .u64 k, .int .u64 v, .int .i64 lv]), (w.heap.size, [.slice A M.length cap])]) (by simp)
    refine wpList_store_mid rfl 35 _ _ rfl (w.heap.size + 3) 0 (encA 0 false 0).toArray rfl rfl (hF.there 0 rfl (by omega) rfl) size35 (all_oneCell_toArray (encA_one _ _ _)) ?_
    replace hF := hF.whole (us := encA 0 false 0) (by omega) (by simp <;> omega) rfl
    generalize World.setCells _ _ _ _ = w8 at *
    go_wp2_with fail
    have e9 : doR M 5 k v = ⟨[], false, 0, 6⟩ := by unfold doR; rw [if_pos (by omega), if_pos (by simpa [nextR, hb] using h16)]
    rw [HD.out] at e9
    subst e9
    exact bodyPost_ret (res_cct rfl _ _ (w.heap.size + 2) (w.heap.size + 3) rfl rfl _ _ _ _ (hF.range 1 rfl) (hF.range 0 rfl) und32 rfl size32 und35 rfl size35) rfl ⟨none, 0, rfl, .inl rfl, fun _ => rfl, .inr (fun b off h => (by cases h)), hF.below⟩
  case' neg =>
    have h16' : ¬ ((16 : Int) < ((M).length : Int)) := by omega
    go_upto_region 35 with fail
    clear rr7
    have hG := hF.sub (bl' := [((w.heap.size + 2), [.slice none 0 0]), ((w.heap.size + 3), encA 0 false 0)]) (by simp)
    have hK := hF.sub (bl' := [(Z, [.slice A M.length cap]), ((Z + 1), encA 0 false (lookM M k).1)]) (by simp [encA])
    have STEP1 : Hid (∀ w5, Fr w [((w.heap.size + 2), [.slice none 0 0]), ((w.heap.size + 3), encA 0 false 0)] w5 → Fr w [((w.heap.size + 2), [.slice A M.length cap]), ((w.heap.size + 3), encA 0 false 0)] (w5.setCells (w.heap.size + 2) 0 [.slice A M.length cap])) := Lib.hid fun w5 h => h.whole (by omega) (by simp) rfl
    have STEP2 : Hid (∀ w5, Fr w [((w.heap.size + 2), [.slice A M.length cap]), ((w.heap.size + 3), encA 0 false 0)] w5 → Fr w [((w.heap.size + 2), [.slice A M.length cap]), ((w.heap.size + 3), encA 0 false (lookM M k).1)] (w5.setCells (w.heap.size + 3) 0 (encA 0 false (lookM M k).1))) := Lib.hid fun w5 h => by
      have h2 := (h.sub (bl' := [((w.heap.size + 3), encA 0 false 0), ((w.heap.size + 2), [.slice A M.length cap])]) (by simp)).whole (us := encA 0 false (lookM M k).1) (by omega) (by simp) rfl
      exact h2.sub (by simp)
    have STEP3 : Hid (∀ (w5 : World) (n : Nat) (us : List Value), w.heap.size + 2 ≤ n → n ≤ w.heap.size + 3 → Fr w [(Z, [.slice A M.length cap]), ((Z + 1), encA 0 false (lookM M k).1)] w5 ∧ RowX encP 2 w5 A (M) → Fr w [(Z, [.slice A M.length cap]), ((Z + 1), encA 0 false (lookM M k).1)] (w5.setCells n 0 us) ∧ RowX encP 2 (w5.setCells n 0 us) A (M)) := Lib.hid fun w5 n us h1 h2 h => ⟨h.1.apart (by omega) (by simp; omega) us 0, HRR.out.below (h.1.apart (n := n) (by omega) (by simp; omega) us 0).below⟩
    refine Ord.wp_chain [2, 3] (fun w' => Fr w [(Z, [.slice A M.length cap]), ((Z + 1), encA 0 false (lookM M k).1)] w' ∧ RowX encP 2 w' A (M)) (fun j w' => Fr w [((w.heap.size + 2), if j = 0 then [.slice none 0 0] else [.slice A M.length cap]), ((w.heap.size + 3), if j < 2 then encA 0 false 0 else encA 0 false (lookM M k).1)] w') (by kernel_rfl) (by kernel_rfl) (by kernel_rfl) ⟨hK.drew, hR9⟩ (by rw [if_pos rfl, if_pos (by omega)]; exact hG.drew) (fun hT => ?_)
    have hT9 := Lib.hid hT
    clear hT
    refine Ord.ch_value (v := .agg [.slice A M.length cap].toArray) hT9.out (by decide) (by rfl) (fun w5 hS => exec_load w5 32 _ rfl Z rfl [.slice A M.length cap] _ (hS.1.range 0 rfl) und32 rfl size32) ?_
    (try simp only [Act.put, List.setIfInBounds_toArray, List.set_cons_zero, List.set_cons_succ])
    refine Ord.ch_value (v := .agg (encA 0 false (lookM M k).1).toArray) hT9.out (by decide) (by rfl) (fun w5 hS => exec_load w5 35 _ rfl (Z + 1) rfl (encA 0 false (lookM M k).1) _ (hS.1.range 1 rfl) und35 rfl size35) ?_
    (try simp only [Act.put, List.setIfInBounds_toArray, List.set_cons_zero, List.set_cons_succ])
    refine Ord.ch_turn (v := undef) 0 hT9.out rfl (by decide) (Or.inl rfl) (by rfl) ?_ ?_
    · rintro w5 hC5 hA5
      rw [if_pos rfl, if_pos (by omega)] at hA5
      rw [exec_store w5 32 _ _ rfl (w.heap.size + 2) [.slice A M.length cap] rfl rfl (hA5.there 0 rfl (by omega) rfl) size32 (fun v hv => by simp at hv; subst hv; rfl)]
      exact ⟨rfl, STEP3.out _ _ _ (by omega) (by omega) hC5, STEP1.out _ hA5⟩
    (try simp only [Act.put, List.setIfInBounds_toArray, List.set_cons_zero, List.set_cons_succ])
    refine Ord.ch_turn (v := undef) 1 hT9.out rfl (by decide) (Or.inr ⟨2, rfl, by kernel_rfl⟩) (by rfl) ?_ ?_
    · rintro w5 hC5 hA5
      rw [exec_store w5 35 _ _ rfl (w.heap.size + 3) (encA 0 false (lookM M k).1) rfl rfl (hA5.there 1 rfl (by omega) rfl) size35 (encA_one _ _ _)]
      exact ⟨rfl, STEP3.out _ _ _ (by omega) (by omega) hC5, STEP2.out _ hA5⟩
    (try simp only [Act.put, List.setIfInBounds_toArray, List.set_cons_zero, List.set_cons_succ])
    repeat (first
      | (refine Ord.ch_value (v := ?_) hT9.out (by decide) (by rfl) ?_ ?_; rotate_left; (focus (intro w5 hS; skip; go_simp <;> with_reducible rfl)); (try simp only [Act.put, List.setIfInBounds_toArray, List.set_cons_zero, List.set_cons_succ]))
      | (refine Ord.ch_off hT9.out (by decide) (by rfl) ?_; (try simp only [Act.put, List.setIfInBounds_toArray, List.set_cons_zero, List.set_cons_succ])))
    refine Ord.InText.nil fun w5 hS => ?_
    clear hT9
    obtain ⟨hC9, hG9⟩ := Ord.chain_end hS
    clear hS
    have hG9' : Fr w [((w.heap.size + 2), [.slice A M.length cap]), ((w.heap.size + 3), encA 0 false (lookM M k).1)] w5 := hG9
    go_wp2_with fail
    have e9 : doR M 5 k v = ⟨M, false, (lookM M k).1, 0⟩ := by unfold doR; rw [if_pos (by omega), if_neg (by simpa [nextR, hb] using h16)]; simp [nextR, ansD, ansV, hb]
    rw [HD.out] at e9
    subst e9
    exact bodyPost_ret (res_cct rfl _ _ (w.heap.size + 2) (w.heap.size + 3) rfl rfl _ _ _ _ (hG9'.range 0 rfl) (hG9'.range 1 rfl) und32 rfl size32 und35 rfl size35) rfl ⟨A, cap, rfl, hC9.2, hN9, .inl rfl, hG9'.below⟩
set_option maxHeartbeats 8000000 in
theorem doR5f {A : Option Addr} {cap : Nat} {M : List (Int × Int)} {w : World} (hm : M.length ≤ 100000) (hr : RowX encP 2 w A M) (hA : A = none → M = []) (k v lv : Int) (hb : (lookM M k).2 = false) :
    Calls Try.prog 10 #[.agg #[.slice A M.length cap], .agg #[.int .i64 5, .int .u64 k, .int .u64 v, .int .i64 lv]] w (DoPost w A (doR M 5 k v)) := by
  have hF := ((((Fr.start w).push w.heap.size rfl [.slice A M.length cap] 32).push (w.heap.size + 1) (by simp) [.int .i64 5, .int .u64 k, .int .u64 v, .int .i64 lv] 39).push (w.heap.size + 2) (by simp) [.slice none 0 0] 32).push (w.heap.size + 3) (by simp) (encA 0 false 0) 35
  have HRR := Lib.hid hr
  have CG : Hid (∀ w', Below w.heap.size w w' → Calls Try.prog 12 #[.agg #[.slice A M.length cap], .int .u64 k] w' fun e w'' => e = .returned (.tuple #[.int .u64 (lookM M k).1, .bool (lookM M k).2]) ∧ Below w'.heap.size w' w'') := Lib.hid fun w' h => get_r (by omega) (hr.below h) k
  have CW : Hid (∀ w' y, Below w.heap.size w w' → Calls Try.prog 15 #[.agg #[.slice A M.length cap], .agg #[.int .u64 k, .int .u64 y]] w' fun e w'' => ∃ A' cap', e = .returned (.agg #[.slice A' (putM M k y).length cap']) ∧ Env w' [rowR A' cap' (putM M k y)] w'') := Lib.hid fun w' y h => with_r (by omega) (hr.below h) k y
  have CO : Hid (∀ w', Below w.heap.size w w' → Calls Try.prog 19 #[.agg #[.slice A M.length cap], .int .u64 k] w' fun e w'' => ∃ A' cap', e = .returned (.agg #[.slice A' (remM M k).length cap']) ∧ Env w' [rowR A' cap' (remM M k)] w'') := Lib.hid fun w' h => without_r (by omega) (hr.below h) k
  have HA := Lib.hid hA
  generalize hdd : doR M 5 k v = RR
  have HD := Lib.hid hdd
  clear hr hA hdd
  go_enter Try.func10, Try.ntmps10
  have r0 := hF.rule 3 rfl
  have r1 := hF.rule 2 rfl
  go_wp2_with fail
  refine (CG.out _ hF.below).mono ?_
  rintro o w1 ⟨rfl, hb⟩
  replace hF := hF.over hb
  clear hb r0 r1
  have r0 := hF.rule 3 rfl
  have r1 := hF.rule 2 rfl
  have hZ0 := hF.lt 0 rfl
  go_upto_region 4 with fail
  replace hF := (hF.push w1.heap.size rfl [.slice A M.length cap] 32).push (w1.heap.size + 1) (by simp) [.int .i64 0, .bool false, .int .u64 0] 35
  clear r0 r1
  generalize World.alloc (World.alloc w1 _) _ = w2 at *
  generalize w1.heap.size = Z at *
  have rr1 := hF.rule 4 rfl
  have rr2 := hF.rule 0 rfl
  have ff3 := hF.thaw 0 rfl (by omega)
  go_upto_region 21 with fail
  clear rr1 rr2 ff3
  replace hF := hF.put (by omega) (by simp <;> omega) 1 (by simp) (.bool true)
  generalize World.setCell _ _ _ = w21 at *
  replace hF : Fr w [((Z + 1), [.int .i64 0, .bool true, .int .u64 0]), (Z, [.slice A M.length cap]), ((w.heap.size + 3), encA 0 false 0), ((w.heap.size + 2), [.slice none 0 0]), ((w.heap.size + 1), [.int .i64 5, .int .u64 k, .int .u64 v, .int .i64 lv]), (w.heap.size, [.slice A M.length cap])] w21 := hF
  have rr4 := hF.rule 4 rfl
  have rr5 := hF.rule 0 rfl
  have ff6 := hF.thaw 0 rfl (by omega)
  go_upto_region 23 with fail
  clear rr4 rr5 ff6
  replace hF := hF.put (by omega) (by simp <;> omega) 2 (by simp) (.int .u64 (lookM M k).1)
  generalize World.setCell _ _ _ = w22 at *
  replace hF : Fr w [((Z + 1), [.int .i64 0, .bool true, .int .u64 (lookM M k).1]), (Z, [.slice A M.length cap]), ((w.heap.size + 3), encA 0 false 0), ((w.heap.size + 2), [.slice none 0 0]), ((w.heap.size + 1), [.int .i64 5, .int .u64 k, .int .u64 v, .int .i64 lv]), (w.heap.size, [.slice A M.length cap])] w22 := hF
  have rr7 := hF.rule 5 rfl
  have rr8 := hF.rule 4 rfl
  go_wp2_with fail
  refine (CW.out _ v hF.below).mono ?_
  rintro o w23 ⟨A9, c9, rfl, hE9⟩
  obtain ⟨hR9, hfr, hN9, hb4⟩ := of_row hE9
  have hz4 := hF.lt 0 rfl
  have hz5 := hF.below.size
  replace hF := hF.over hb4
  clear rr7 rr8
  have hAp9 : ∀ b off, A9 = some ⟨b, off, none⟩ → Z + 1 < b := fun b off e => by have := hfr b off e; omega
  have hFr9 : ∀ b off, A9 = some ⟨b, off, none⟩ → szOf w ≤ b := fun b off e => by have := hfr b off e; show w.heap.size ≤ b; omega
  clear hE9 hfr hb4
  have rr9 := hF.rule 1 rfl
  have ff10 := hF.thaw 1 rfl (by omega)
  go_upto_region 33 with fail
  clear rr9 ff10
  replace hF := hF.sub (bl' := [(Z, [.slice A M.length cap]), ((Z + 1), [.int .i64 0, .bool true, .int .u64 (lookM M k).1]), ((w.heap.size + 3), encA 0 false 0), ((w.heap.size + 2), [.slice none 0 0]), ((w.heap.size + 1), [.int .i64 5, .int .u64 k, .int .u64 v, .int .i64 lv]), (w.heap.size, [.slice A M.length cap])]) (by simp)
  replace hR9 := hR9.put (n := Z) (fun b off e => by have := hAp9 b off e; omega) 0 (.slice A9 (putM M k v).length c9)
  replace hF := hF.put (by omega) (by simp <;> omega) 0 (by simp) (.slice A9 (putM M k v).length c9)
  generalize World.setCell _ _ _ = w24 at *
  replace hF : Fr w [(Z, [.slice A9 (putM M k v).length c9]), ((Z + 1), [.int .i64 0, .bool true, .int .u64 (lookM M k).1]), ((w.heap.size + 3), encA 0 false 0), ((w.heap.size + 2), [.slice none 0 0]), ((w.heap.size + 1), [.int .i64 5, .int .u64 k, .int .u64 v, .int .i64 lv]), (w.heap.size, [.slice A M.length cap])] w24 := hF
  have rr11 := hF.rule 0 rfl
  by_cases h16 : 16 < (putM M k v).length
  case' pos =>
    have h16' : (16 : Int) < ((putM M k v).length : Int) := by omega
    go_upto_region 34 with fail
    clear rr11
    apply wp_region_lit
    refine wpList_buildTo rfl 32 _ rfl (some 100) rfl [Value.slice none 0 0].toArray (by kernel_rfl) ?_
    refine wpList_buildTo rfl 35 _ rfl (some 101) rfl (encA 0 false 0).toArray (by kernel_rfl) ?_
    replace hF := hF.sub (bl' := [((w.heap.size + 2), [.slice none 0 0]), (Z, [.slice A9 (putM M k v).length c9]), ((Z + 1), [.int .i64 0, .bool true, .int .u64 (lookM M k).1]), ((w.heap.size + 3), encA 0 false 0), ((w.heap.size + 1), [.int .i64 5, .int .u64 k, .int .u64 v, .int .i64 lv]), (w.heap.size, [.slice A M.length cap])]) (by simp)
    refine wpList_store_mid rfl 32 _ _ rfl (w.heap.size + 2) 0 [Value.slice none 0 0].toArray rfl rfl (hF.there 0 rfl (by omega) rfl) size32 (all_oneCell_toArray (fun v hv => by simp at hv; subst hv; rfl)) ?_
    replace hF := hF.whole (us := [.slice none 0 0]) (by omega) (by simp <;> omega) rfl
    generalize World.setCells _ _ _ _ = w8 at *
    replace hF := hF.sub (bl' := [((w.heap.size + 3), encA 0 false 0), ((w.heap.size + 2), [.slice none 0 0]), (Z, [.slice A9 (putM M k v).length c9]), ((Z + 1), [.int .i64 0, .bool true, .int .u64 (lookM M k).1]), ((w.heap.size + 1), [.int .i64 5, .int .u64 k, .int .u64 v, .int .i64 lv]), (w.heap.size, [.slice A M.length cap])]) (by simp)
    refine wpList_store_mid rfl 35 _ _ rfl (w.heap.size + 3) 0 (encA 0 false 0).toArray rfl rfl (hF.there 0 rfl (by omega) rfl) size35 (all_oneCell_toArray (encA_one _ _ _)) ?_
    replace hF := hF.whole (us := encA 0 false 0) (by omega) (by simp <;> omega) rfl
    generalize World.setCells _ _ _ _ = w8 at *
    go_wp2_with fail
    have e9 : doR M 5 k v = ⟨[], false, 0, 6⟩ := by unfold doR; rw [if_pos (by omega), if_pos (by simpa [nextR, hb] using h16)]
    rw [HD.out] at e9
    subst e9
    exact bodyPost_ret (res_cct rfl _ _ (w.heap.size + 2) (w.heap.size + 3) rfl rfl _ _ _ _ (hF.range 1 rfl) (hF.range 0 rfl) und32 rfl size32 und35 rfl size35) rfl ⟨none, 0, rfl, .inl rfl, fun _ => rfl, .inr (fun b off h => (by cases h)), hF.below⟩
  case' neg =>
    have h16' : ¬ ((16 : Int) < ((putM M k v).length : Int)) := by omega
    go_upto_region 35 with fail
    clear rr11
    have hG := hF.sub (bl' := [((w.heap.size + 2), [.slice none 0 0]), ((w.heap.size + 3), encA 0 false 0)]) (by simp)
    have hK := hF.sub (bl' := [(Z, [.slice A9 (putM M k v).length c9]), ((Z + 1), encA 0 true (lookM M k).1)]) (by simp [encA])
    have STEP1 : Hid (∀ w5, Fr w [((w.heap.size + 2), [.slice none 0 0]), ((w.heap.size + 3), encA 0 false 0)] w5 → Fr w [((w.heap.size + 2), [.slice A9 (putM M k v).length c9]), ((w.heap.size + 3), encA 0 false 0)] (w5.setCells (w.heap.size + 2) 0 [.slice A9 (putM M k v).length c9])) := Lib.hid fun w5 h => h.whole (by omega) (by simp) rfl
    have STEP2 : Hid (∀ w5, Fr w [((w.heap.size + 2), [.slice A9 (putM M k v).length c9]), ((w.heap.size + 3), encA 0 false 0)] w5 → Fr w [((w.heap.size + 2), [.slice A9 (putM M k v).length c9]), ((w.heap.size + 3), encA 0 true (lookM M k).1)] (w5.setCells (w.heap.size + 3) 0 (encA 0 true (lookM M k).1))) := Lib.hid fun w5 h => by
      have h2 := (h.sub (bl' := [((w.heap.size + 3), encA 0 false 0), ((w.heap.size + 2), [.slice A9 (putM M k v).length c9])]) (by simp)).whole (us := encA 0 true (lookM M k).1) (by omega) (by simp) rfl
      exact h2.sub (by simp)
    have STEP3 : Hid (∀ (w5 : World) (n : Nat) (us : List Value), w.heap.size + 2 ≤ n → n ≤ w.heap.size + 3 → Fr w [(Z, [.slice A9 (putM M k v).length c9]), ((Z + 1), encA 0 true (lookM M k).1)] w5 ∧ RowX encP 2 w5 A9 (putM M k v) → Fr w [(Z, [.slice A9 (putM M k v).length c9]), ((Z + 1), encA 0 true (lookM M k).1)] (w5.setCells n 0 us) ∧ RowX encP 2 (w5.setCells n 0 us) A9 (putM M k v)) := Lib.hid fun w5 n us h1 h2 h => ⟨h.1.apart (by omega) (by simp; omega) us 0, h.2.putsAp (fun b off e => by have := hAp9 b off e; omega) us 0⟩
    refine Ord.wp_chain [2, 3] (fun w' => Fr w [(Z, [.slice A9 (putM M k v).length c9]), ((Z + 1), encA 0 true (lookM M k).1)] w' ∧ RowX encP 2 w' A9 (putM M k v)) (fun j w' => Fr w [((w.heap.size + 2), if j = 0 then [.slice none 0 0] else [.slice A9 (putM M k v).length c9]), ((w.heap.size + 3), if j < 2 then encA 0 false 0 else encA 0 true (lookM M k).1)] w') (by kernel_rfl) (by kernel_rfl) (by kernel_rfl) ⟨hK.drew, hR9⟩ (by rw [if_pos rfl, if_pos (by omega)]; exact hG.drew) (fun hT => ?_)
    have hT9 := Lib.hid hT
    clear hT
    refine Ord.ch_value (v := .agg [.slice A9 (putM M k v).length c9].toArray) hT9.out (by decide) (by rfl) (fun w5 hS => exec_load w5 32 _ rfl Z rfl [.slice A9 (putM M k v).length c9] _ (hS.1.range 0 rfl) und32 rfl size32) ?_
    (try simp only [Act.put, List.setIfInBounds_toArray, List.set_cons_zero, List.set_cons_succ])
    refine Ord.ch_value (v := .agg (encA 0 true (lookM M k).1).toArray) hT9.out (by decide) (by rfl) (fun w5 hS => exec_load w5 35 _ rfl (Z + 1) rfl (encA 0 true (lookM M k).1) _ (hS.1.range 1 rfl) und35 rfl size35) ?_
    (try simp only [Act.put, List.setIfInBounds_toArray, List.set_cons_zero, List.set_cons_succ])
    refine Ord.ch_turn (v := undef) 0 hT9.out rfl (by decide) (Or.inl rfl) (by rfl) ?_ ?_
    · rintro w5 hC5 hA5
      rw [if_pos rfl, if_pos (by omega)] at hA5
      rw [exec_store w5 32 _ _ rfl (w.heap.size + 2) [.slice A9 (putM M k v).length c9] rfl rfl (hA5.there 0 rfl (by omega) rfl) size32 (fun v hv => by simp at hv; subst hv; rfl)]
      exact ⟨rfl, STEP3.out _ _ _ (by omega) (by omega) hC5, STEP1.out _ hA5⟩
    (try simp only [Act.put, List.setIfInBounds_toArray, List.set_cons_zero, List.set_cons_succ])
    refine Ord.ch_turn (v := undef) 1 hT9.out rfl (by decide) (Or.inr ⟨2, rfl, by kernel_rfl⟩) (by rfl) ?_ ?_
    · rintro w5 hC5 hA5
      rw [exec_store w5 35 _ _ rfl (w.heap.size + 3) (encA 0 true (lookM M k).1) rfl rfl (hA5.there 1 rfl (by omega) rfl) size35 (encA_one _ _ _)]
      exact ⟨rfl, STEP3.out _ _ _ (by omega) (by omega) hC5, STEP2.out _ hA5⟩
    (try simp only [Act.put, List.setIfInBounds_toArray, List.set_cons_zero, List.set_cons_succ])
    repeat (first
      | (refine Ord.ch_value (v := ?_) hT9.out (by decide) (by rfl) ?_ ?_; rotate_left; (focus (intro w5 hS; skip; go_simp <;> with_reducible rfl)); (try simp only [Act.put, List.setIfInBounds_toArray, List.set_cons_zero, List.set_cons_succ]))
      | (refine Ord.ch_off hT9.out (by decide) (by rfl) ?_; (try simp only [Act.put, List.setIfInBounds_toArray, List.set_cons_zero, List.set_cons_succ])))
    refine Ord.InText.nil fun w5 hS => ?_
    clear hT9
    obtain ⟨hC9, hG9⟩ := Ord.chain_end hS
    clear hS
    have hG9' : Fr w [((w.heap.size + 2), [.slice A9 (putM M k v).length c9]), ((w.heap.size + 3), encA 0 true (lookM M k).1)] w5 := hG9
    go_wp2_with fail
    have e9 : doR M 5 k v = ⟨putM M k v, true, (lookM M k).1, 0⟩ := by unfold doR; rw [if_pos (by omega), if_neg (by simpa [nextR, hb] using h16)]; simp [nextR, ansD, ansV, hb]
    rw [HD.out] at e9
    subst e9
    exact bodyPost_ret (res_cct rfl _ _ (w.heap.size + 2) (w.heap.size + 3) rfl rfl _ _ _ _ (hG9'.range 0 rfl) (hG9'.range 1 rfl) und32 rfl size32 und35 rfl size35) rfl ⟨A9, c9, rfl, hC9.2, hN9, .inr hFr9, hG9'.below⟩
set_option maxHeartbeats 8000000 in
theorem doR6 {A : Option Addr} {cap : Nat} {M : List (Int × Int)} {w : World} (hm : M.length ≤ 100000) (hr : RowX encP 2 w A M) (hA : A = none → M = []) (k v lv : Int) :
    Calls Try.prog 10 #[.agg #[.slice A M.length cap], .agg #[.int .i64 6, .int .u64 k, .int .u64 v, .int .i64 lv]] w (DoPost w A (doR M 6 k v)) := by
  have hF := ((((Fr.start w).push w.heap.size rfl [.slice A M.length cap] 32).push (w.heap.size + 1) (by simp) [.int .i64 6, .int .u64 k, .int .u64 v, .int .i64 lv] 39).push (w.heap.size + 2) (by simp) [.slice none 0 0] 32).push (w.heap.size + 3) (by simp) (encA 0 false 0) 35
  have HRR := Lib.hid hr
  have CG : Hid (∀ w', Below w.heap.size w w' → Calls Try.prog 12 #[.agg #[.slice A M.length cap], .int .u64 k] w' fun e w'' => e = .returned (.tuple #[.int .u64 (lookM M k).1, .bool (lookM M k).2]) ∧ Below w'.heap.size w' w'') := Lib.hid fun w' h => get_r (by omega) (hr.below h) k
  have CW : Hid (∀ w' y, Below w.heap.size w w' → Calls Try.prog 15 #[.agg #[.slice A M.length cap], .agg #[.int .u64 k, .int .u64 y]] w' fun e w'' => ∃ A' cap', e = .returned (.agg #[.slice A' (putM M k y).length cap']) ∧ Env w' [rowR A' cap' (putM M k y)] w'') := Lib.hid fun w' y h => with_r (by omega) (hr.below h) k y
  have CO : Hid (∀ w', Below w.heap.size w w' → Calls Try.prog 19 #[.agg #[.slice A M.length cap], .int .u64 k] w' fun e w'' => ∃ A' cap', e = .returned (.agg #[.slice A' (remM M k).length cap']) ∧ Env w' [rowR A' cap' (remM M k)] w'') := Lib.hid fun w' h => without_r (by omega) (hr.below h) k
  have HA := Lib.hid hA
  generalize hdd : doR M 6 k v = RR
  have HD := Lib.hid hdd
  clear hr hA hdd
  go_enter Try.func10, Try.ntmps10
  have r0 := hF.rule 3 rfl
  have r1 := hF.rule 2 rfl
  go_wp2_with fail
  refine (CG.out _ hF.below).mono ?_
  rintro o w1 ⟨rfl, hb⟩
  replace hF := hF.over hb
  clear hb r0 r1
  have r0 := hF.rule 3 rfl
  have r1 := hF.rule 2 rfl
  have hZ0 := hF.lt 0 rfl
  go_upto_region 4 with fail
  replace hF := (hF.push w1.heap.size rfl [.slice A M.length cap] 32).push (w1.heap.size + 1) (by simp) [.int .i64 0, .bool false, .int .u64 0] 35
  clear r0 r1
  generalize World.alloc (World.alloc w1 _) _ = w2 at *
  generalize w1.heap.size = Z at *
  have rr1 := hF.rule 4 rfl
  have rr2 := hF.rule 0 rfl
  have ff3 := hF.thaw 0 rfl (by omega)
  go_upto_region 26 with fail
  clear rr1 rr2 ff3
  replace hF := hF.put (by omega) (by simp <;> omega) 1 (by simp) (.bool (lookM M k).2)
  generalize World.setCell _ _ _ = w21 at *
  replace hF : Fr w [((Z + 1), [.int .i64 0, .bool (lookM M k).2, .int .u64 0]), (Z, [.slice A M.length cap]), ((w.heap.size + 3), encA 0 false 0), ((w.heap.size + 2), [.slice none 0 0]), ((w.heap.size + 1), [.int .i64 6, .int .u64 k, .int .u64 v, .int .i64 lv]), (w.heap.size, [.slice A M.length cap])] w21 := hF
  have rr4 := hF.rule 4 rfl
  have rr5 := hF.rule 0 rfl
  have ff6 := hF.thaw 0 rfl (by omega)
  go_upto_region 27 with fail
  clear rr4 rr5 ff6
  replace hF := hF.put (by omega) (by simp <;> omega) 2 (by simp) (.int .u64 (lookM M k).1)
  generalize World.setCell _ _ _ = w22 at *
  replace hF : Fr w [((Z + 1), [.int .i64 0, .bool (lookM M k).2, .int .u64 (lookM M k).1]), (Z, [.slice A M.length cap]), ((w.heap.size + 3), encA 0 false 0), ((w.heap.size + 2), [.slice none 0 0]), ((w.heap.size + 1), [.int .i64 6, .int .u64 k, .int .u64 v, .int .i64 lv]), (w.heap.size, [.slice A M.length cap])] w22 := hF
  have rr7 := hF.rule 5 rfl
  have rr8 := hF.rule 4 rfl
  go_wp2_with fail
  refine (CO.out _ hF.below).mono ?_
  rintro o w23 ⟨A9, c9, rfl, hE9⟩
  obtain ⟨hR9, hfr, hN9, hb4⟩ := of_row hE9
  have hz4 := hF.lt 0 rfl
  have hz5 := hF.below.size
  replace hF := hF.over hb4
  clear rr7 rr8
  have hAp9 : ∀ b off, A9 = some ⟨b, off, none⟩ → Z + 1 < b := fun b off e => by have := hfr b off e; omega
  have hFr9 : ∀ b off, A9 = some ⟨b, off, none⟩ → szOf w ≤ b := fun b off e => by have := hfr b off e; show w.heap.size ≤ b; omega
  clear hE9 hfr hb4
  have rr9 := hF.rule 1 rfl
  have ff10 := hF.thaw 1 rfl (by omega)
  go_upto_region 33 with fail
  clear rr9 ff10
  replace hF := hF.sub (bl' := [(Z, [.slice A M.length cap]), ((Z + 1), [.int .i64 0, .bool (lookM M k).2, .int .u64 (lookM M k).1]), ((w.heap.size + 3), encA 0 false 0), ((w.heap.size + 2), [.slice none 0 0]), ((w.heap.size + 1), [.int .i64 6, .int .u64 k, .int .u64 v, .int .i64 lv]), (w.heap.size, [.slice A M.length cap])]) (by simp)
  replace hR9 := hR9.put (n := Z) (fun b off e => by have := hAp9 b off e; omega) 0 (.slice A9 (remM M k).length c9)
  replace hF := hF.put (by omega) (by simp <;> omega) 0 (by simp) (.slice A9 (remM M k).length c9)
  generalize World.setCell _ _ _ = w24 at *
  replace hF : Fr w [(Z, [.slice A9 (remM M k).length c9]), ((Z + 1), [.int .i64 0, .bool (lookM M k).2, .int .u64 (lookM M k).1]), ((w.heap.size + 3), encA 0 false 0), ((w.heap.size + 2), [.slice none 0 0]), ((w.heap.size + 1), [.int .i64 6, .int .u64 k, .int .u64 v, .int .i64 lv]), (w.heap.size, [.slice A M.length cap])] w24 := hF
  have rr11 := hF.rule 0 rfl
  by_cases h16 : 16 < (remM M k).length
  case' pos =>
    have h16' : (16 : Int) < ((remM M k).length : Int) := by omega
    go_upto_region 34 with fail
    clear rr11
    apply wp_region_lit
    refine wpList_buildTo rfl 32 _ rfl (some 100) rfl [Value.slice none 0 0].toArray (by kernel_rfl) ?_
    refine wpList_buildTo rfl 35 _ rfl (some 101) rfl (encA 0 false 0).toArray (by kernel_rfl) ?_
    replace hF := hF.sub (bl' := [((w.heap.size + 2), [.slice none 0 0]), (Z, [.slice A9 (remM M k).length c9]), ((Z + 1), [.int .i64 0, .bool (lookM M k).2, .int .u64 (lookM M k).1]), ((w.heap.size + 3), encA 0 false 0), ((w.heap.size + 1), [.int .i64 6, .int .u64 k, .int .u64 v, .int .i64 lv]), (w.heap.size, [.slice A M.length cap])]) (by simp)
    refine wpList_store_mid rfl 32 _ _ rfl (w.heap.size + 2) 0 [Value.slice none 0 0].toArray rfl rfl (hF.there 0 rfl (by omega) rfl) size32 (all_oneCell_toArray (fun v hv => by simp at hv; subst hv; rfl)) ?_
    replace hF := hF.whole (us := [.slice none 0 0]) (by omega) (by simp <;> omega) rfl
    generalize World.setCells _ _ _ _ = w8 at *
    replace hF := hF.sub (bl' := [((w.heap.size + 3), encA 0 false 0), ((w.heap.size + 2), [.slice none 0 0]), (Z, [.slice A9 (remM M k).length c9]), ((Z + 1), [.int .i64 0, .bool (lookM M k).2, .int .u64 (lookM M k).1]), ((w.heap.size + 1), [.int .i64 6, .int .u64 k, .int .u64 v, .int .i64 lv]), (w.heap.size, [.slice A M.length cap])]) (by simp)
    refine wpList_store_mid rfl 35 _ _ rfl (w.heap.size + 3) 0 (encA 0 false 0).toArray rfl rfl (hF.there 0 rfl (by omega) rfl) size35 (all_oneCell_toArray (encA_one _ _ _)) ?_
    replace hF := hF.whole (us := encA 0 false 0) (by omega) (by simp <;> omega) rfl
    generalize World.setCells _ _ _ _ = w8 at *
    go_wp2_with fail
    have e9 : doR M 6 k v = ⟨[], false, 0, 6⟩ := by unfold doR; rw [if_pos (by omega), if_pos (by simpa [nextR] using h16)]
    rw [HD.out] at e9
    subst e9
    exact bodyPost_ret (res_cct rfl _ _ (w.heap.size + 2) (w.heap.size + 3) rfl rfl _ _ _ _ (hF.range 1 rfl) (hF.range 0 rfl) und32 rfl size32 und35 rfl size35) rfl ⟨none, 0, rfl, .inl rfl, fun _ => rfl, .inr (fun b off h => (by cases h)), hF.below⟩
  case' neg =>
    have h16' : ¬ ((16 : Int) < ((remM M k).length : Int)) := by omega
    go_upto_region 35 with fail
    clear rr11
    have hG := hF.sub (bl' := [((w.heap.size + 2), [.slice none 0 0]), ((w.heap.size + 3), encA 0 false 0)]) (by simp)
    have hK := hF.sub (bl' := [(Z, [.slice A9 (remM M k).length c9]), ((Z + 1), encA 0 (lookM M k).2 (lookM M k).1)]) (by simp [encA])
    have STEP1 : Hid (∀ w5, Fr w [((w.heap.size + 2), [.slice none 0 0]), ((w.heap.size + 3), encA 0 false 0)] w5 → Fr w [((w.heap.size + 2), [.slice A9 (remM M k).length c9]), ((w.heap.size + 3), encA 0 false 0)] (w5.setCells (w.heap.size + 2) 0 [.slice A9 (remM M k).length c9])) := Lib.hid fun w5 h => h.whole (by omega) (by simp) rfl
    have STEP2 : Hid (∀ w5, Fr w [((w.heap.size + 2), [.slice A9 (remM M k).length c9]), ((w.heap.size + 3), encA 0 false 0)] w5 → Fr w [((w.heap.size + 2), [.slice A9 (remM M k).length c9]), ((w.heap.size + 3), encA 0 (lookM M k).2 (lookM M k).1)] (w5.setCells (w.heap.size + 3) 0 (encA 0 (lookM M k).2 (lookM M k).1))) := Lib.hid fun w5 h => by
      have h2 := (h.sub (bl' := [((w.heap.size + 3), encA 0 false 0), ((w.heap.size + 2), [.slice A9 (remM M k).length c9])]) (by simp)).whole (us := encA 0 (lookM M k).2 (lookM M k).1) (by omega) (by simp) rfl
      exact h2.sub (by simp)
    have STEP3 : Hid (∀ (w5 : World) (n : Nat) (us : List Value), w.heap.size + 2 ≤ n → n ≤ w.heap.size + 3 → Fr w [(Z, [.slice A9 (remM M k).length c9]), ((Z + 1), encA 0 (lookM M k).2 (lookM M k).1)] w5 ∧ RowX encP 2 w5 A9 (remM M k) → Fr w [(Z, [.slice A9 (remM M k).length c9]), ((Z + 1), encA 0 (lookM M k).2 (lookM M k).1)] (w5.setCells n 0 us) ∧ RowX encP 2 (w5.setCells n 0 us) A9 (remM M k)) := Lib.hid fun w5 n us h1 h2 h => ⟨h.1.apart (by omega) (by simp; omega) us 0, h.2.putsAp (fun b off e => by have := hAp9 b off e; omega) us 0⟩
    refine Ord.wp_chain [2, 3] (fun w' => Fr w [(Z, [.slice A9 (remM M k).length c9]), ((Z + 1), encA 0 (lookM M k).2 (lookM M k).1)] w' ∧ RowX encP 2 w' A9 (remM M k)) (fun j w' => Fr w [((w.heap.size + 2), if j = 0 then [.slice none 0 0] else [.slice A9 (remM M k).length c9]), ((w.heap.size + 3), if j < 2 then encA 0 false 0 else encA 0 (lookM M k).2 (lookM M k).1)] w') (by kernel_rfl) (by kernel_rfl) (by kernel_rfl) ⟨hK.drew, hR9⟩ (by rw [if_pos rfl, if_pos (by omega)]; exact hG.drew) (fun hT => ?_)
    have hT9 := Lib.hid hT
    clear hT
    refine Ord.ch_value (v := .agg [.slice A9 (remM M k).length c9].toArray) hT9.out (by decide) (by rfl) (fun w5 hS => exec_load w5 32 _ rfl Z rfl [.slice A9 (remM M k).length c9] _ (hS.1.range 0 rfl) und32 rfl size32) ?_
    (try simp only [Act.put, List.setIfInBounds_toArray, List.set_cons_zero, List.set_cons_succ])
    refine Ord.ch_value (v := .agg (encA 0 (lookM M k).2 (lookM M k).1).toArray) hT9.out (by decide) (by rfl) (fun w5 hS => exec_load w5 35 _ rfl (Z + 1) rfl (encA 0 (lookM M k).2 (lookM M k).1) _ (hS.1.range 1 rfl) und35 rfl size35) ?_
    (try simp only [Act.put, List.setIfInBounds_toArray, List.set_cons_zero, List.set_cons_succ])
    refine Ord.ch_turn (v := undef) 0 hT9.out rfl (by decide) (Or.inl rfl) (by rfl) ?_ ?_
    · rintro w5 hC5 hA5
      rw [if_pos rfl, if_pos (by omega)] at hA5
      rw [exec_store w5 32 _ _ rfl (w.heap.size + 2) [.slice A9 (remM M k).length c9] rfl rfl (hA5.there 0 rfl (by omega) rfl) size32 (fun v hv => by simp at hv; subst hv; rfl)]
      exact ⟨rfl, STEP3.out _ _ _ (by omega) (by omega) hC5, STEP1.out _ hA5⟩
    (try simp only [Act.put, List.setIfInBounds_toArray, List.set_cons_zero, List.set_cons_succ])
    refine Ord.ch_turn (v := undef) 1 hT9.out rfl (by decide) (Or.inr ⟨2, rfl, by kernel_rfl⟩) (by rfl) ?_ ?_
    · rintro w5 hC5 hA5
      rw [exec_store w5 35 _ _ rfl (w.heap.size + 3) (encA 0 (lookM M k).2 (lookM M k).1) rfl rfl (hA5.there 1 rfl (by omega) rfl) size35 (encA_one _ _ _)]
      exact ⟨rfl, STEP3.out _ _ _ (by omega) (by omega) hC5, STEP2.out _ hA5⟩
    (try simp only [Act.put, List.setIfInBounds_toArray, List.set_cons_zero, List.set_cons_succ])
    repeat (first
      | (refine Ord.ch_value (v := ?_) hT9.out (by decide) (by rfl) ?_ ?_; rotate_left; (focus (intro w5 hS; skip; go_simp <;> with_reducible rfl)); (try simp only [Act.put, List.setIfInBounds_toArray, List.set_cons_zero, List.set_cons_succ]))
      | (refine Ord.ch_off hT9.out (by decide) (by rfl) ?_; (try simp only [Act.put, List.setIfInBounds_toArray, List.set_cons_zero, List.set_cons_succ])))
    refine Ord.InText.nil fun w5 hS => ?_
    clear hT9
    obtain ⟨hC9, hG9⟩ := Ord.chain_end hS
    clear hS
    have hG9' : Fr w [((w.heap.size + 2), [.slice A9 (remM M k).length c9]), ((w.heap.size + 3), encA 0 (lookM M k).2 (lookM M k).1)] w5 := hG9
    go_wp2_with fail
    have e9 : doR M 6 k v = ⟨remM M k, (lookM M k).2, (lookM M k).1, 0⟩ := by unfold doR; rw [if_pos (by omega), if_neg (by simpa [nextR] using h16)]; simp [nextR, ansD, ansV]
    rw [HD.out] at e9
    subst e9
    exact bodyPost_ret (res_cct rfl _ _ (w.heap.size + 2) (w.heap.size + 3) rfl rfl _ _ _ _ (hG9'.range 0 rfl) (hG9'.range 1 rfl) und32 rfl size32 und35 rfl size35) rfl ⟨A9, c9, rfl, hC9.2, hN9, .inr hFr9, hG9'.below⟩
set_option maxHeartbeats 8000000 in
theorem doR7 {A : Option Addr} {cap : Nat} {M : List (Int × Int)} {w : World} (hm : M.length ≤ 100000) (hr : RowX encP 2 w A M) (hA : A = none → M = []) (k v lv : Int) :
    Calls Try.prog 10 #[.agg #[.slice A M.length cap], .agg #[.int .i64 7, .int .u64 k, .int .u64 v, .int .i64 lv]] w (DoPost w A (doR M 7 k v)) := by
  have hF := ((((Fr.start w).push w.heap.size rfl [.slice A M.length cap] 32).push (w.heap.size + 1) (by simp) [.int .i64 7, .int .u64 k, .int .u64 v, .int .i64 lv] 39).push (w.heap.size + 2) (by simp) [.slice none 0 0] 32).push (w.heap.size + 3) (by simp) (encA 0 false 0) 35
  have HRR := Lib.hid hr
  have CG : Hid (∀ w', Below w.heap.size w w' → Calls Try.prog 12 #[.agg #[.slice A M.length cap], .int .u64 k] w' fun e w'' => e = .returned (.tuple #[.int .u64 (lookM M k).1, .bool (lookM M k).2]) ∧ Below w'.heap.size w' w'') := Lib.hid fun w' h => get_r (by omega) (hr.below h) k
  have CW : Hid (∀ w' y, Below w.heap.size w w' → Calls Try.prog 15 #[.agg #[.slice A M.length cap], .agg #[.int .u64 k, .int .u64 y]] w' fun e w'' => ∃ A' cap', e = .returned (.agg #[.slice A' (putM M k y).length cap']) ∧ Env w' [rowR A' cap' (putM M k y)] w'') := Lib.hid fun w' y h => with_r (by omega) (hr.below h) k y
  have CO : Hid (∀ w', Below w.heap.size w w' → Calls Try.prog 19 #[.agg #[.slice A M.length cap], .int .u64 k] w' fun e w'' => ∃ A' cap', e = .returned (.agg #[.slice A' (remM M k).length cap']) ∧ Env w' [rowR A' cap' (remM M k)] w'') := Lib.hid fun w' h => without_r (by omega) (hr.below h) k
  have HA := Lib.hid hA
  generalize hdd : doR M 7 k v = RR
  have HD := Lib.hid hdd
  clear hr hA hdd
  go_enter Try.func10, Try.ntmps10
  have r0 := hF.rule 3 rfl
  have r1 := hF.rule 2 rfl
  go_wp2_with fail
  refine (CG.out _ hF.below).mono ?_
  rintro o w1 ⟨rfl, hb⟩
  replace hF := hF.over hb
  clear hb r0 r1
  have r0 := hF.rule 3 rfl
  have r1 := hF.rule 2 rfl
  have hZ0 := hF.lt 0 rfl
  go_upto_region 4 with fail
  replace hF := (hF.push w1.heap.size rfl [.slice A M.length cap] 32).push (w1.heap.size + 1) (by simp) [.int .i64 0, .bool false, .int .u64 0] 35
  clear r0 r1
  generalize World.alloc (World.alloc w1 _) _ = w2 at *
  generalize w1.heap.size = Z at *
  have rr1 := hF.rule 4 rfl
  have rr2 := hF.rule 0 rfl
  have ff3 := hF.thaw 0 rfl (by omega)
  go_upto_region 30 with fail
  clear rr1 rr2 ff3
  replace hF := hF.put (by omega) (by simp <;> omega) 1 (by simp) (.bool (lookM M k).2)
  generalize World.setCell _ _ _ = w21 at *
  replace hF : Fr w [((Z + 1), [.int .i64 0, .bool (lookM M k).2, .int .u64 0]), (Z, [.slice A M.length cap]), ((w.heap.size + 3), encA 0 false 0), ((w.heap.size + 2), [.slice none 0 0]), ((w.heap.size + 1), [.int .i64 7, .int .u64 k, .int .u64 v, .int .i64 lv]), (w.heap.size, [.slice A M.length cap])] w21 := hF
  have rr4 := hF.rule 4 rfl
  have rr5 := hF.rule 0 rfl
  have ff6 := hF.thaw 0 rfl (by omega)
  go_upto_region 33 with fail
  clear rr4 rr5 ff6
  replace hF := hF.put (by omega) (by simp <;> omega) 2 (by simp) (.int .u64 (lookM M k).1)
  generalize World.setCell _ _ _ = w22 at *
  replace hF : Fr w [((Z + 1), [.int .i64 0, .bool (lookM M k).2, .int .u64 (lookM M k).1]), (Z, [.slice A M.length cap]), ((w.heap.size + 3), encA 0 false 0), ((w.heap.size + 2), [.slice none 0 0]), ((w.heap.size + 1), [.int .i64 7, .int .u64 k, .int .u64 v, .int .i64 lv]), (w.heap.size, [.slice A M.length cap])] w22 := hF
  have hR9 := HRR.out.below hF.below
  have hN9 := HA.out
  have rr7 := hF.rule 1 rfl
  by_cases h16 : 16 < (M).length
  case' pos =>
    have h16' : (16 : Int) < ((M).length : Int) := by omega
    go_upto_region 34 with fail
    clear rr7
    apply wp_region_lit
    refine wpList_buildTo rfl 32 _ rfl (some 100) rfl [Value.slice none 0 0].toArray (by kernel_rfl) ?_
    refine wpList_buildTo rfl 35 _ rfl (some 101) rfl (encA 0 false 0).toArray (by kernel_rfl) ?_
    replace hF := hF.sub (bl' := [((w.heap.size + 2), [.slice none 0 0]), ((Z + 1), [.int .i64 0, .bool (lookM M k).2, .int .u64 (lookM M k).1]), (Z, [.slice A M.length cap]), ((w.heap.size + 3), encA 0 false 0), ((w.heap.size + 1), [.int .i64 7, .int .u64 k, .int .u64 v, .int .i64 lv]), (w.heap.size, [.slice A M.length cap])]) (by simp)
    refine wpList_store_mid rfl 32 _ _ rfl (w.heap.size + 2) 0 [Value.slice none 0 0].toArray rfl rfl (hF.there 0 rfl (by omega) rfl) size32 (all_oneCell_toArray (fun v hv => by simp at hv; subst hv; rfl)) ?_
    replace hF := hF.whole (us := [.slice none 0 0]) (by omega) (by simp <;> omega) rfl
    generalize World.setCells _ _ _ _ = w8 at *
    replace hF := hF.sub (bl' := [((w.heap.size + 3), encA 0 false 0), ((w.heap.size + 2), [.slice none 0 0]), ((Z + 1), [.int .i64 0, .bool (lookM M k).2, .int .u64 (lookM M k).1]), (Z, [.slice A M.length cap]), ((w.heap.size + 1), [.int .i64 7, .int .u64 k, .int .u64 v, .int .i64 lv]), (w.heap.size, [.slice A M.length cap])]) (by simp)
    refine wpList_store_mid rfl 35 _ _ rfl (w.heap.size + 3) 0 (encA 0 false 0).toArray rfl rfl (hF.there 0 rfl (by omega) rfl) size35 (all_oneCell_toArray (encA_one _ _ _)) ?_
    replace hF := hF.whole (us := encA 0 false 0) (by omega) (by simp <;> omega) rfl
    generalize World.setCells _ _ _ _ = w8 at *
    go_wp2_with fail
    have e9 : doR M 7 k v = ⟨[], false, 0, 6⟩ := by unfold doR; rw [if_pos (by omega), if_pos (by simpa [nextR] using h16)]
    rw [HD.out] at e9
    subst e9
    exact bodyPost_ret (res_cct rfl _ _ (w.heap.size + 2) (w.heap.size + 3) rfl rfl _ _ _ _ (hF.range 1 rfl) (hF.range 0 rfl) und32 rfl size32 und35 rfl size35) rfl ⟨none, 0, rfl, .inl rfl, fun _ => rfl, .inr (fun b off h => (by cases h)), hF.below⟩
  case' neg =>
    have h16' : ¬ ((16 : Int) < ((M).length : Int)) := by omega
    go_upto_region 35 with fail
    clear rr7
    have hG := hF.sub (bl' := [((w.heap.size + 2), [.slice none 0 0]), ((w.heap.size + 3), encA 0 false 0)]) (by simp)
    have hK := hF.sub (bl' := [(Z, [.slice A M.length cap]), ((Z + 1), encA 0 (lookM M k).2 (lookM M k).1)]) (by simp [encA])
    have STEP1 : Hid (∀ w5, Fr w [((w.heap.size + 2), [.slice none 0 0]), ((w.heap.size + 3), encA 0 false 0)] w5 → Fr w [((w.heap.size + 2), [.slice A M.length cap]), ((w.heap.size + 3), encA 0 false 0)] (w5.setCells (w.heap.size + 2) 0 [.slice A M.length cap])) := Lib.hid fun w5 h => h.whole (by omega) (by simp) rfl
    have STEP2 : Hid (∀ w5, Fr w [((w.heap.size + 2), [.slice A M.length cap]), ((w.heap.size + 3), encA 0 false 0)] w5 → Fr w [((w.heap.size + 2), [.slice A M.length cap]), ((w.heap.size + 3), encA 0 (lookM M k).2 (lookM M k).1)] (w5.setCells (w.heap.size + 3) 0 (encA 0 (lookM M k).2 (lookM M k).1))) := Lib.hid fun w5 h => by
      have h2 := (h.sub (bl' := [((w.heap.size + 3), encA 0 false 0), ((w.heap.size + 2), [.slice A M.length cap])]) (by simp)).whole (us := encA 0 (lookM M k).2 (lookM M k).1) (by omega) (by simp) rfl
      exact h2.sub (by simp)
    have STEP3 : Hid (∀ (w5 : World) (n : Nat) (us : List Value), w.heap.size + 2 ≤ n → n ≤ w.heap.size + 3 → Fr w [(Z, [.slice A M.length cap]), ((Z + 1), encA 0 (lookM M k).2 (lookM M k).1)] w5 ∧ RowX encP 2 w5 A (M) → Fr w [(Z, [.slice A M.length cap]), ((Z + 1), encA 0 (lookM M k).2 (lookM M k).1)] (w5.setCells n 0 us) ∧ RowX encP 2 (w5.setCells n 0 us) A (M)) := Lib.hid fun w5 n us h1 h2 h => ⟨h.1.apart (by omega) (by simp; omega) us 0, HRR.out.below (h.1.apart (n := n) (by omega) (by simp; omega) us 0).below⟩
    refine Ord.wp_chain [2, 3] (fun w' => Fr w [(Z, [.slice A M.length cap]), ((Z + 1), encA 0 (lookM M k).2 (lookM M k).1)] w' ∧ RowX encP 2 w' A (M)) (fun j w' => Fr w [((w.heap.size + 2), if j = 0 then [.slice none 0 0] else [.slice A M.length cap]), ((w.heap.size + 3), if j < 2 then encA 0 false 0 else encA 0 (lookM M k).2 (lookM M k).1)] w') (by kernel_rfl) (by kernel_rfl) (by kernel_rfl) ⟨hK.drew, hR9⟩ (by rw [if_pos rfl, if_pos (by omega)]; exact hG.drew) (fun hT => ?_)
    have hT9 := Lib.hid hT
    clear hT
    refine Ord.ch_value (v := .agg [.slice A M.length cap].toArray) hT9.out (by decide) (by rfl) (fun w5 hS => exec_load w5 32 _ rfl Z rfl [.slice A M.length cap] _ (hS.1.range 0 rfl) und32 rfl size32) ?_
    (try simp only [Act.put, List.setIfInBounds_toArray, List.set_cons_zero, List.set_cons_succ])
    refine Ord.ch_value (v := .agg (encA 0 (lookM M k).2 (lookM M k).1).toArray) hT9.out (by decide) (by rfl) (fun w5 hS => exec_load w5 35 _ rfl (Z + 1) rfl (encA 0 (lookM M k).2 (lookM M k).1) _ (hS.1.range 1 rfl) und35 rfl size35) ?_
    (try simp only [Act.put, List.setIfInBounds_toArray, List.set_cons_zero, List.set_cons_succ])
    refine Ord.ch_turn (v := undef) 0 hT9.out rfl (by decide) (Or.inl rfl) (by rfl) ?_ ?_
    · rintro w5 hC5 hA5
      rw [if_pos rfl, if_pos (by omega)] at hA5
      rw [exec_store w5 32 _ _ rfl (w.heap.size + 2) [.slice A M.length cap] rfl rfl (hA5.there 0 rfl (by omega) rfl) size32 (fun v hv => by simp at hv; subst hv; rfl)]
      exact ⟨rfl, STEP3.out _ _ _ (by omega) (by omega) hC5, STEP1.out _ hA5⟩
    (try simp only [Act.put, List.setIfInBounds_toArray, List.set_cons_zero, List.set_cons_succ])
    refine Ord.ch_turn (v := undef) 1 hT9.out rfl (by decide) (Or.inr ⟨2, rfl, by kernel_rfl⟩) (by rfl) ?_ ?_
    · rintro w5 hC5 hA5
      rw [exec_store w5 35 _ _ rfl (w.heap.size + 3) (encA 0 (lookM M k).2 (lookM M k).1) rfl rfl (hA5.there 1 rfl (by omega) rfl) size35 (encA_one _ _ _)]
      exact ⟨rfl, STEP3.out _ _ _ (by omega) (by omega) hC5, STEP2.out _ hA5⟩
    (try simp only [Act.put, List.setIfInBounds_toArray, List.set_cons_zero, List.set_cons_succ])
    repeat (first
      | (refine Ord.ch_value (v := ?_) hT9.out (by decide) (by rfl) ?_ ?_; rotate_left; (focus (intro w5 hS; skip; go_simp <;> with_reducible rfl)); (try simp only [Act.put, List.setIfInBounds_toArray, List.set_cons_zero, List.set_cons_succ]))
      | (refine Ord.ch_off hT9.out (by decide) (by rfl) ?_; (try simp only [Act.put, List.setIfInBounds_toArray, List.set_cons_zero, List.set_cons_succ])))
    refine Ord.InText.nil fun w5 hS => ?_
    clear hT9
    obtain ⟨hC9, hG9⟩ := Ord.chain_end hS
    clear hS
    have hG9' : Fr w [((w.heap.size + 2), [.slice A M.length cap]), ((w.heap.size + 3), encA 0 (lookM M k).2 (lookM M k).1)] w5 := hG9
    go_wp2_with fail
    have e9 : doR M 7 k v = ⟨M, (lookM M k).2, (lookM M k).1, 0⟩ := by unfold doR; rw [if_pos (by omega), if_neg (by simpa [nextR] using h16)]; simp [nextR, ansD, ansV]
    rw [HD.out] at e9
    subst e9
    exact bodyPost_ret (res_cct rfl _ _ (w.heap.size + 2) (w.heap.size + 3) rfl rfl _ _ _ _ (hG9'.range 0 rfl) (hG9'.range 1 rfl) und32 rfl size32 und35 rfl size35) rfl ⟨A, cap, rfl, hC9.2, hN9, .inl rfl, hG9'.below⟩
set_option maxHeartbeats 8000000 in
theorem doR8 {A : Option Addr} {cap : Nat} {M : List (Int × Int)} {w : World} (hm : M.length ≤ 100000) (hr : RowX encP 2 w A M) (hA : A = none → M = []) (k v lv : Int) :
    Calls Try.prog 10 #[.agg #[.slice A M.length cap], .agg #[.int .i64 8, .int .u64 k, .int .u64 v, .int .i64 lv]] w (DoPost w A (doR M 8 k v)) := by
  have hF := ((((Fr.start w).push w.heap.size rfl [.slice A M.length cap] 32).push (w.heap.size + 1) (by simp) [.int .i64 8, .int .u64 k, .int .u64 v, .int .i64 lv] 39).push (w.heap.size + 2) (by simp) [.slice none 0 0] 32).push (w.heap.size + 3) (by simp) (encA 0 false 0) 35
  have HRR := Lib.hid hr
  have CG : Hid (∀ w', Below w.heap.size w w' → Calls Try.prog 12 #[.agg #[.slice A M.length cap], .int .u64 k] w' fun e w'' => e = .returned (.tuple #[.int .u64 (lookM M k).1, .bool (lookM M k).2]) ∧ Below w'.heap.size w' w'') := Lib.hid fun w' h => get_r (by omega) (hr.below h) k
  have CW : Hid (∀ w' y, Below w.heap.size w w' → Calls Try.prog 15 #[.agg #[.slice A M.length cap], .agg #[.int .u64 k, .int .u64 y]] w' fun e w'' => ∃ A' cap', e = .returned (.agg #[.slice A' (putM M k y).length cap']) ∧ Env w' [rowR A' cap' (putM M k y)] w'') := Lib.hid fun w' y h => with_r (by omega) (hr.below h) k y
  have CO : Hid (∀ w', Below w.heap.size w w' → Calls Try.prog 19 #[.agg #[.slice A M.length cap], .int .u64 k] w' fun e w'' => ∃ A' cap', e = .returned (.agg #[.slice A' (remM M k).length cap']) ∧ Env w' [rowR A' cap' (remM M k)] w'') := Lib.hid fun w' h => without_r (by omega) (hr.below h) k
  have HA := Lib.hid hA
  generalize hdd : doR M 8 k v = RR
  have HD := Lib.hid hdd
  clear hr hA hdd
  go_enter Try.func10, Try.ntmps10
  have r0 := hF.rule 3 rfl
  have r1 := hF.rule 2 rfl
  go_wp2_with fail
  refine (CG.out _ hF.below).mono ?_
  rintro o w1 ⟨rfl, hb⟩
  replace hF := hF.over hb
  clear hb r0 r1
  have r0 := hF.rule 3 rfl
  have r1 := hF.rule 2 rfl
  have hZ0 := hF.lt 0 rfl
  go_upto_region 4 with fail
  replace hF := (hF.push w1.heap.size rfl [.slice A M.length cap] 32).push (w1.heap.size + 1) (by simp) [.int .i64 0, .bool false, .int .u64 0] 35
  clear r0 r1
  generalize World.alloc (World.alloc w1 _) _ = w2 at *
  generalize w1.heap.size = Z at *
  have rr1 := hF.rule 4 rfl
  have rr2 := hF.rule 0 rfl
  have ff3 := hF.thaw 0 rfl (by omega)
  go_upto_region 33 with fail
  clear rr1 rr2 ff3
  replace hF := hF.put (by omega) (by simp <;> omega) 1 (by simp) (.bool true)
  generalize World.setCell _ _ _ = w21 at *
  replace hF : Fr w [((Z + 1), [.int .i64 0, .bool true, .int .u64 0]), (Z, [.slice A M.length cap]), ((w.heap.size + 3), encA 0 false 0), ((w.heap.size + 2), [.slice none 0 0]), ((w.heap.size + 1), [.int .i64 8, .int .u64 k, .int .u64 v, .int .i64 lv]), (w.heap.size, [.slice A M.length cap])] w21 := hF
  have hR9 := HRR.out.below hF.below
  have hN9 := HA.out
  have rr4 := hF.rule 1 rfl
  by_cases h16 : 16 < (M).length
  case' pos =>
    have h16' : (16 : Int) < ((M).length : Int) := by omega
    go_upto_region 34 with fail
    clear rr4
    apply wp_region_lit
    refine wpList_buildTo rfl 32 _ rfl (some 100) rfl [Value.slice none 0 0].toArray (by kernel_rfl) ?_
    refine wpList_buildTo rfl 35 _ rfl (some 101) rfl (encA 0 false 0).toArray (by kernel_rfl) ?_
    replace hF := hF.sub (bl' := [((w.heap.size + 2), [.slice none 0 0]), ((Z + 1), [.int .i64 0, .bool true, .int .u64 0]), (Z, [.slice A M.length cap]), ((w.heap.size + 3), encA 0 false 0), ((w.heap.size + 1), [.int .i64 8, .int .u64 k, .int .u64 v, .int .i64 lv]), (w.heap.size, [.slice A M.length cap])]) (by simp)
    refine wpList_store_mid rfl 32 _ _ rfl (w.heap.size + 2) 0 [Value.slice none 0 0].toArray rfl rfl (hF.there 0 rfl (by omega) rfl) size32 (all_oneCell_toArray (fun v hv => by simp at hv; subst hv; rfl)) ?_
    replace hF := hF.whole (us := [.slice none 0 0]) (by omega) (by simp <;> omega) rfl
    generalize World.setCells _ _ _ _ = w8 at *
    replace hF := hF.sub (bl' := [((w.heap.size + 3), encA 0 false 0), ((w.heap.size + 2), [.slice none 0 0]), ((Z + 1), [.int .i64 0, .bool true, .int .u64 0]), (Z, [.slice A M.length cap]), ((w.heap.size + 1), [.int .i64 8, .int .u64 k, .int .u64 v, .int .i64 lv]), (w.heap.size, [.slice A M.length cap])]) (by simp)
    refine wpList_store_mid rfl 35 _ _ rfl (w.heap.size + 3) 0 (encA 0 false 0).toArray rfl rfl (hF.there 0 rfl (by omega) rfl) size35 (all_oneCell_toArray (encA_one _ _ _)) ?_
    replace hF := hF.whole (us := encA 0 false 0) (by omega) (by simp <;> omega) rfl
    generalize World.setCells _ _ _ _ = w8 at *
    go_wp2_with fail
    have e9 : doR M 8 k v = ⟨[], false, 0, 6⟩ := by unfold doR; rw [if_pos (by omega), if_pos (by simpa [nextR] using h16)]
    rw [HD.out] at e9
    subst e9
    exact bodyPost_ret (res_cct rfl _ _ (w.heap.size + 2) (w.heap.size + 3) rfl rfl _ _ _ _ (hF.range 1 rfl) (hF.range 0 rfl) und32 rfl size32 und35 rfl size35) rfl ⟨none, 0, rfl, .inl rfl, fun _ => rfl, .inr (fun b off h => (by cases h)), hF.below⟩
  case' neg =>
    have h16' : ¬ ((16 : Int) < ((M).length : Int)) := by omega
    go_upto_region 35 with fail
    clear rr4
    have hG := hF.sub (bl' := [((w.heap.size + 2), [.slice none 0 0]), ((w.heap.size + 3), encA 0 false 0)]) (by simp)
    have hK := hF.sub (bl' := [(Z, [.slice A M.length cap]), ((Z + 1), encA 0 true 0)]) (by simp [encA])
    have STEP1 : Hid (∀ w5, Fr w [((w.heap.size + 2), [.slice none 0 0]), ((w.heap.size + 3), encA 0 false 0)] w5 → Fr w [((w.heap.size + 2), [.slice A M.length cap]), ((w.heap.size + 3), encA 0 false 0)] (w5.setCells (w.heap.size + 2) 0 [.slice A M.length cap])) := Lib.hid fun w5 h => h.whole (by omega) (by simp) rfl
    have STEP2 : Hid (∀ w5, Fr w [((w.heap.size + 2), [.slice A M.length cap]), ((w.heap.size + 3), encA 0 false 0)] w5 → Fr w [((w.heap.size + 2), [.slice A M.length cap]), ((w.heap.size + 3), encA 0 true 0)] (w5.setCells (w.heap.size + 3) 0 (encA 0 true 0))) := Lib.hid fun w5 h => by
      have h2 := (h.sub (bl' := [((w.heap.size + 3), encA 0 false 0), ((w.heap.size + 2), [.slice A M.length cap])]) (by simp)).whole (us := encA 0 true 0) (by omega) (by simp) rfl
      exact h2.sub (by simp)
    have STEP3 : Hid (∀ (w5 : World) (n : Nat) (us : List Value), w.heap.size + 2 ≤ n → n ≤ w.heap.size + 3 → Fr w [(Z, [.slice A M.length cap]), ((Z + 1), encA 0 true 0)] w5 ∧ RowX encP 2 w5 A (M) → Fr w [(Z, [.slice A M.length cap]), ((Z + 1), encA 0 true 0)] (w5.setCells n 0 us) ∧ RowX encP 2 (w5.setCells n 0 us) A (M)) := Lib.hid fun w5 n us h1 h2 h => ⟨h.1.apart (by omega) (by simp; omega) us 0, HRR.out.below (h.1.apart (n := n) (by omega) (by simp; omega) us 0).below⟩
    refine Ord.wp_chain [2, 3] (fun w' => Fr w [(Z, [.slice A M.length cap]), ((Z + 1), encA 0 true 0)] w' ∧ RowX encP 2 w' A (M)) (fun j w' => Fr w [((w.heap.size + 2), if j = 0 then [.slice none 0 0] else [.slice A M.length cap]), ((w.heap.size + 3), if j < 2 then encA 0 false 0 else encA 0 true 0)] w') (by kernel_rfl) (by kernel_rfl) (by kernel_rfl) ⟨hK.drew, hR9⟩ (by rw [if_pos rfl, if_pos (by omega)]; exact hG.drew) (fun hT => ?_)
    have hT9 := Lib.hid hT
    clear hT
    refine Ord.ch_value (v := .agg [.slice A M.length cap].toArray) hT9.out (by decide) (by rfl) (fun w5 hS => exec_load w5 32 _ rfl Z rfl [.slice A M.length cap] _ (hS.1.range 0 rfl) und32 rfl size32) ?_
    (try simp only [Act.put, List.setIfInBounds_toArray, List.set_cons_zero, List.set_cons_succ])
    refine Ord.ch_value (v := .agg (encA 0 true 0).toArray) hT9.out (by decide) (by rfl) (fun w5 hS => exec_load w5 35 _ rfl (Z + 1) rfl (encA 0 true 0) _ (hS.1.range 1 rfl) und35 rfl size35) ?_
    (try simp only [Act.put, List.setIfInBounds_toArray, List.set_cons_zero, List.set_cons_succ])
    refine Ord.ch_turn (v := undef) 0 hT9.out rfl (by decide) (Or.inl rfl) (by rfl) ?_ ?_
    · rintro w5 hC5 hA5
      rw [if_pos rfl, if_pos (by omega)] at hA5
      rw [exec_store w5 32 _ _ rfl (w.heap.size + 2) [.slice A M.length cap] rfl rfl (hA5.there 0 rfl (by omega) rfl) size32 (fun v hv => by simp at hv; subst hv; rfl)]
      exact ⟨rfl, STEP3.out _ _ _ (by omega) (by omega) hC5, STEP1.out _ hA5⟩
    (try simp only [Act.put, List.setIfInBounds_toArray, List.set_cons_zero, List.set_cons_succ])
    refine Ord.ch_turn (v := undef) 1 hT9.out rfl (by decide) (Or.inr ⟨2, rfl, by kernel_rfl⟩) (by rfl) ?_ ?_
    · rintro w5 hC5 hA5
      rw [exec_store w5 35 _ _ rfl (w.heap.size + 3) (encA 0 true 0) rfl rfl (hA5.there 1 rfl (by omega) rfl) size35 (encA_one _ _ _)]
      exact ⟨rfl, STEP3.out _ _ _ (by omega) (by omega) hC5, STEP2.out _ hA5⟩
    (try simp only [Act.put, List.setIfInBounds_toArray, List.set_cons_zero, List.set_cons_succ])
    repeat (first
      | (refine Ord.ch_value (v := ?_) hT9.out (by decide) (by rfl) ?_ ?_; rotate_left; (focus (intro w5 hS; skip; go_simp <;> with_reducible rfl)); (try simp only [Act.put, List.setIfInBounds_toArray, List.set_cons_zero, List.set_cons_succ]))
      | (refine Ord.ch_off hT9.out (by decide) (by rfl) ?_; (try simp only [Act.put, List.setIfInBounds_toArray, List.set_cons_zero, List.set_cons_succ])))
    refine Ord.InText.nil fun w5 hS => ?_
    clear hT9
    obtain ⟨hC9, hG9⟩ := Ord.chain_end hS
    clear hS
    have hG9' : Fr w [((w.heap.size + 2), [.slice A M.length cap]), ((w.heap.size + 3), encA 0 true 0)] w5 := hG9
    go_wp2_with fail
    have e9 : doR M 8 k v = ⟨M, true, 0, 0⟩ := by unfold doR; rw [if_pos (by omega), if_neg (by simpa [nextR] using h16)]; simp [nextR, ansD, ansV]
    rw [HD.out] at e9
    subst e9
    exact bodyPost_ret (res_cct rfl _ _ (w.heap.size + 2) (w.heap.size + 3) rfl rfl _ _ _ _ (hG9'.range 0 rfl) (hG9'.range 1 rfl) und32 rfl size32 und35 rfl size35) rfl ⟨A, cap, rfl, hC9.2, hN9, .inl rfl, hG9'.below⟩
end Go.Proofs.Ytdeohigggjfjjaa
