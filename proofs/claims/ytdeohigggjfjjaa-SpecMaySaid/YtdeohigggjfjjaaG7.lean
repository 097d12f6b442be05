/- Of every row of pairs, of whatever length, any op and any answer: whether the op may be answered so, and the state then, are the document's: so the law answers true, for every input. -/
import Derived.Test.YtdeohigggjfjjaaG6
import Derived.WalkKit
import Derived.ProofKit
import Derived.OpenShut
import Derived.Deep.SlicePairs
import Derived.Test.YtdeohigggjfjjaaRows

/- The document's answer for layer 21: an op at once, of whatever kind. -/
namespace Go.Proofs.Ytdeohigggjfjjaa
open Go.RowKit Go.Maps
set_option maxRecDepth 100000

set_option maxHeartbeats 8000000 in
theorem doRX {A : Option Addr} {cap : Nat} {M : List (Int × Int)} {w : World} (hm : M.length ≤ 100000) (hr : RowX encP 2 w A M) (hA : A = none → M = []) (kd : Int) (k v lv : Int) (h1 : kd ≠ 1) (h2 : kd ≠ 2) (h3 : kd ≠ 3) (h4 : kd ≠ 4) (h5 : kd ≠ 5) (h6 : kd ≠ 6) (h7 : kd ≠ 7) (h8 : kd ≠ 8) :
    Calls Try.prog 10 #[.agg #[.slice A M.length cap], .agg #[.int .i64 kd, .int .u64 k, .int .u64 v, .int .i64 lv]] w (DoPost w A (doR M kd k v)) := by
  have hF := ((((Fr.start w).push w.heap.size rfl [.slice A M.length cap] 32).push (w.heap.size + 1) (by simp) [.int .i64 kd, .int .u64 k, .int .u64 v, .int .i64 lv] 39).push (w.heap.size + 2) (by simp) [.slice none 0 0] 32).push (w.heap.size + 3) (by simp) (encA 0 false 0) 35
  have HRR := Lib.hid hr
  have CG : Hid (∀ w', Below w.heap.size w w' → Calls Try.prog 12 #[.agg #[.slice A M.length cap], .int .u64 k] w' fun e w'' => e = .returned (.tuple #[.int .u64 (lookM M k).1, .bool (lookM M k).2]) ∧ Below w'.heap.size w' w'') := Lib.hid fun w' h => get_r (by omega) (hr.below h) k
  have CW : Hid (∀ w' y, Below w.heap.size w w' → Calls Try.prog 15 #[.agg #[.slice A M.length cap], .agg #[.int .u64 k, .int .u64 y]] w' fun e w'' => ∃ A' cap', e = .returned (.agg #[.slice A' (putM M k y).length cap']) ∧ Env w' [rowR A' cap' (putM M k y)] w'') := Lib.hid fun w' y h => with_r (by omega) (hr.below h) k y
  have CO : Hid (∀ w', Below w.heap.size w w' → Calls Try.prog 19 #[.agg #[.slice A M.length cap], .int .u64 k] w' fun e w'' => ∃ A' cap', e = .returned (.agg #[.slice A' (remM M k).length cap']) ∧ Env w' [rowR A' cap' (remM M k)] w'') := Lib.hid fun w' h => without_r (by omega) (hr.below h) k
  have HA := Lib.hid hA
  generalize hdd : doR M kd k v = RR
  have HD := Lib.hid hdd
  clear hr hA hdd
  go_enter Try.func10, Try.ntmps10
  have r0 := hF.rule 3 rfl
  have r1 := hF.rule 2 rfl
  go_wp2_with fail
  refine (CG.out _ hF.below).mono ?_
  rintro o w1 ⟨rfl, hb⟩
  replace hF := hF.over hb
  clear hb r0 r1
  have r0 := hF.rule 3 rfl
  have r1 := hF.rule 2 rfl
  have hZ0 := hF.lt 0 rfl
  go_upto_region 4 with fail
  replace hF := (hF.push w1.heap.size rfl [.slice A M.length cap] 32).push (w1.heap.size + 1) (by simp) [.int .i64 0, .bool false, .int .u64 0] 35
  clear r0 r1
  generalize World.alloc (World.alloc w1 _) _ = w2 at *
  generalize w1.heap.size = Z at *
  have b1 : (kd == 1) = false := by simpa using h1
  have b2 : (kd == 2) = false := by simpa using h2
  have b3 : (kd == 3) = false := by simpa using h3
  have b4 : (kd == 4) = false := by simpa using h4
  have b5 : (kd == 5) = false := by simpa using h5
  have b6 : (kd == 6) = false := by simpa using h6
  have b7 : (kd == 7) = false := by simpa using h7
  have b8 : (kd == 8) = false := by simpa using h8
  have rr1 := hF.rule 4 rfl
  go_upto_region 5 with fail
  clear rr1
  have hG := hF.sub (bl' := [((w.heap.size + 2), [.slice none 0 0]), ((w.heap.size + 3), encA 0 false 0)]) (by simp)
  have hK := hF.sub (bl' := [((Z + 1), encA 0 false 0)]) (by simp [encA])
  have STEP1 : Hid (∀ w5, Fr w [((w.heap.size + 2), [.slice none 0 0]), ((w.heap.size + 3), encA 0 false 0)] w5 → Fr w [((w.heap.size + 2), [.slice none 0 0]), ((w.heap.size + 3), encA 0 false 0)] (w5.setCells (w.heap.size + 2) 0 [.slice none 0 0])) := Lib.hid fun w5 h => h.whole (by omega) (by simp) rfl
  have STEP2 : Hid (∀ w5, Fr w [((w.heap.size + 2), [.slice none 0 0]), ((w.heap.size + 3), encA 0 false 0)] w5 → Fr w [((w.heap.size + 2), [.slice none 0 0]), ((w.heap.size + 3), encA 0 false 0)] (w5.setCells (w.heap.size + 3) 0 (encA 0 false 0))) := Lib.hid fun w5 h => by
    have h2 := (h.sub (bl' := [((w.heap.size + 3), encA 0 false 0), ((w.heap.size + 2), [.slice none 0 0])]) (by simp)).whole (us := encA 0 false 0) (by omega) (by simp) rfl
    exact h2.sub (by simp)
  have STEP3 : Hid (∀ (w5 : World) (n : Nat) (us : List Value), w.heap.size + 2 ≤ n → n ≤ w.heap.size + 3 → Fr w [((Z + 1), encA 0 false 0)] w5 → Fr w [((Z + 1), encA 0 false 0)] (w5.setCells n 0 us)) := Lib.hid fun w5 n us h1 h2 h => h.apart (by omega) (by simp; omega) us 0
  refine Ord.wp_chain [2, 3] (fun w' => Fr w [((Z + 1), encA 0 false 0)] w') (fun j w' => Fr w [((w.heap.size + 2), [.slice none 0 0]), ((w.heap.size + 3), encA 0 false 0)] w' ∧ j = j) (by kernel_rfl) (by kernel_rfl) (by kernel_rfl) hK.drew ⟨hG.drew, rfl⟩ (fun hT => ?_)
  have hT9 := Lib.hid hT
  clear hT
  refine Ord.ch_value (v := .agg [Value.slice none 0 0].toArray) hT9.out (by decide) (by rfl) (fun w5 hS => by kernel_rfl) ?_
  (try simp only [Act.put, List.setIfInBounds_toArray, List.set_cons_zero, List.set_cons_succ])
  refine Ord.ch_value (v := .agg (encA 0 false 0).toArray) hT9.out (by decide) (by rfl) (fun w5 hS => exec_load w5 35 _ rfl (Z + 1) rfl (encA 0 false 0) _ (hS.range 0 rfl) und35 rfl size35) ?_
  (try simp only [Act.put, List.setIfInBounds_toArray, List.set_cons_zero, List.set_cons_succ])
  refine Ord.ch_turn (v := undef) 0 hT9.out rfl (by decide) (Or.inl rfl) (by rfl) ?_ ?_
  · rintro w5 hC5 hA5
    rw [exec_store w5 32 _ _ rfl (w.heap.size + 2) [Value.slice none 0 0] rfl rfl (hA5.1.there 0 rfl (by omega) rfl) size32 (fun v hv => by simp at hv; subst hv; rfl)]
    exact ⟨rfl, STEP3.out _ _ _ (by omega) (by omega) hC5, STEP1.out _ hA5.1, by first | rfl | trivial⟩
  (try simp only [Act.put, List.setIfInBounds_toArray, List.set_cons_zero, List.set_cons_succ])
  refine Ord.ch_turn (v := undef) 1 hT9.out rfl (by decide) (Or.inr ⟨2, rfl, by kernel_rfl⟩) (by rfl) ?_ ?_
  · rintro w5 hC5 hA5
    rw [exec_store w5 35 _ _ rfl (w.heap.size + 3) (encA 0 false 0) rfl rfl (hA5.1.there 1 rfl (by omega) rfl) size35 (encA_one _ _ _)]
    exact ⟨rfl, STEP3.out _ _ _ (by omega) (by omega) hC5, STEP2.out _ hA5.1, by first | rfl | trivial⟩
  (try simp only [Act.put, List.setIfInBounds_toArray, List.set_cons_zero, List.set_cons_succ])
  repeat (first
    | (refine Ord.ch_value (v := ?_) hT9.out (by decide) (by rfl) ?_ ?_; rotate_left; (focus (intro w5 hS; skip; go_simp <;> with_reducible rfl)); (try simp only [Act.put, List.setIfInBounds_toArray, List.set_cons_zero, List.set_cons_succ]))
    | (refine Ord.ch_off hT9.out (by decide) (by rfl) ?_; (try simp only [Act.put, List.setIfInBounds_toArray, List.set_cons_zero, List.set_cons_succ])))
  refine Ord.InText.nil fun w5 hS => ?_
  clear hT9
  obtain ⟨hC9, hG9⟩ := Ord.chain_end hS
  clear hS
  have hG9' := hG9.1
  go_wp2_with fail
  have e9 : doR M kd k v = ⟨[], false, 0, 8⟩ := by unfold doR; rw [if_neg (by omega)]
  rw [HD.out] at e9
  subst e9
  exact bodyPost_ret (res_cct rfl _ _ (w.heap.size + 2) (w.heap.size + 3) rfl rfl _ _ _ _ (hG9'.range 0 rfl) (hG9'.range 1 rfl) und32 rfl size32 und35 rfl size35) rfl ⟨none, 0, rfl, .inl rfl, fun _ => rfl, .inr (fun b off h => (by cases h)), hG9'.below⟩
theorem do_r {A : Option Addr} {cap : Nat} {M : List (Int × Int)} {w : World} (hm : M.length ≤ 100000) (hr : RowX encP 2 w A M) (hA : A = none → M = []) (kd k v lv : Int) :
    Calls Try.prog 10 #[.agg #[.slice A M.length cap], .agg #[.int .i64 kd, .int .u64 k, .int .u64 v, .int .i64 lv]] w (DoPost w A (doR M kd k v)) := by
  cases hb : (lookM M k).2
  all_goals
    by_cases h1 : kd = 1
    · subst h1; first | exact doR1t hm hr hA k v lv hb | exact doR1f hm hr hA k v lv hb
    by_cases h2 : kd = 2
    · subst h2; exact doR2 hm hr hA k v lv
    by_cases h3 : kd = 3
    · subst h3; exact doR3 hm hr hA k v lv
    by_cases h4 : kd = 4
    · subst h4; exact doR4 hm hr hA k v lv
    by_cases h5 : kd = 5
    · subst h5; first | exact doR5t hm hr hA k v lv hb | exact doR5f hm hr hA k v lv hb
    by_cases h6 : kd = 6
    · subst h6; exact doR6 hm hr hA k v lv
    by_cases h7 : kd = 7
    · subst h7; exact doR7 hm hr hA k v lv
    by_cases h8 : kd = 8
    · subst h8; exact doR8 hm hr hA k v lv
    exact doRX hm hr hA kd k v lv h1 h2 h3 h4 h5 h6 h7 h8
end Go.Proofs.Ytdeohigggjfjjaa

/- The document's answer for layer 21: whether an op may be answered so. -/
namespace Go.Proofs.Ytdeohigggjfjjaa
open Go.RowKit Go.Maps
set_option maxRecDepth 100000

def takesR (kd : Int) : Bool := decide (kd = 1) || decide (kd = 4) || decide (kd = 5)
def refR (kd e : Int) : Bool := (decide (e = 6) && takesR kd) || (decide (e = 7) && (takesR kd || decide (kd = 8)))
def mayR (M : List (Int × Int)) (kd k v e : Int) (d : Bool) (x : Int) : List (Int × Int) × Bool :=
  if e ≠ 0 then (if d = true ∨ x ≠ 0 then ([], false) else if refR kd e then (M, true) else ([], false))
  else if (doR M kd k v).E = 0 ∧ d = (doR M kd k v).D ∧ (x = (doR M kd k v).V ∨ kd = 8) then ((doR M kd k v).M, true) else ([], false)
def MayPost (w : World) (R : List (Int × Int) × Bool) (e : Ending) (w' : World) : Prop :=
  ∃ A' cap', e = .returned (.tuple #[.agg #[.slice A' R.1.length cap'], .bool R.2]) ∧ RowX encP 2 w' A' R.1 ∧ (A' = none → R.1 = []) ∧ Below w.heap.size w w'
set_option maxHeartbeats 16000000 in
theorem mayRef_r {A : Option Addr} {cap : Nat} {M : List (Int × Int)} {w : World} (hr : RowX encP 2 w A M) (hA : A = none → M = []) (kd k v lv e : Int) (d : Bool) (x : Int) (he : e ≠ 0) :
    Calls Try.prog 17 #[.agg #[.slice A M.length cap], .agg #[.int .i64 kd, .int .u64 k, .int .u64 v, .int .i64 lv], .agg #[.int .i64 e, .bool d, .int .u64 x]] w (MayPost w (mayR M kd k v e d x)) := by
  have hF := ((((Fr.start w).push w.heap.size rfl [.slice A M.length cap] 32).push (w.heap.size + 1) (by simp) [.int .i64 kd, .int .u64 k, .int .u64 v, .int .i64 lv] 39).push (w.heap.size + 2) (by simp) [.int .i64 e, .bool d, .int .u64 x] 35).push (w.heap.size + 3) (by simp) [.slice none 0 0] 32
  have HR := Lib.hid hr
  have HA := Lib.hid hA
  clear hr hA
  have hmr : Hid (mayR M kd k v e d x = if d = true ∨ x ≠ 0 then ([], false) else if refR kd e then (M, true) else ([], false)) := Lib.hid (by unfold mayR; rw [if_pos he])
  generalize mayR M kd k v e d x = R at *
  have he' : (e == 0) = false := by simpa using he
  have r0 := hF.rule 0 rfl
  have r1 := hF.rule 1 rfl
  have r2 := hF.rule 2 rfl
  have r3 := hF.rule 3 rfl
  have f0 := hF.thaw 0 rfl (by omega)
  have fin0 : Hid (∀ u, Fr w [(w.heap.size + 3, [u])] ((((w.alloc (.cells #[.slice A M.length cap] 32)).alloc (.cells #[.int .i64 kd, .int .u64 k, .int .u64 v, .int .i64 lv] 39)).alloc (.cells #[.int .i64 e, .bool d, .int .u64 x] 35)).alloc (.cells #[u] 32))) := Lib.hid fun u => ((((Fr.start w).push w.heap.size rfl [.slice A M.length cap] 32).push (w.heap.size + 1) (by simp) [.int .i64 kd, .int .u64 k, .int .u64 v, .int .i64 lv] 39).push (w.heap.size + 2) (by simp) [.int .i64 e, .bool d, .int .u64 x] 35).push (w.heap.size + 3) (by simp) [u] 32 |>.sub (by simp)
  by_cases hd : d = true ∨ x ≠ 0
  · have hR : R = ([], false) := by rw [hmr.out, if_pos hd]
    subst hR
    cases hdd : d
    · have hx : (x == 0) = false := by
        rcases hd with h | h
        · rw [hdd] at h; cases h
        · simpa using h
      subst hdd
      go_enter Try.func17, Try.ntmps17
      go_wp2_with fail
      exact bodyPost_ret (res_ct rfl _ _ (w.heap.size + 3) rfl [.slice none 0 0] _ ((fin0.out (.slice none 0 0)).range 0 rfl) und32 rfl size32) rfl ⟨none, 0, rfl, .inl rfl, fun _ => rfl, (fin0.out (.slice none 0 0)).below⟩
    · subst hdd
      go_enter Try.func17, Try.ntmps17
      go_wp2_with fail
      exact bodyPost_ret (res_ct rfl _ _ (w.heap.size + 3) rfl [.slice none 0 0] _ ((fin0.out (.slice none 0 0)).range 0 rfl) und32 rfl size32) rfl ⟨none, 0, rfl, .inl rfl, fun _ => rfl, (fin0.out (.slice none 0 0)).below⟩
  · have hd0 : d = false := by cases d <;> simp_all
    have hx0 : x = 0 := by
      by_cases h : x = 0
      · exact h
      · exact absurd (.inr h) hd
    subst hd0 hx0
    have hmr2 : Hid (R = if refR kd e then (M, true) else ([], false)) := Lib.hid (by rw [hmr.out, if_neg hd])
    clear hmr hd
    by_cases e6 : e = 6
    · subst e6
      by_cases k1 : kd = 1
      · subst k1
        have hR : R = (M, true) := by rw [hmr2.out]; simp [refR, takesR, *]
        subst hR
        go_enter Try.func17, Try.ntmps17
        go_wp2_with fail
        exact bodyPost_ret (res_ct rfl _ _ (w.heap.size + 3) rfl [.slice A M.length cap] _ ((fin0.out (.slice A M.length cap)).range 0 rfl) und32 rfl size32) rfl ⟨A, cap, rfl, HR.out.below (fin0.out (.slice A M.length cap)).below, HA.out, (fin0.out (.slice A M.length cap)).below⟩
      have c1 : (kd == 1) = false := by simpa using k1
      by_cases k4 : kd = 4
      · subst k4
        have hR : R = (M, true) := by rw [hmr2.out]; simp [refR, takesR, *]
        subst hR
        go_enter Try.func17, Try.ntmps17
        go_wp2_with fail
        exact bodyPost_ret (res_ct rfl _ _ (w.heap.size + 3) rfl [.slice A M.length cap] _ ((fin0.out (.slice A M.length cap)).range 0 rfl) und32 rfl size32) rfl ⟨A, cap, rfl, HR.out.below (fin0.out (.slice A M.length cap)).below, HA.out, (fin0.out (.slice A M.length cap)).below⟩
      have c4 : (kd == 4) = false := by simpa using k4
      by_cases k5 : kd = 5
      · subst k5
        have hR : R = (M, true) := by rw [hmr2.out]; simp [refR, takesR, *]
        subst hR
        go_enter Try.func17, Try.ntmps17
        go_wp2_with fail
        exact bodyPost_ret (res_ct rfl _ _ (w.heap.size + 3) rfl [.slice A M.length cap] _ ((fin0.out (.slice A M.length cap)).range 0 rfl) und32 rfl size32) rfl ⟨A, cap, rfl, HR.out.below (fin0.out (.slice A M.length cap)).below, HA.out, (fin0.out (.slice A M.length cap)).below⟩
      have c5 : (kd == 5) = false := by simpa using k5
      have hR : R = ([], false) := by rw [hmr2.out]; simp [refR, takesR, *]
      subst hR
      go_enter Try.func17, Try.ntmps17
      go_wp2_with fail
      exact bodyPost_ret (res_ct rfl _ _ (w.heap.size + 3) rfl [.slice none 0 0] _ ((fin0.out (.slice none 0 0)).range 0 rfl) und32 rfl size32) rfl ⟨none, 0, rfl, .inl rfl, fun _ => rfl, (fin0.out (.slice none 0 0)).below⟩
    have d6 : (e == 6) = false := by simpa using e6
    by_cases e7 : e = 7
    · subst e7
      by_cases k1 : kd = 1
      · subst k1
        have hR : R = (M, true) := by rw [hmr2.out]; simp [refR, takesR, *]
        subst hR
        go_enter Try.func17, Try.ntmps17
        go_wp2_with fail
        exact bodyPost_ret (res_ct rfl _ _ (w.heap.size + 3) rfl [.slice A M.length cap] _ ((fin0.out (.slice A M.length cap)).range 0 rfl) und32 rfl size32) rfl ⟨A, cap, rfl, HR.out.below (fin0.out (.slice A M.length cap)).below, HA.out, (fin0.out (.slice A M.length cap)).below⟩
      have c1 : (kd == 1) = false := by simpa using k1
      by_cases k4 : kd = 4
      · subst k4
        have hR : R = (M, true) := by rw [hmr2.out]; simp [refR, takesR, *]
        subst hR
        go_enter Try.func17, Try.ntmps17
        go_wp2_with fail
        exact bodyPost_ret (res_ct rfl _ _ (w.heap.size + 3) rfl [.slice A M.length cap] _ ((fin0.out (.slice A M.length cap)).range 0 rfl) und32 rfl size32) rfl ⟨A, cap, rfl, HR.out.below (fin0.out (.slice A M.length cap)).below, HA.out, (fin0.out (.slice A M.length cap)).below⟩
      have c4 : (kd == 4) = false := by simpa using k4
      by_cases k5 : kd = 5
      · subst k5
        have hR : R = (M, true) := by rw [hmr2.out]; simp [refR, takesR, *]
        subst hR
        go_enter Try.func17, Try.ntmps17
        go_wp2_with fail
        exact bodyPost_ret (res_ct rfl _ _ (w.heap.size + 3) rfl [.slice A M.length cap] _ ((fin0.out (.slice A M.length cap)).range 0 rfl) und32 rfl size32) rfl ⟨A, cap, rfl, HR.out.below (fin0.out (.slice A M.length cap)).below, HA.out, (fin0.out (.slice A M.length cap)).below⟩
      have c5 : (kd == 5) = false := by simpa using k5
      by_cases k8 : kd = 8
      · subst k8
        have hR : R = (M, true) := by rw [hmr2.out]; simp [refR, takesR, *]
        subst hR
        go_enter Try.func17, Try.ntmps17
        go_wp2_with fail
        exact bodyPost_ret (res_ct rfl _ _ (w.heap.size + 3) rfl [.slice A M.length cap] _ ((fin0.out (.slice A M.length cap)).range 0 rfl) und32 rfl size32) rfl ⟨A, cap, rfl, HR.out.below (fin0.out (.slice A M.length cap)).below, HA.out, (fin0.out (.slice A M.length cap)).below⟩
      have c8 : (kd == 8) = false := by simpa using k8
      have hR : R = ([], false) := by rw [hmr2.out]; simp [refR, takesR, *]
      subst hR
      go_enter Try.func17, Try.ntmps17
      go_wp2_with fail
      exact bodyPost_ret (res_ct rfl _ _ (w.heap.size + 3) rfl [.slice none 0 0] _ ((fin0.out (.slice none 0 0)).range 0 rfl) und32 rfl size32) rfl ⟨none, 0, rfl, .inl rfl, fun _ => rfl, (fin0.out (.slice none 0 0)).below⟩
    have d7 : (e == 7) = false := by simpa using e7
    by_cases k1 : kd = 1
    · subst k1
      have hR : R = ([], false) := by rw [hmr2.out]; simp [refR, takesR, *]
      subst hR
      go_enter Try.func17, Try.ntmps17
      go_wp2_with fail
      exact bodyPost_ret (res_ct rfl _ _ (w.heap.size + 3) rfl [.slice none 0 0] _ ((fin0.out (.slice none 0 0)).range 0 rfl) und32 rfl size32) rfl ⟨none, 0, rfl, .inl rfl, fun _ => rfl, (fin0.out (.slice none 0 0)).below⟩
    have c1 : (kd == 1) = false := by simpa using k1
    by_cases k4 : kd = 4
    · subst k4
      have hR : R = ([], false) := by rw [hmr2.out]; simp [refR, takesR, *]
      subst hR
      go_enter Try.func17, Try.ntmps17
      go_wp2_with fail
      exact bodyPost_ret (res_ct rfl _ _ (w.heap.size + 3) rfl [.slice none 0 0] _ ((fin0.out (.slice none 0 0)).range 0 rfl) und32 rfl size32) rfl ⟨none, 0, rfl, .inl rfl, fun _ => rfl, (fin0.out (.slice none 0 0)).below⟩
    have c4 : (kd == 4) = false := by simpa using k4
    by_cases k5 : kd = 5
    · subst k5
      have hR : R = ([], false) := by rw [hmr2.out]; simp [refR, takesR, *]
      subst hR
      go_enter Try.func17, Try.ntmps17
      go_wp2_with fail
      exact bodyPost_ret (res_ct rfl _ _ (w.heap.size + 3) rfl [.slice none 0 0] _ ((fin0.out (.slice none 0 0)).range 0 rfl) und32 rfl size32) rfl ⟨none, 0, rfl, .inl rfl, fun _ => rfl, (fin0.out (.slice none 0 0)).below⟩
    have c5 : (kd == 5) = false := by simpa using k5
    have hR : R = ([], false) := by rw [hmr2.out]; simp [refR, takesR, *]
    subst hR
    go_enter Try.func17, Try.ntmps17
    go_wp2_with fail
    exact bodyPost_ret (res_ct rfl _ _ (w.heap.size + 3) rfl [.slice none 0 0] _ ((fin0.out (.slice none 0 0)).range 0 rfl) und32 rfl size32) rfl ⟨none, 0, rfl, .inl rfl, fun _ => rfl, (fin0.out (.slice none 0 0)).below⟩
end Go.Proofs.Ytdeohigggjfjjaa

/- The document's answer for layer 21: whether an op may be answered so, where nothing is refused. -/
namespace Go.Proofs.Ytdeohigggjfjjaa
open Go.RowKit Go.Maps
set_option maxRecDepth 100000

set_option maxHeartbeats 16000000 in
theorem mayOk_r {A : Option Addr} {cap : Nat} {M : List (Int × Int)} {w : World} (hm : M.length ≤ 100000) (hr : RowX encP 2 w A M) (hA : A = none → M = []) (hAp : ∀ b off, A = some ⟨b, off, none⟩ → b < w.heap.size) (kd k v lv : Int) (d : Bool) (x : Int) :
    Calls Try.prog 17 #[.agg #[.slice A M.length cap], .agg #[.int .i64 kd, .int .u64 k, .int .u64 v, .int .i64 lv], .agg #[.int .i64 0, .bool d, .int .u64 x]] w (MayPost w (mayR M kd k v 0 d x)) := by
  have hF := ((((Fr.start w).push w.heap.size rfl [.slice A M.length cap] 32).push (w.heap.size + 1) (by simp) [.int .i64 kd, .int .u64 k, .int .u64 v, .int .i64 lv] 39).push (w.heap.size + 2) (by simp) [.int .i64 0, .bool d, .int .u64 x] 35).push (w.heap.size + 3) (by simp) [.slice none 0 0] 32
  have CD := Lib.hid (do_r (cap := cap) hm (hr.below hF.below) hA kd k v lv)
  have hmr : Hid (mayR M kd k v 0 d x = if (doR M kd k v).E = 0 ∧ d = (doR M kd k v).D ∧ (x = (doR M kd k v).V ∨ kd = 8) then ((doR M kd k v).M, true) else ([], false)) := Lib.hid (by unfold mayR; rw [if_neg (by simp)])
  generalize mayR M kd k v 0 d x = R at *
  generalize doR M kd k v = O at *
  obtain ⟨L, D, V, E⟩ := O
  clear hr hA
  have r0 := hF.rule 0 rfl
  have r1 := hF.rule 1 rfl
  have r2 := hF.rule 2 rfl
  have r3 := hF.rule 3 rfl
  go_enter Try.func17, Try.ntmps17
  go_wp2_with fail
  refine CD.out.mono ?_
  rintro o w2 ⟨A9, c9, rfl, hR9, hN9, hor, hb⟩
  have hA9 : ∀ b off, A9 = some ⟨b, off, none⟩ → b ≠ w.heap.size + 3 := by
    rcases hor with h | h
    · subst h; intro b off e; have := hAp b off e; omega
    · intro b off e; have := h b off e; simp [szOf] at this; omega
  clear hor
  replace hF := hF.over hb
  clear hb r0 r1 r2 r3 CD
  simp only at hR9 hN9 hmr ⊢
  unfold encA
  have hZ0 := hF.lt 0 rfl
  have r0 := hF.rule 0 rfl
  go_upto_region 9 with fail
  replace hF := (hF.push w2.heap.size rfl [.slice A9 L.length c9] 32).push (w2.heap.size + 1) (by simp) [.int .i64 0, .bool D, .int .u64 V] 35
  replace hR9 := (hR9.below ((Below.refl _ w2).alloc (Nat.le_refl _) (.cells [Value.slice A9 L.length c9].toArray 32))).below ((Below.refl _ _).alloc (Nat.le_refl _) (.cells [Value.int .i64 0, .bool D, .int .u64 V].toArray 35))
  clear r0
  generalize World.alloc (World.alloc w2 _) _ = w3 at *
  generalize w2.heap.size = Z at *
  replace hF := hF.sub (bl' := [(w.heap.size + 3, [.slice none 0 0]), (Z, [.slice A9 L.length c9]), (Z + 1, [.int .i64 0, .bool D, .int .u64 V]), (w.heap.size + 2, [.int .i64 0, .bool d, .int .u64 x]), (w.heap.size + 1, [.int .i64 kd, .int .u64 k, .int .u64 v, .int .i64 lv])]) (by simp)
  have r0 := hF.rule 0 rfl
  have r1 := hF.rule 1 rfl
  have r2 := hF.rule 2 rfl
  have r3 := hF.rule 3 rfl
  have r4 := hF.rule 4 rfl
  have f0 := hF.thaw 0 rfl (by omega)
  by_cases hE : E = 0
  · subst hE
    by_cases hd : d = D
    · subst hd
      by_cases h8 : kd = 8
      · subst h8
        by_cases hx : x = V
        · subst hx
          have hR : R = (L, true) := by rw [hmr.out]; simp [*]
          subst hR
          go_wp2_with fail
          have hG := hF.put (by omega) (by simp <;> omega) 0 (by simp) (.slice A9 L.length c9)
          have hG' := hG.sub (bl' := [(w.heap.size + 3, [.slice A9 L.length c9])]) (by simp)
          exact bodyPost_ret (res_ct rfl _ _ (w.heap.size + 3) rfl [.slice A9 L.length c9] _ (hG'.range 0 rfl) und32 rfl size32) rfl ⟨A9, c9, rfl, hR9.put (fun b off e => hA9 b off e) 0 _, hN9, hG'.below⟩
        · have hx' : (x == V) = false := by simpa using hx
          have hR : R = (L, true) := by rw [hmr.out]; simp [*]
          subst hR
          go_wp2_with fail
          have hG := hF.put (by omega) (by simp <;> omega) 0 (by simp) (.slice A9 L.length c9)
          have hG' := hG.sub (bl' := [(w.heap.size + 3, [.slice A9 L.length c9])]) (by simp)
          exact bodyPost_ret (res_ct rfl _ _ (w.heap.size + 3) rfl [.slice A9 L.length c9] _ (hG'.range 0 rfl) und32 rfl size32) rfl ⟨A9, c9, rfl, hR9.put (fun b off e => hA9 b off e) 0 _, hN9, hG'.below⟩
      · have h8' : (kd == 8) = false := by simpa using h8
        by_cases hx : x = V
        · subst hx
          have hR : R = (L, true) := by rw [hmr.out]; simp [*]
          subst hR
          go_wp2_with fail
          have hG := hF.put (by omega) (by simp <;> omega) 0 (by simp) (.slice A9 L.length c9)
          have hG' := hG.sub (bl' := [(w.heap.size + 3, [.slice A9 L.length c9])]) (by simp)
          exact bodyPost_ret (res_ct rfl _ _ (w.heap.size + 3) rfl [.slice A9 L.length c9] _ (hG'.range 0 rfl) und32 rfl size32) rfl ⟨A9, c9, rfl, hR9.put (fun b off e => hA9 b off e) 0 _, hN9, hG'.below⟩
        · have hx' : (x == V) = false := by simpa using hx
          have hR : R = ([], false) := by rw [hmr.out]; simp [*]
          subst hR
          go_wp2_with fail
          rotate_left
          · rename_i hh; exfalso; rcases hh with hh | hh <;> simp at hh <;> contradiction
          have hG := hF.put (by omega) (by simp <;> omega) 0 (by simp) (.slice none 0 0)
          have hG' := hG.sub (bl' := [(w.heap.size + 3, [.slice none 0 0])]) (by simp)
          exact bodyPost_ret (res_ct rfl _ _ (w.heap.size + 3) rfl [.slice none 0 0] _ (hG'.range 0 rfl) und32 rfl size32) rfl ⟨none, 0, rfl, .inl rfl, fun _ => rfl, hG'.below⟩
    · have hd' : (d == D) = false := by simpa using hd
      have hR : R = ([], false) := by rw [hmr.out]; simp [*]
      subst hR
      go_wp2_with fail
      have hG := hF.put (by omega) (by simp <;> omega) 0 (by simp) (.slice none 0 0)
      have hG' := hG.sub (bl' := [(w.heap.size + 3, [.slice none 0 0])]) (by simp)
      exact bodyPost_ret (res_ct rfl _ _ (w.heap.size + 3) rfl [.slice none 0 0] _ (hG'.range 0 rfl) und32 rfl size32) rfl ⟨none, 0, rfl, .inl rfl, fun _ => rfl, hG'.below⟩
  · have hE' : (E == 0) = false := by simpa using hE
    have hR : R = ([], false) := by rw [hmr.out]; simp [*]
    subst hR
    go_wp2_with fail
    have hG := hF.put (by omega) (by simp <;> omega) 0 (by simp) (.slice none 0 0)
    have hG' := hG.sub (bl' := [(w.heap.size + 3, [.slice none 0 0])]) (by simp)
    exact bodyPost_ret (res_ct rfl _ _ (w.heap.size + 3) rfl [.slice none 0 0] _ (hG'.range 0 rfl) und32 rfl size32) rfl ⟨none, 0, rfl, .inl rfl, fun _ => rfl, hG'.below⟩

theorem may_r {A : Option Addr} {cap : Nat} {M : List (Int × Int)} {w : World} (hm : M.length ≤ 100000) (hr : RowX encP 2 w A M) (hA : A = none → M = []) (hAp : ∀ b off, A = some ⟨b, off, none⟩ → b < w.heap.size) (kd k v lv e : Int) (d : Bool) (x : Int) :
    Calls Try.prog 17 #[.agg #[.slice A M.length cap], .agg #[.int .i64 kd, .int .u64 k, .int .u64 v, .int .i64 lv], .agg #[.int .i64 e, .bool d, .int .u64 x]] w (MayPost w (mayR M kd k v e d x)) := by
  by_cases he : e = 0
  · subst he; exact mayOk_r hm hr hA hAp kd k v lv d x
  · exact mayRef_r hr hA kd k v lv e d x he
end Go.Proofs.Ytdeohigggjfjjaa

/- What may be answered: the two answers are the same. -/
namespace Go.Proofs.Ytdeohigggjfjjaa
open Go.RowKit Go.Maps
set_option maxRecDepth 100000

theorem look_mem (M : List (Int × Int)) (k : Int) : ((lookM M k).2 = true → (k, (lookM M k).1) ∈ M) ∧ ((lookM M k).2 = false → (lookM M k).1 = 0) := by
  induction M with
  | nil => simp [lookM]
  | cons p M ih =>
    unfold lookM
    by_cases e : p.1 = k
    · subst e; simp
    · rw [if_neg e]
      exact ⟨fun h => List.mem_cons_of_mem _ (ih.1 h), ih.2⟩
theorem look_same {S M : List (Int × Int)} (hS : Up S) (hp : M.Perm S) (k : Int) : lookM M k = (getK S k, hasK S k) := by
  have h2 : (lookM M k).2 = hasK S k := by
    rw [look_iff, Bool.eq_iff_iff, has_iff hS, decide_eq_true_eq, List.mem_map]
    constructor
    · rintro ⟨⟨a, b⟩, hq, rfl⟩; exact ⟨b, hp.mem_iff.1 hq⟩
    · rintro ⟨v, hv⟩; exact ⟨(k, v), hp.mem_iff.2 hv, rfl⟩
  refine Prod.ext ?_ h2
  cases hh : hasK S k with
  | true => exact val_uniq hS (hp.mem_iff.1 ((look_mem M k).1 (h2.trans hh))) (get_mem hS hh)
  | false => rw [(look_mem M k).2 (h2.trans hh), get_no hh]
theorem do_same {S M : List (Int × Int)} (hS : Up S) (hn : S.length ≤ 16) (hp : M.Perm S) (kd k v : Int) :
    (doR M kd k v).E = (doK S kd k v).e ∧ Up (doK S kd k v).l ∧ ((doK S kd k v).e = 0 → (doR M kd k v).D = (doK S kd k v).d ∧ (doR M kd k v).V = (doK S kd k v).v ∧ (doR M kd k v).M.Perm (doK S kd k v).l) := by
  have hl := look_same hS hp k
  have hM := hp.length_eq
  have h0 := put_ins hS hp k 0
  have hv := put_ins hS hp k v
  have hd := rem_del hS hp k
  have l0 := h0.length_eq
  have lv := hv.length_eq
  have ld := rem_len M k
  have w0 := with_len hS hn k 0
  have wv := with_len hS hn k v
  have u0 := ins_up hS k 0
  have uv := ins_up hS k v
  have ud := del_up hS k
  by_cases h8 : 1 ≤ kd ∧ kd ≤ 8
  · have : kd = 1 ∨ kd = 2 ∨ kd = 3 ∨ kd = 4 ∨ kd = 5 ∨ kd = 6 ∨ kd = 7 ∨ kd = 8 := by omega
    unfold doR
    rw [if_pos h8]
    have br : ∀ (y : Int) (P I : List (Int × Int)) (D : Bool) (V : Int), P.Perm I → ((16 < I.length ∧ withK S k y = ([], 6)) ∨ (I.length ≤ 16 ∧ withK S k y = (I, 0))) → Up I → P.length = I.length → (if 16 < P.length then (⟨[], false, 0, 6⟩ : RDo) else ⟨P, D, V, 0⟩).E = (bringK S k y D V).e ∧ Up (bringK S k y D V).l ∧ ((bringK S k y D V).e = 0 → (if 16 < P.length then (⟨[], false, 0, 6⟩ : RDo) else ⟨P, D, V, 0⟩).D = (bringK S k y D V).d ∧ (if 16 < P.length then (⟨[], false, 0, 6⟩ : RDo) else ⟨P, D, V, 0⟩).V = (bringK S k y D V).v ∧ (if 16 < P.length then (⟨[], false, 0, 6⟩ : RDo) else ⟨P, D, V, 0⟩).M.Perm (bringK S k y D V).l) := by
      intro y P I D V p q u l
      unfold bringK
      rcases q with ⟨q, e⟩ | ⟨q, e⟩
      · rw [e, if_pos (by omega)]; simp
      · rw [e, if_neg (by omega)]; simp [u, p]
    have nM : ¬ 16 < M.length := by omega
    have nd : ¬ 16 < (remM M k).length := by omega
    rcases this with rfl | rfl | rfl | rfl | rfl | rfl | rfl | rfl
    all_goals
      unfold nextR ansD ansV doK
      rw [hl]
      have hg : hasK S k = false → getK S k = 0 := get_no
      generalize getK S k = g at *
      cases hh : hasK S k
    all_goals (try (simp [nM, nd, hp, hd, hS, ud]; done))
    all_goals first | (simpa using br 0 (putM M k 0) _ _ _ h0 w0 u0 l0) | (simpa using br v (putM M k v) _ _ _ hv wv uv lv) | (have hg0 := hg hh; subst hg0; simpa using br v (putM M k v) _ _ _ hv wv uv lv)
  · unfold doR doK
    rw [if_neg h8, if_neg (by omega), if_neg (by omega), if_neg (by omega), if_neg (by omega), if_neg (by omega), if_neg (by omega), if_neg (by omega), if_neg (by omega)]
    exact ⟨rfl, .nil, fun h => by simp at h⟩
theorem may_same {S M : List (Int × Int)} (hS : Up S) (hn : S.length ≤ 16) (hp : M.Perm S) (kd k v e : Int) (d : Bool) (x : Int) :
    (mayR M kd k v e d x).2 = (mayK S kd k v e d x).2 ∧ Up (mayK S kd k v e d x).1 ∧ (mayK S kd k v e d x).1.length ≤ 16 ∧ ((mayK S kd k v e d x).2 = true → (mayR M kd k v e d x).1.Perm (mayK S kd k v e d x).1) ∧ ((mayK S kd k v e d x).2 = false → (mayK S kd k v e d x).1 = []) := by
  obtain ⟨h1, h2, h3⟩ := do_same hS hn hp kd k v
  have hle := doK_le S kd k v hn
  have hr : refK kd e d x = (decide (e ≠ 0) && !d && decide (x = 0) && refR kd e) := by
    unfold refK refR takesR
    by_cases k1 : kd = 1
    · subst k1; cases d <;> by_cases e6 : e = 6 <;> by_cases e7 : e = 7 <;> by_cases x0 : x = 0 <;> simp_all
    by_cases k4 : kd = 4
    · subst k4; cases d <;> by_cases e6 : e = 6 <;> by_cases e7 : e = 7 <;> by_cases x0 : x = 0 <;> simp_all
    by_cases k5 : kd = 5
    · subst k5; cases d <;> by_cases e6 : e = 6 <;> by_cases e7 : e = 7 <;> by_cases x0 : x = 0 <;> simp_all
    by_cases k8 : kd = 8
    · subst k8; cases d <;> by_cases e6 : e = 6 <;> by_cases e7 : e = 7 <;> by_cases x0 : x = 0 <;> simp_all
    simp [k1, k4, k5, k8]
  unfold mayR mayK
  rw [hr]
  by_cases he : e = 0
  · subst he
    simp only [h1]
    by_cases hE : (doK S kd k v).e = 0
    · obtain ⟨q1, q2, q3⟩ := h3 hE
      generalize doR M kd k v = O' at *
      generalize doK S kd k v = O at *
      simp only [hE, q1, q2]
      by_cases hd : d = O.d <;> by_cases hx : x = O.v <;> by_cases h8 : kd = 8 <;> simp [hd, hx, h8, q3, h2, hle]
    · simp [hE]
  · cases d <;> by_cases x0 : x = 0 <;> cases refR kd e <;> simp [he, x0, hS, hn, hp]
end Go.Proofs.Ytdeohigggjfjjaa

/- Of every row of pairs that a state can be of, any op and any answer: whether it may be, and the state then, are the document's. -/
namespace Go.Proofs.Ytdeohigggjfjjaa
open Go.RowKit Go.Maps
set_option maxRecDepth 100000

/-- How it stands behind the call, behind the store: with a frame of any rest. -/
def StE (w : World) (U n1 : Nat) (R : List (Nat × List Value)) (A1 : Option Addr) (c1 : Nat) (M2 : List (Int × Int)) (u : Value) (v9 : World) : Prop :=
  ∃ A' c', u = .agg #[.slice A' M2.length c'] ∧ Fr w ((U, [.slice A1 n1 c1]) :: R) v9 ∧ RowX encP 2 v9 A' M2 ∧ (A' = none → M2 = []) ∧ ∀ b off, A' = some ⟨b, off, none⟩ → b ≠ U
def StF (w : World) (U : Nat) (R : List (Nat × List Value)) (M2 : List (Int × Int)) (v9 : World) : Prop :=
  ∃ A' c', Fr w ((U, [.slice A' M2.length c']) :: R) v9 ∧ RowX encP 2 v9 A' M2 ∧ (A' = none → M2 = []) ∧ ∀ b off, A' = some ⟨b, off, none⟩ → b ≠ U
set_option maxHeartbeats 8000000 in
theorem may_walk (l : List (Int × Int)) (A : Option Addr) (cap : Nat) (kd k v lv e : Int) (d : Bool) (x : Int) (w : World) (hz : l.length * 16 ≤ 140737488351232) (hr : RowX encP 2 w A l) :
    Calls Try.prog 4 #[.slice A l.length cap, .agg #[.int .i64 kd, .int .u64 k, .int .u64 v, .int .i64 lv], .agg #[.int .i64 e, .bool d, .int .u64 x]] w fun e w' => e = .returned (.bool true) ∧ Below w.heap.size w w' := by
  have hF := ((Fr.start w).push w.heap.size rfl [.int .i64 kd, .int .u64 k, .int .u64 v, .int .i64 lv] 39).push (w.heap.size + 1) (by simp) [.int .i64 e, .bool d, .int .u64 x] 35
  have HZ := Lib.hid hz
  have HR := Lib.hid hr
  clear hz hr
  go_enter Try.func4, Try.ntmps4
  go_wp2_with fail
  refine (awake21 _).mono ?_
  rintro o w1 ⟨rfl, hb⟩
  replace hF := hF.over hb
  clear hb
  go_wp2_with fail
  refine (new_s HZ.out (HR.out.below hF.below)).mono ?_
  rintro o w2 ⟨S, er, rfl, hN, hb⟩
  replace hF := hF.over hb
  clear hb
  rename_i aK
  refine aK _ _ ?_
  clear aK
  have hS16 : S.length ≤ 16 := by
    rcases hN with ⟨-, rfl, -⟩ | ⟨-, -, rfl, -⟩ | ⟨-, h16, -, hp, -⟩
    · simp
    · simp
    · rw [hp.length_eq]; exact h16
  refine Go.Great.wpList_readTo rfl (some 17) rfl _ rfl ?_
  (try simp only [Act.put, Act.eval, List.setIfInBounds_toArray, List.set_cons_zero, List.set_cons_succ])
  refine Go.Great.wpList_readTo rfl (some 20) rfl (.agg (encS S).toArray) (by go_simp) ?_
  (try simp only [Act.put, Act.eval, List.setIfInBounds_toArray, List.set_cons_zero, List.set_cons_succ])
  refine Go.Great.wpList_readTo rfl (some 21) rfl (.int .i64 er) (by go_simp) ?_
  (try simp only [Act.put, Act.eval, List.setIfInBounds_toArray, List.set_cons_zero, List.set_cons_succ])
  refine Go.Great.wpList_allocTo rfl (some 7) rfl (.pointer (some ⟨w2.heap.size, 0, none⟩)) (.cells (encS []).toArray 29) (by kernel_rfl) ?_
  have hz4 := hF.lt 0 rfl
  have hz5 := hF.lt 1 rfl
  have hz6 : w.heap.size ≤ w2.heap.size := hF.below.size
  replace hF := hF.push w2.heap.size rfl (encS []) 29
  generalize World.alloc w2 _ = w3 at *
  generalize w2.heap.size = Z7 at *
  (try simp only [Act.put, Act.eval, List.setIfInBounds_toArray, List.set_cons_zero, List.set_cons_succ])
  refine wpList_store_mid rfl 29 _ _ rfl Z7 0 (encS S).toArray rfl rfl (hF.there 0 rfl (by omega) (by rw [encS_length (by simp), List.size_toArray, encS_length hS16])) (size33a hS16) (one33 _) ?_
  replace hF := hF.whole (us := encS S) (by omega) (by simp <;> omega) (by rw [encS_length (by simp), encS_length hS16])
  generalize World.setCells w3 _ _ _ = w7 at *
  by_cases her : er = 0
  · subst her
    have hN' : S.Perm l ∧ Up S ∧ l.length ≤ 16 ∧ (l.map (·.1)).Nodup := by
      rcases hN with ⟨-, -, h⟩ | ⟨-, -, -, h⟩ | ⟨hnd, h16, -, hp, hup⟩
      · cases h
      · cases h
      · exact ⟨hp, hup, h16, hnd⟩
    obtain ⟨hp, hup, h16, hnd⟩ := hN'
    clear hN
    obtain ⟨Lk, bk, hKK⟩ : ∃ Lk bk, mayK S kd k v e d x = (Lk, bk) := ⟨_, _, rfl⟩
    obtain ⟨Mr, br, hRR⟩ : ∃ Mr br, mayR l kd k v e d x = (Mr, br) := ⟨_, _, rfl⟩
    have CK : Hid (∀ w', Calls Try.prog 16 #[.agg (encS S).toArray, .agg #[.int .i64 kd, .int .u64 k, .int .u64 v, .int .i64 lv], .agg #[.int .i64 e, .bool d, .int .u64 x]] w' fun o w'' => o = .returned (.tuple #[.agg (encS Lk).toArray, .bool bk]) ∧ Below w'.heap.size w' w'') := Lib.hid fun w' => by
      have := may_s S hup hS16 kd k v lv e d x w'
      rw [hKK] at this
      exact this
    have CR : Hid (∀ w' A' c', RowX encP 2 w' A' l → (A' = none → l = []) → (∀ b off, A' = some ⟨b, off, none⟩ → b < w'.heap.size) → Calls Try.prog 17 #[.agg #[.slice A' l.length c'], .agg #[.int .i64 kd, .int .u64 k, .int .u64 v, .int .i64 lv], .agg #[.int .i64 e, .bool d, .int .u64 x]] w' (MayPost w' (Mr, br))) := Lib.hid fun w' A' c' h1 h2 h3 => by
      have := may_r (cap := c') (by omega) h1 h2 h3 kd k v lv e d x
      rw [hRR] at this
      exact this
    have SM : Hid (br = bk ∧ Up Lk ∧ (bk = true → Mr.Perm Lk) ∧ (bk = false → Lk = [])) := Lib.hid (by
      have := may_same hup hS16 hp.symm kd k v e d x
      simp only [hKK, hRR] at this
      exact ⟨this.1, this.2.1, this.2.2.2.1, this.2.2.2.2⟩)
    have HLk : Lk.length ≤ 16 := by
      have := (may_same hup hS16 hp.symm kd k v e d x).2.2.1
      rw [hKK] at this
      exact this
    have HND := Lib.hid hnd
    have H16 := Lib.hid h16
    clear hKK hRR hup hp hnd h16
    generalize hnn : l.length = n at *
    have HN := Lib.hid hnn
    clear hnn
    go_upto_region 6 with fail
    have hF2 := hF.push w7.heap.size rfl [.slice none 0 0] 32
    have hU1 : Z7 < w7.heap.size := hF.lt 0 rfl
    have hU2 : w.heap.size + 1 < w7.heap.size := hF.lt 1 rfl
    clear hF
    go_wp2_with fail
    generalize World.alloc w7 _ = w8 at *
    generalize w7.heap.size = U at *
    go_loopg [10] (n + 1) (fun kx s10 wr => ∃ (i : Nat) (A1 : Option Addr) (c1 : Nat) (M : List (Int × Int)), s10 = .int .i64 i ∧ i ≤ n ∧ n - i ≤ kx ∧ Hid (M = foldP (l.take i)) ∧ Hid (Fr w [(U, [.slice A1 M.length c1]), (Z7, encS S), ((w.heap.size + 1), [.int .i64 e, .bool d, .int .u64 x]), (w.heap.size, [.int .i64 kd, .int .u64 k, .int .u64 v, .int .i64 lv])] wr) ∧ Hid (RowX encP 2 wr A1 M) ∧ Hid (A1 = none → M = []) ∧ Hid (∀ b off, A1 = some ⟨b, off, none⟩ → b ≠ U) ∧ Hid (M = [] → A1 = none))
    case atStart => exact ⟨0, none, 0, [], rfl, Nat.zero_le _, by omega, Lib.hid (by simp [foldP]), Lib.hid hF2, Lib.hid (.inl rfl), Lib.hid (fun _ => rfl), Lib.hid (fun b off h => by cases h), Lib.hid (fun _ => rfl)⟩
    case round =>
      clear hF2
      obtain ⟨i, A1, c1, M, rfl, hi, hkx, hM, hF, hR, hN, hAp, hMA⟩ := hrel
      by_cases hlt : i < n
      · have hil : i < l.length := by rw [HN.out]; exact hlt
        have h16x : n ≤ 16 := H16.out
        have hlt' : (i : Int) < (n : Int) := by omega
        obtain ⟨g, off, rfl, hgw, -⟩ := HR.out.pairs hil
        have HG : Hid (g ≠ U) := Lib.hid (by omega)
        clear hgw
        have HFT := Lib.hid (foldP_take hil)
        have hpp : ∃ p, l.getD i (0, 0) = p := ⟨_, rfl⟩
        obtain ⟨⟨x1, y1⟩, hpp⟩ := hpp
        have hM4 : M.length ≤ 1000000 := by rw [hM.out]; exact foldP_len _ _ (by rw [List.length_take]; have := H16.out; omega)
        have C2 : Hid (∀ w', RowX encP 2 w' A1 M → Calls Try.prog 15 #[.agg #[.slice A1 M.length c1], .agg #[.int .u64 x1, .int .u64 y1]] w' fun e w'' => ∃ A' cap', e = .returned (.agg #[.slice A' (putM M x1 y1).length cap']) ∧ Env w' [rowR A' cap' (putM M x1 y1)] w'') := Lib.hid fun w' h => with_r hM4 h x1 y1
        have CL : Hid (∀ w', RowX encP 2 w' (some ⟨g, off, none⟩) l → w'.cell? ⟨g, off + i * 2, none⟩ = some (.int .u64 x1) ∧ w'.cell? ⟨g, off + i * 2 + 1, none⟩ = some (.int .u64 y1)) := Lib.hid fun w' h => by have := h.atp hil; rw [hpp] at this; exact this
        rw [hpp] at HFT
        have HFT2 : Hid (putM M x1 y1 = foldP (l.take (i + 1))) := Lib.hid (by rw [HFT.out, hM.out])
        have HNE : Hid (putM M x1 y1 ≠ []) := Lib.hid (by unfold putM; simp)
        have hRl := HR.out.below hF.out.below
        clear HFT hpp hM hM4 CK CR SM HR
        generalize putM M x1 y1 = M2 at *
        replace hF := hF.out
        replace hR := hR.out
        go_upto_region 10 with fail
        refine Ord3.wp_chain [?_, ?_, ?_, ?_, ?_, ?_, ?_, ?_, ?_, ?_, ?_, ?_, ?_, ?_] [0, 12, 13] (fun v => RowX encP 2 v (some ⟨g, off, none⟩) l) (Ord3.Stage fun κs => [fun v9 => Fr w [(U, [.slice A1 M.length c1]), (Z7, encS S), ((w.heap.size + 1), [.int .i64 e, .bool d, .int .u64 x]), (w.heap.size, [.int .i64 kd, .int .u64 k, .int .u64 v, .int .i64 lv])] v9 ∧ RowX encP 2 v9 A1 M, fun v9 => κs.getD 0 undef = .agg #[.slice A1 M.length c1] ∧ Fr w [(U, [.slice A1 M.length c1]), (Z7, encS S), ((w.heap.size + 1), [.int .i64 e, .bool d, .int .u64 x]), (w.heap.size, [.int .i64 kd, .int .u64 k, .int .u64 v, .int .i64 lv])] v9 ∧ RowX encP 2 v9 A1 M, fun v9 => StE w U M.length [(Z7, encS S), ((w.heap.size + 1), [.int .i64 e, .bool d, .int .u64 x]), (w.heap.size, [.int .i64 kd, .int .u64 k, .int .u64 v, .int .i64 lv])] A1 c1 M2 (κs.getD 1 undef) v9, fun v9 => StF w U [(Z7, encS S), ((w.heap.size + 1), [.int .i64 e, .bool d, .int .u64 x]), (w.heap.size, [.int .i64 kd, .int .u64 k, .int .u64 v, .int .i64 lv])] M2 v9]) (by kernel_rfl) (by kernel_rfl) (by kernel_rfl) hRl ⟨_, rfl, hF.drew, hR⟩ (fun hT => ?_)
        rotate_left 14
        have hT9 := Lib.hid hT
        clear hT
        refine Ord3.in_turn (fun u => u = .agg #[.slice A1 M.length c1]) _ rfl hT9.out rfl (by decide) (by rfl) ?_ (Or.inl rfl) (by rfl) ?_ ?_
        · rfl
        · rintro v7 hC7 ⟨P7, hP7, hA7⟩
          cases hP7
          have r0 := hA7.1.rule 0 rfl
          go_simp
          simp only [Ord3.Lands]
          exact ⟨by first | rfl | trivial, hC7, _, rfl, by first | rfl | trivial, hA7.1, hA7.2⟩
        rintro _ rfl
        (try simp only [Act.put, List.setIfInBounds_toArray, List.set_cons_zero, List.set_cons_succ])
        repeat (first
          | (focus (refine Ord3.in_value (v := ?_) hT9.out (by decide) ?_ (by rfl) ?_ ?_; rotate_left 2; (focus (intro w5 hS; have q1 := (CL.out _ hS).1; have q2 := (CL.out _ hS).2; go_simp <;> with_reducible rfl)); rotate_right; (focus rfl); (try simp only [Act.put, List.setIfInBounds_toArray, List.set_cons_zero, List.set_cons_succ])))
          | (focus (refine Ord3.in_off hT9.out (by decide) ?_ (by rfl) ?_; (focus rfl); (try simp only [Act.put, List.setIfInBounds_toArray, List.set_cons_zero, List.set_cons_succ]))))
        refine Ord3.in_turn (fun u => ∃ A' c', u = .agg #[.slice A' M2.length c']) _ ⟨none, 0, rfl⟩ hT9.out rfl (by decide) (by rfl) ?_ (Or.inr ⟨_, 0, [], rfl, by kernel_rfl, by kernel_rfl, rfl⟩) (by rfl) ?_ ?_
        · rfl
        · rintro v7 hC7 ⟨P7, hP7, hA7⟩
          cases hP7
          obtain ⟨-, hA71, hA72⟩ := hA7
          go_simp
          simp only [Ord3.Lands]
          refine (C2.out _ hA72).mono ?_
          rintro o v8 ⟨A', c', rfl, hE8⟩
          obtain ⟨e1, e2, e3, e4⟩ := of_row hE8
          exact ⟨_, rfl, ⟨_, _, rfl⟩, hC7.below e4, _, rfl, A', c', rfl, hA71.over e4, e1, e3, fun b off h => by have := e2 b off h; have := hA71.lt 0 rfl; omega⟩
        rintro _ ⟨A8, c8, rfl⟩
        (try simp only [Act.put, List.setIfInBounds_toArray, List.set_cons_zero, List.set_cons_succ])
        refine Ord3.in_turn (fun u => u = undef) _ rfl hT9.out rfl (by decide) (by rfl) ?_ (Or.inr ⟨_, 12, [], rfl, by kernel_rfl, by kernel_rfl, rfl⟩) (by rfl) ?_ ?_
        · rfl
        · rintro v7 hC7 ⟨P7, hP7, hA7⟩
          cases hP7
          obtain ⟨A', c', he, hA7, e1, e3, e5⟩ := hA7
          cases he
          have r0 := hA7.rule 0 rfl
          have f0 := hA7.thaw 0 rfl (by omega)
          go_simp
          simp only [Ord3.Lands]
          have hne : ∀ b o, (some ⟨g, off, none⟩ : Option Addr) = some ⟨b, o, none⟩ → b ≠ U := fun b o h => by cases h; exact HG.out
          exact ⟨by first | rfl | trivial, hC7.put hne _ _, _, rfl, A8, c8, hA7.put (by omega) (by simp; omega) 0 (by simp) _, e1.put e5 _ _, e3, e5⟩
        rintro _ rfl
        (try simp only [Act.put, List.setIfInBounds_toArray, List.set_cons_zero, List.set_cons_succ])
        refine Ord3.in_nil rfl ?_
        rintro w6 hC6 ⟨P6, hP6, hA6⟩
        cases hP6
        obtain ⟨A6, c6, hF6, hR6, hN6, hAp6⟩ := hA6
        clear hT9
        go_wp2_with fail
        go_roundg (n - (i + 1))
        case measure => omega
        case rel => exact ⟨i + 1, A6, c6, M2, by simp, by omega, Nat.le_refl _, HFT2, Lib.hid hF6, Lib.hid hR6, Lib.hid hN6, Lib.hid hAp6, Lib.hid (fun h => absurd h HNE.out)⟩
      · have hin : i = n := by omega
        have hlt' : ¬ ((i : Int) < (n : Int)) := by omega
        subst hin
        have hti : l.take i = l := by rw [← HN.out]; exact List.take_length
        have hMl : M = l := by rw [hM.out, hti]; exact foldP_nodup HND.out
        subst hMl
        replace hF := hF.out
        replace hR := hR.out
        have hApz : ∀ w', RowX encP 2 w' A1 M → ∀ b off, A1 = some ⟨b, off, none⟩ → b < w'.heap.size := by
          intro w' h b off e
          rcases h with h | ⟨b', off', e', hl, -⟩
          · rw [hMA.out h] at e; cases e
          · rw [e'] at e; cases e; exact hl
        rw [HN.out] at hF
        have CU : Hid (∀ w', RowX encP 2 w' A1 M → Calls Try.prog 17 #[.agg #[.slice A1 i c1], .agg #[.int .i64 kd, .int .u64 k, .int .u64 v, .int .i64 lv], .agg #[.int .i64 e, .bool d, .int .u64 x]] w' (MayPost w' (Mr, br))) := Lib.hid fun w' h => CR.out w' A1 c1 h hN.out (hApz w' h)
        clear hti hM hApz CR HR hMA hN
        go_upto_region 11 with fail
        apply wp_region_lit
        refine wpList_load_mid rfl 29 _ rfl Z7 0 rfl (encS S) _ (hF.range 1 rfl) und29 rfl (size33 hS16) ?_
        have rr101 := hF.rule 3 rfl
        have rr102 := hF.rule 2 rfl
        go_wp2_with fail
        refine (CK.out _).mono ?_
        rintro o w103 ⟨rfl, hb⟩
        replace hF := hF.over hb
        replace hR := hR.below hb
        clear hb
        clear rr101 rr102
        rename_i aK
        refine aK _ _ ?_
        clear aK
        refine Go.Great.wpList_readTo rfl (some 44) rfl _ rfl ?_
        (try simp only [Act.put, Act.eval, List.setIfInBounds_toArray, List.set_cons_zero, List.set_cons_succ])
        refine Go.Great.wpList_readTo rfl (some 49) rfl (.agg (encS Lk).toArray) (by go_simp) ?_
        (try simp only [Act.put, Act.eval, List.setIfInBounds_toArray, List.set_cons_zero, List.set_cons_succ])
        refine Go.Great.wpList_readTo rfl (some 50) rfl (.bool bk) (by go_simp) ?_
        (try simp only [Act.put, Act.eval, List.setIfInBounds_toArray, List.set_cons_zero, List.set_cons_succ])
        have hsz : szOf w103 = w103.heap.size := rfl
        have hBq := (Below.refl w103.heap.size w103).alloc (Nat.le_refl _) (.cells (encS []).toArray 29)
        refine Go.Great.wpList_allocTo rfl (some 11) rfl (.pointer (some ⟨w103.heap.size, 0, none⟩)) (.cells (encS []).toArray 29) (by kernel_rfl) ?_
        have hz105 := hF.lt 0 rfl
        have hz106 := hF.lt 1 rfl
        have hz107 := hF.lt 2 rfl
        have hz108 := hF.lt 3 rfl
        have hz109 : w.heap.size ≤ w103.heap.size := hF.below.size
        replace hF := hF.push w103.heap.size rfl (encS []) 29
        generalize World.alloc w103 _ = w104 at *
        generalize w103.heap.size = Z11 at *
        (try simp only [Act.put, Act.eval, List.setIfInBounds_toArray, List.set_cons_zero, List.set_cons_succ])
        refine wpList_store_mid rfl 29 _ _ rfl Z11 0 (encS Lk).toArray rfl rfl (hF.there 0 rfl (by omega) (by rw [encS_length (by simp), List.size_toArray, encS_length HLk])) (size33a HLk) (one33 _) ?_
        replace hF := hF.whole (us := encS Lk) (by omega) (by simp <;> omega) (by rw [encS_length (by simp), encS_length HLk])
        have hBq2 := below_sets (Nat.le_refl Z11) (encS Lk) 0 w104 hBq
        generalize World.setCells w104 _ _ _ = w110 at *
        replace hR := hR.below2 hBq2 (Nat.le_of_eq hsz)
        clear hBq hBq2 hsz
        have hR9 := hR
        have rr111 := hF.rule 1 rfl
        have rr112 := hF.rule 4 rfl
        have rr113 := hF.rule 3 rfl
        go_wp2_with fail
        refine (CU.out _ hR).mono ?_
        rintro o w70 ⟨A9, c9, rfl, e1, e3, e4⟩
        replace hF := hF.over e4
        clear hR CU CK e4 hR9
        simp only at e1 e3 ⊢
        clear rr111 rr112 rr113
        have hz70 := hF.below.size
        have hF7 := hF.push w70.heap.size rfl [.slice A9 Mr.length c9] 32
        have e1' := e1.below ((Below.refl _ w70).alloc (Nat.le_refl _) (.cells [Value.slice A9 Mr.length c9].toArray 32))
        obtain ⟨hb1, hb2, hb3, hb4⟩ := SM.out
        subst hb1
        go_upto_region 13 with fail
        clear hF e1
        generalize World.alloc w70 _ = w71 at *
        generalize w70.heap.size = Z14 at *
        have r14 := hF7.rule 0 rfl
        have hF := hF7
        clear hF7
        have e1 := e1'
        clear e1'
        cases br
        case' false =>
          have hLk := hb4 rfl
          subst hLk
          clear hb3 hb4
          go_upto_region 14 with fail
          apply wp_region_lit
          refine wpList_on ?_ (by rfl) ?_ ?_
          rotate_left
          focus (go_simp <;> with_reducible rfl)
          (try simp only [Act.put, Act.eval, List.setIfInBounds_toArray, List.set_cons_zero, List.set_cons_succ])
          refine wpList_on ?_ (by rfl) ?_ ?_
          rotate_left
          focus (go_simp <;> with_reducible rfl)
          (try simp only [Act.put, Act.eval, List.setIfInBounds_toArray, List.set_cons_zero, List.set_cons_succ])
          refine wpList_on ?_ (by rfl) ?_ ?_
          rotate_left
          focus (go_simp <;> with_reducible rfl)
          (try simp only [Act.put, Act.eval, List.setIfInBounds_toArray, List.set_cons_zero, List.set_cons_succ])
          refine wpList_on (.agg (encS []).toArray) (by rfl) (exec_load _ 29 _ rfl Z11 rfl (encS []) _ (hF.range 1 rfl) und29 rfl (size33 (by simp))) ?_
          (try simp only [Act.put, Act.eval, List.setIfInBounds_toArray, List.set_cons_zero, List.set_cons_succ])
          refine wpList_on (.agg (encS []).toArray) (by rfl) (by kernel_rfl) ?_
          (try simp only [Act.put, Act.eval, List.setIfInBounds_toArray, List.set_cons_zero, List.set_cons_succ])
          refine wpList_on (.bool (decide ([] = []))) (by rfl) (exec_eql _ _ _ rfl (a := []) (b := []) SOk0 SOk0 rfl rfl) ?_
          (try simp only [Act.put, Act.eval, List.setIfInBounds_toArray, List.set_cons_zero, List.set_cons_succ])
          refine wpList_on ?_ (by rfl) ?_ ?_
          rotate_left
          focus (go_simp <;> with_reducible rfl)
          (try simp only [Act.put, Act.eval, List.setIfInBounds_toArray, List.set_cons_zero, List.set_cons_succ])
          refine wpList_on ?_ (by rfl) ?_ ?_
          rotate_left
          focus (go_simp <;> with_reducible rfl)
          (try simp only [Act.put, Act.eval, List.setIfInBounds_toArray, List.set_cons_zero, List.set_cons_succ])
          apply wpList_nil
          go_wp2_with fail
          go_ret
          exact ⟨rfl, hF.below⟩
        case' true =>
          have hPM := hb3 rfl
          clear hb3 hb4
          go_upto_region 15 with fail
          apply wp_region_lit
          refine wpList_on ?_ (by rfl) ?_ ?_
          rotate_left
          focus (go_simp <;> with_reducible rfl)
          (try simp only [Act.put, Act.eval, List.setIfInBounds_toArray, List.set_cons_zero, List.set_cons_succ])
          refine wpList_on ?_ (by rfl) ?_ ?_
          rotate_left
          focus (go_simp <;> with_reducible rfl)
          (try simp only [Act.put, Act.eval, List.setIfInBounds_toArray, List.set_cons_zero, List.set_cons_succ])
          refine wpList_on (.agg (encS Lk).toArray) (by rfl) (exec_load _ 29 _ rfl Z11 rfl (encS Lk) _ (hF.range 1 rfl) und29 rfl (size33 HLk)) ?_
          (try simp only [Act.put, Act.eval, List.setIfInBounds_toArray, List.set_cons_zero, List.set_cons_succ])
          refine wpList_on ?_ (by rfl) ?_ ?_
          rotate_left
          focus (go_simp <;> with_reducible rfl)
          (try simp only [Act.put, Act.eval, List.setIfInBounds_toArray, List.set_cons_zero, List.set_cons_succ])
          refine wpList_onCall (.bool true) 13 #[.agg (encS Lk).toArray, .agg #[.slice A9 Mr.length c9]] (by rfl) (by go_simp) (alike_t hb2 HLk hPM rfl e1 e3) fun w90 hb => ?_
          replace hF := hF.over hb
          clear hb
          (try simp only [Act.put, Act.eval, List.setIfInBounds_toArray, List.set_cons_zero, List.set_cons_succ])
          refine wpList_on ?_ (by rfl) ?_ ?_
          rotate_left
          focus (go_simp <;> with_reducible rfl)
          (try simp only [Act.put, Act.eval, List.setIfInBounds_toArray, List.set_cons_zero, List.set_cons_succ])
          refine wpList_on ?_ (by rfl) ?_ ?_
          rotate_left
          focus (go_simp <;> with_reducible rfl)
          (try simp only [Act.put, Act.eval, List.setIfInBounds_toArray, List.set_cons_zero, List.set_cons_succ])
          apply wpList_nil
          go_wp2_with fail
          go_ret
          exact ⟨rfl, hF.below⟩
  · have her' : (er == 0) = false := by simpa using her
    go_wp2_with fail
    go_ret
    exact ⟨rfl, hF.below⟩
end Go.Proofs.Ytdeohigggjfjjaa

/- What closes every law's row: it answers true, and below the old heap nothing has turned: so each argument reads as it did, whatever its type. -/
namespace Go.Proofs.Ytdeohigggjfjjaa
open Go.RowKit Go.WideShapes Go.ChangeShapes Go.ChangeAt
set_option maxRecDepth 100000

section
variable {H : Type} {enc : TypeId × Value → H} {P : Program}
/-- The arguments' places lie below the heap's end: each reads behind the call as it did. -/
theorem args_stay (hl : laidOutB P = true) {W W' : World} (hb : Below W.heap.size W W') : ∀ (ts : List TypeId) (_ : (ts.all fun t => P.readableRec t && decide (t < P.types.size)) = true) (vs : List Value) (ds : List (DataW H)) (ps : List MemPlace),
    DataW.TrodAll enc P W 0 (fun _ => true) true ts vs ds ps → (∀ x ∈ ps, x.block < W.heap.size) → DataW.TrodAll enc P W' 0 (fun b => decide (b < W.heap.size)) true ts vs ds ps := by
  intro ts
  induction ts with
  | nil =>
    intro _ vs ds ps h _
    obtain ⟨rfl, rfl, rfl⟩ := trodAll_nil h
    exact trodAll_mk0
  | cons t ts ih =>
    intro hts vs ds ps h hlt
    rw [List.all_cons, Bool.and_eq_true, Bool.and_eq_true] at hts
    obtain ⟨v, vs', d, ds', p, q, rfl, rfl, rfl, h0, r0⟩ := trodAll_cons h
    exact trodAll_cons_mk (Below.trod hl hts.1.1 (of_decide_eq_true hts.1.2) h0 hb fun x hx => hlt x (List.mem_append_left _ hx))
      (ih hts.2 _ _ _ r0 fun x hx => hlt x (List.mem_append_right _ hx))

/-- The post of a law that answered true. -/
theorem law_post {f : Func} {s : ChangeSpec} {W W' : World} {args : Array Value} {ds : List (DataW H)} {before : List MemPlace} {tb : TypeId}
    (hl : laidOutB P = true) (hts : (f.params.toList.all fun t => P.readableRec t && decide (t < P.types.size)) = true) (hres : f.resultTypes = #[tb]) (htb : P.underlying tb = some .bool)
    (hv : s.vars = []) (hfn : s.fn H (ds ++ []) = { results := [.lit (.bool true)], args := ds })
    (hW : DataW.Whole enc P f.params.toList s.vars false W args.toList ds [] before) (hb : Below W.heap.size W W') :
    s.post enc P f false true false false W args (.bool true) W' := by
  have hlt : ∀ p ∈ before, p.block < W.heap.size := fun p hp => hW.lt p hp
  have hW2 := hW
  obtain ⟨p, q, hA, hV, rfl, hz, hn⟩ := hW2
  have hq : q = [] := by rw [hv] at hV; exact (trodVars_none hV).2
  subst hq
  refine ⟨ds, [], _, [], p, [], hW, ?_, ?_, ?_, World.keptBut_mono (fun x hx => ⟨hx, Or.inr (Or.inl (by simpa using hx))⟩) (hb.frame (· ∈ p ++ [])), fun h => by cases h⟩
  · rw [hfn, hres]
    exact trodAll_mk1 (shut_bool htb _)
  · rw [hfn]
    exact args_stay hl hb _ hts _ _ _ hA fun x hx => hlt x (by simpa using hx)
  · rw [hfn, hv]
    exact rfl
end

theorem u64_in {n : Int} (h : (Lit.int .u64 n).wf = true) : 0 ≤ n ∧ n ≤ 18446744073709551615 := by
  simpa [Lit.wf, IntKind.min, IntKind.max, IntKind.signed, IntKind.bits] using h
theorem i64_in {n : Int} (h : (Lit.int .i64 n).wf = true) : -9223372036854775808 ≤ n ∧ n ≤ 9223372036854775807 := by
  simpa [Lit.wf, IntKind.min, IntKind.max, IntKind.signed, IntKind.bits] using h
end Go.Proofs.Ytdeohigggjfjjaa

/- Slices that come in, opened once: of numbers; of structs of two numbers. -/
namespace Go.Proofs.Ytdeohigggjfjjaa
open Go.RowKit Go.WideShapes Go.ChangeShapes Go.ChangeAt Go.Deep
set_option maxRecDepth 100000

section
variable {H : Type} {enc : TypeId × Value → H} {P : Program} {W : World}

theorem open_num_row {t e : TypeId} {k : IntKind} {A : Option Addr} {len cap : Nat} {d : DataW H} {p : List MemPlace} (ht : P.underlying t = some (.slice e)) (he : P.underlying e = some (.int k)) (hc : P.cellsOf e = 1)
    (h : DataW.Trod enc P W 0 (fun _ => true) true t (.slice A len cap) d p) (hlt : ∀ x ∈ p, x.block < W.heap.size) :
    ∃ zs : List Int, zs.length = len ∧ len ≤ maxLen ∧ (∀ n ∈ zs, (Lit.int k n).wf = true) ∧ (zs = [] ∨ ∃ b off, A = some ⟨b, off, none⟩ ∧ b < W.heap.size ∧ ∀ i, i < zs.length → W.cell? ⟨b, off + i, none⟩ = some (.int k (zs.getD i 0))) := by
  obtain ⟨fuel, hf⟩ := h
  rcases open_ints ht he hc hf with ⟨hcs, hx⟩ | ⟨a, len', cap', zs, hcs, _, hl, hm, hz, hx, hcell, hwz⟩
  · simp [Value.cells] at hcs
    obtain ⟨rfl, rfl, rfl⟩ := hcs
    exact ⟨[], rfl, Nat.zero_le _, by simp, Or.inl rfl⟩
  · simp [Value.cells] at hcs
    obtain ⟨rfl, rfl, rfl⟩ := hcs
    simp only [Prod.mk.injEq] at hx
    obtain ⟨rfl, rfl⟩ := hx
    simp only [if_true] at hz
    refine ⟨zs.take len, by simp; omega, by omega, fun n hn => hwz n (List.mem_of_mem_take hn), ?_⟩
    by_cases h0 : len = 0
    · left; subst h0; simp
    · right
      obtain ⟨b, off, spot⟩ := a
      have hspot : spot = none := by simpa [Addr.add] using World.cell?_spot (hcell 0 (by omega))
      subst hspot
      refine ⟨b, off, rfl, hlt (.cell b off) (MemPlace.mem_row.2 ⟨0, by omega, by simp⟩), fun i hi => ?_⟩
      have hi' : i < len := by simp at hi; omega
      have := hcell i (by omega)
      rw [add_plain] at this
      rw [this]
      simp [hi']

def numOf' : Value → Int | .int _ n => n | _ => 0

theorem open_pair_row {t e : TypeId} {k : IntKind} {f0 f1 : Field} {A : Option Addr} {len cap : Nat} {d : DataW H} {p : List MemPlace} (ht : P.underlying t = some (.slice e)) (he : P.underlying e = some (.struct #[f0, f1]))
    (ce : P.cellsOf e = 2) (o0 : f0.offset = 0) (o1 : f1.offset = 1) (c0 : P.cellsOf f0.type = 1) (c1 : P.cellsOf f1.type = 1) (u0 : P.underlying f0.type = some (.int k)) (u1 : P.underlying f1.type = some (.int k))
    (h : DataW.Trod enc P W 0 (fun _ => true) true t (.slice A len cap) d p) (hlt : ∀ x ∈ p, x.block < W.heap.size) :
    ∃ fs : List (Int × Int), fs.length = len ∧ len ≤ maxLen ∧ (∀ q ∈ fs, (Lit.int k q.1).wf = true ∧ (Lit.int k q.2).wf = true) ∧
      (fs = [] ∨ ∃ b off, A = some ⟨b, off, none⟩ ∧ b < W.heap.size ∧ ∀ i, i < fs.length → W.cell? ⟨b, off + i * 2, none⟩ = some (.int k (fs.getD i (0, 0)).1) ∧ W.cell? ⟨b, off + i * 2 + 1, none⟩ = some (.int k (fs.getD i (0, 0)).2)) := by
  obtain ⟨fuel, hf⟩ := h
  rcases open_slice_pairs ht he ce o0 o1 c0 c1 hf with ⟨hcs, hx⟩ | ⟨a, len', cap', m, n, V0, V1, D0, D1, P0, P1, hcs, _, hl, hm, hmm, hx, hall⟩
  · simp [Value.cells] at hcs
    obtain ⟨rfl, rfl, rfl⟩ := hcs
    exact ⟨[], rfl, Nat.zero_le _, by simp, Or.inl rfl⟩
  · simp [Value.cells] at hcs
    obtain ⟨rfl, rfl, rfl⟩ := hcs
    simp only [Prod.mk.injEq] at hx
    obtain ⟨rfl, rfl⟩ := hx
    simp only [if_true] at hmm
    subst hmm
    have each : ∀ i, i < m → (∃ x, V0 i = .int k x ∧ (Lit.int k x).wf = true) ∧ ∃ x, V1 i = .int k x ∧ (Lit.int k x).wf = true := fun i hi => by
      obtain ⟨_, _, h3, h4⟩ := hall i hi
      obtain ⟨x, e0, _, w0⟩ := DataW.trod_int u0 h3
      obtain ⟨y, e1, _, w1⟩ := DataW.trod_int u1 h4
      simp at e0 e1
      exact ⟨⟨x, e0, w0⟩, ⟨y, e1, w1⟩⟩
    refine ⟨(List.range len).map fun i => (numOf' (V0 i), numOf' (V1 i)), by simp, by omega, ?_, ?_⟩
    · intro q hq
      obtain ⟨i, hi, rfl⟩ := List.mem_map.1 hq
      have hi' := List.mem_range.1 hi
      obtain ⟨⟨x, e0, w0⟩, ⟨y, e1, w1⟩⟩ := each i (by omega)
      rw [e0, e1]
      exact ⟨w0, w1⟩
    · by_cases h0 : len = 0
      · left; subst h0; simp
      · right
        obtain ⟨b, off, spot⟩ := a
        have hspot : spot = none := by simpa [Addr.add] using World.cell?_spot (hall 0 (by omega)).1
        subst hspot
        refine ⟨b, off, rfl, hlt (.cell b off) (List.mem_append_left _ (MemPlace.mem_row.2 ⟨0, by omega, by simp⟩)), fun i hi => ?_⟩
        have hi' : i < len := by simpa using hi
        obtain ⟨h1, h2, _, _⟩ := hall i (by omega)
        obtain ⟨⟨x, e0, _⟩, ⟨y, e1, _⟩⟩ := each i (by omega)
        rw [add_plain] at h1 h2
        rw [Nat.add_assoc, h1, h2, e0, e1]
        simp [hi', e0, e1, numOf']
end
end Go.Proofs.Ytdeohigggjfjjaa

namespace Go.Proofs.Ytdeohigggjfjjaa.specMay
open Go.RowKit Go.Maps Go.WideShapes Go.ChangeShapes Go.ChangeAt Go.Deep
set_option maxRecDepth 100000

theorem walk (l : List (Int × Int)) (A : Option Addr) (cap : Nat) (kd k v lv e : Int) (d : Bool) (x : Int) (w : World) (hz : l.length * 16 ≤ 140737488351232) (hu : ∀ r ∈ l, OkP r) (hr : RowX encP 2 w A l) :
    Calls Try.prog 4 #[.slice A l.length cap, .agg #[.int .i64 kd, .int .u64 k, .int .u64 v, .int .i64 lv], .agg #[.int .i64 e, .bool d, .int .u64 x]] w fun e w' => e = .returned (.bool true) ∧ Below w.heap.size w w' := may_walk l A cap kd k v lv e d x w hz hr

theorem own : ownKnob Try.prog.godebug = none := by kernel_rfl
theorem laidOut : laidOutB Try.prog = true := by kernel_rfl

set_option maxRecDepth 100000 in
theorem lifted (os : Os) (started : os.Started) (H : Type) (enc : TypeId × Value → H) :
    ReturnsInHanded {} Try.checked os 4 .any (Rows.specMaySpec.pre6 enc Try.prog Try.f4 Rows.specMayRow.domain false) (Rows.specMaySpec.post enc Try.prog Try.f4 false true false false) := by
  refine returnsInHanded_of_change_sized (C := Try.checked) own started (by kernel_rfl) Try.func4
    (ChangeSpec.witness6 (enc := enc) (C := Try.checked) false ⟨#[], #[.slice none 0 0, .agg #[.int .i64 0, .int .u64 0, .int .u64 0, .int .i64 0], .agg #[.int .i64 0, .bool false, .int .u64 0]], []⟩ 8 (by kernel_rfl) (by kernel_rfl) (by kernel_rfl) (by kernel_rfl)) ?_
  intro W base args ds gs before hval0 hW hcnd hsz0 _
  have hval : ∀ (j : Nat) t v, Try.f4.params[j]? = some t → args[j]? = some v → Value.okWide Try.prog W .any base t v := hval0
  have hW' := hW
  obtain ⟨p, q, hA0, hV, rfl, hfz, hnd⟩ := hW
  have hA : DataW.TrodAll enc Try.prog W 0 (fun _ => true) true Try.f4.params.toList args.toList ds p := hA0
  have hsz : (DataW.weightsEach Try.prog (Try.f4.params.toList ++ Rows.specMaySpec.plain.varTypes Try.prog) (ds ++ gs)).all (· ≤ reachBytes) = true := hsz0
  clear hsz0
  rw [Try.params4] at hA hval hsz
  obtain ⟨v0, vs0, d0, ds0, p0, q0, hargs, rfl, rfl, g0, r0⟩ := trodAll_cons hA
  obtain ⟨v1, vs1, d1, ds1, p1, q1, rfl, rfl, rfl, g1, r1⟩ := trodAll_cons r0
  obtain ⟨v2, vs2, d2, ds2, p2, q2, rfl, rfl, rfl, g2, r2⟩ := trodAll_cons r1
  obtain ⟨rfl, rfl, rfl⟩ := trodAll_nil r2
  obtain rfl : args = #[v0, v1, v2] := by cases args; simp_all
  obtain ⟨rfl, rfl⟩ := trodVars_none hV
  obtain ⟨cs1, rfl, z1, H1⟩ := open_flat (ss := [.num .i64, .num .u64, .num .u64, .num .i64]) Try.underlying39 (by kernel_rfl) (by kernel_rfl) ⟨Try.underlying3, Try.underlying23, Try.underlying23, Try.underlying3, trivial⟩ (hval 1 39 v1 rfl rfl) g1
  obtain ⟨l1, rfl, z1⟩ := list_of z1
  obtain ⟨x1_0, x1_1, x1_2, x1_3, rfl⟩ := list4 z1
  obtain ⟨_, e, a1_0, rfl, w1_0⟩ := H1 0 _ rfl
  obtain rfl : x1_0 = .int .i64 a1_0 := by simpa using e
  clear e
  have h1_0 := i64_in w1_0
  obtain ⟨_, e, a1_1, rfl, w1_1⟩ := H1 1 _ rfl
  obtain rfl : x1_1 = .int .u64 a1_1 := by simpa using e
  clear e
  have h1_1 := u64_in w1_1
  obtain ⟨_, e, a1_2, rfl, w1_2⟩ := H1 2 _ rfl
  obtain rfl : x1_2 = .int .u64 a1_2 := by simpa using e
  clear e
  have h1_2 := u64_in w1_2
  obtain ⟨_, e, a1_3, rfl, w1_3⟩ := H1 3 _ rfl
  obtain rfl : x1_3 = .int .i64 a1_3 := by simpa using e
  clear e
  have h1_3 := i64_in w1_3
  clear H1
  obtain ⟨cs2, rfl, z2, H2⟩ := open_flat (ss := [.num .i64, .boo, .num .u64]) Try.underlying35 (by kernel_rfl) (by kernel_rfl) ⟨Try.underlying3, Try.underlying4, Try.underlying23, trivial⟩ (hval 2 35 v2 rfl rfl) g2
  obtain ⟨l2, rfl, z2⟩ := list_of z2
  obtain ⟨x2_0, x2_1, x2_2, rfl⟩ := list3 z2
  obtain ⟨_, e, a2_0, rfl, w2_0⟩ := H2 0 _ rfl
  obtain rfl : x2_0 = .int .i64 a2_0 := by simpa using e
  clear e
  have h2_0 := i64_in w2_0
  obtain ⟨_, e, a2_1, rfl⟩ := H2 1 _ rfl
  obtain rfl : x2_1 = .bool a2_1 := by simpa using e
  clear e
  obtain ⟨_, e, a2_2, rfl, w2_2⟩ := H2 2 _ rfl
  obtain rfl : x2_2 = .int .u64 a2_2 := by simpa using e
  clear e
  have h2_2 := u64_in w2_2
  clear H2
  obtain ⟨A0, n0, cap0, rfl⟩ := okWide_slice Try.underlying46 (hval 0 46 v0 rfl rfl)
  have s0 := row_size (by' := 16) Try.underlying46 (by kernel_rfl) g0 hsz (j := 0) rfl rfl
  obtain ⟨zs0, rfl, h0, w0, row0⟩ := open_Pairs g0 (fun x hx => hW'.lt x (by simp [hx]))
  unfold maxLen at h0
  clear hA0 hval0
  refine (walk zs0 A0 cap0 a1_0 a1_1 a1_2 a1_3 a2_0 a2_1 a2_2 W s0 w0 row0).mono fun e W' ⟨he, hg⟩ => ?_
  subst he
  exact ⟨_, rfl, law_post laidOut (by kernel_rfl) (by kernel_rfl) Try.underlying4 rfl rfl hW' hg⟩

theorem over : Rows.specMayRow.holds Try.pinned (OpenSpec.ofChange Rows.specMaySpec) :=
  OpenClaim.holds_of_wide 4 Try.f4 rfl rfl rfl rfl rfl rfl rfl ⟨rfl, rfl, rfl, rfl, rfl⟩ rfl rfl rfl rfl rfl (by kernel_rfl) Try.func4 (by kernel_rfl)
    (of_decide_eq_true (by kernel_rfl)) (by unfold Func.isWrapper; first | (rw [if_pos (by decide +kernel)]; kernel_rfl) | (rw [if_neg (by decide +kernel)]; exact ⟨rfl, rfl⟩))
    (fun os started H enc _ => lifted os started H enc)

/-- THE STATEMENT. -/
theorem proved : Rows.SpecMaySaid := over
#print axioms proved
end Go.Proofs.Ytdeohigggjfjjaa.specMay
