/- An ideal world that isn't there: of nothing there is nothing. -/
import Derived.Test.YtnlepgbmbdmjbaaCellN
import Derived.Test.YtnlepgbmbdmjbaaIdealA
namespace Go.Proofs.Ytnlepgbmbdmjbaa
open Go.RowKit
set_option maxRecDepth 100000

section
variable (x y z d v e o oe : Int) (b ob : Bool) (w : World)
theorem keptNil_i : Calls Try.prog 37 #[.pointer none] w fun e w' => e = .returned (.pointer none) ∧ w' = w := by
  go_enter Try.func37, Try.ntmps37
  go_wp2
  go_ret
  exact ⟨rfl, rfl⟩
theorem soulsNil_i : Calls Try.prog 11 #[.pointer none] w fun e w' => e = .returned (.pointer none) ∧ w' = w := by
  go_enter Try.func11, Try.ntmps11
  go_wp2
  go_ret
  exact ⟨rfl, rfl⟩
set_option maxHeartbeats 800000 in
theorem storeNil_i : Calls Try.prog 13 #[.pointer none, .agg #[.int .i64 x, .int .i64 y, .int .i64 z, .int .i64 d], .agg #[.int .u64 v, .int .i64 e, .bool b]] w fun e w' => e = .returned (.tuple #[]) ∧ Below w.heap.size w w' := by
  have hE := (((Env.start w).box w.heap.size rfl [.int .i64 x, .int .i64 y, .int .i64 z, .int .i64 d] 41).box (w.heap.size + 1) (by simp) [.int .u64 v, .int .i64 e, .bool b] 37)
  go_enter Try.func13, Try.ntmps13
  go_wp2
  (first | go_end0 | refine bodyPost_ret (results_none rfl _ _ _) rfl ?_)
  exact ⟨rfl, hE.below⟩
set_option maxHeartbeats 800000 in
theorem loadNil_i : Calls Try.prog 14 #[.pointer none, .agg #[.int .i64 x, .int .i64 y, .int .i64 z, .int .i64 d]] w fun e w' => e = .returned (.agg #[.int .u64 0, .int .i64 0, .bool false]) ∧ Below w.heap.size w w' := by
  have hE := ((Env.start w).box w.heap.size rfl [.int .i64 x, .int .i64 y, .int .i64 z, .int .i64 d] 41).box (w.heap.size + 1) (by simp) [.int .u64 0, .int .i64 0, .bool false] 37
  go_enter Try.func14, Try.ntmps14
  go_wp2
  refine bodyPost_ret (v := .agg #[.int .u64 0, .int .i64 0, .bool false]) (by simp [results, Try.results14, go_sem]) rfl ⟨rfl, hE.below⟩
set_option maxHeartbeats 800000 in
theorem swapNil_i : Calls Try.prog 15 #[.pointer none, .agg #[.int .i64 x, .int .i64 y, .int .i64 z, .int .i64 d], .agg #[.int .u64 o, .int .i64 oe, .bool ob], .agg #[.int .u64 v, .int .i64 e, .bool b]] w fun e w' => e = .returned (.bool false) ∧ Below w.heap.size w w' := by
  have hE := ((((Env.start w).box w.heap.size rfl [.int .i64 x, .int .i64 y, .int .i64 z, .int .i64 d] 41).box (w.heap.size + 1) (by simp) [.int .u64 o, .int .i64 oe, .bool ob] 37).box (w.heap.size + 1 + 1) (by simp) [.int .u64 v, .int .i64 e, .bool b] 37)
  obtain ⟨⟨o1, o2, o3⟩, ho⟩ : ∃ o, ownP x y z d = o := ⟨_, rfl⟩
  have HO := Lib.hid ho
  clear ho
  go_enter Try.func15, Try.ntmps15
  go_upto_region 1 with fail
  generalize ((w.alloc _).alloc _).alloc _ = w1 at *
  have r0 := hE.rule 2 rfl
  go_wp2_with fail
  refine (own_any x y z d o1 o2 o3 HO.out _).mono ?_
  rintro e1 w2 ⟨rfl, hb⟩
  replace hE := (hE.over hb).box w2.heap.size rfl [.int .i64 o1, .int .i64 o2, .int .i64 o3] 39
  clear r0 hb
  go_wp2_with fail
  generalize w2.alloc _ = w3 at *
  generalize w2.heap.size = P at *
  have hB := hE.below
  clear hE
  refine Ord.wp_chain [] (fun w' => Below w.heap.size w w') (fun _ _ => True) (by kernel_rfl) (by kernel_rfl) (by kernel_rfl) hB.drew trivial (fun hT => ?_)
  have hT9 := Lib.hid hT
  clear hT
  repeat (first
    | (refine Ord.ch_value (v := ?_) hT9.out (by decide) (by rfl) ?_ ?_; rotate_left; (focus (intro w5 hS; skip; go_simp <;> with_reducible rfl)); (try simp only [Act.put, List.setIfInBounds_toArray, List.set_cons_zero, List.set_cons_succ]))
    | (refine Ord.ch_off hT9.out (by decide) (by rfl) ?_; (try simp only [Act.put, List.setIfInBounds_toArray, List.set_cons_zero, List.set_cons_succ]))
    | (refine Ord.ch_call (v := ?_) (f := ?_) (args := ?_) hT9.out (by decide) (by rfl) ?_ ?_ ?_; rotate_left 3; (focus (intro w5 hS; skip; go_simp; constructor <;> with_reducible rfl)); (focus (intro w5 hS; (first | fail))); (try simp only [Act.put, List.setIfInBounds_toArray, List.set_cons_zero, List.set_cons_succ])))
  refine Ord.InText.nil fun w5 hS => ?_
  clear hT9
  obtain ⟨hC9, hA9⟩ := Ord.chain_end hS
  clear hS
  clear hA9
  go_wp2
  go_ret
  exact ⟨rfl, hC9⟩
set_option maxHeartbeats 800000 in
theorem addNil_i : Calls Try.prog 16 #[.pointer none, .agg #[.int .i64 x, .int .i64 y, .int .i64 z, .int .i64 d], .int .u64 v] w fun e w' => e = .returned (.int .u64 0) ∧ Below w.heap.size w w' := by
  have hE := ((Env.start w).box w.heap.size rfl [.int .i64 x, .int .i64 y, .int .i64 z, .int .i64 d] 41)
  obtain ⟨⟨o1, o2, o3⟩, ho⟩ : ∃ o, ownP x y z d = o := ⟨_, rfl⟩
  have HO := Lib.hid ho
  clear ho
  go_enter Try.func16, Try.ntmps16
  go_wp2_with fail
  refine Ord.wp_chain [] (fun w' => Env w [boxI (w.heap.size) [.int .i64 x, .int .i64 y, .int .i64 z, .int .i64 d]] w') (fun _ _ => True) (by kernel_rfl) (by kernel_rfl) (by kernel_rfl) hE.drew trivial (fun hT => ?_)
  have hT9 := Lib.hid hT
  clear hT
  repeat (first
    | (refine Ord.ch_value (v := ?_) hT9.out (by decide) (by rfl) ?_ ?_; rotate_left; (focus (intro w5 hS; have r0 := hS.rule 0 rfl; go_simp <;> with_reducible rfl)); (try simp only [Act.put, List.setIfInBounds_toArray, List.set_cons_zero, List.set_cons_succ]))
    | (refine Ord.ch_off hT9.out (by decide) (by rfl) ?_; (try simp only [Act.put, List.setIfInBounds_toArray, List.set_cons_zero, List.set_cons_succ]))
    | (refine Ord.ch_call (v := ?_) (f := ?_) (args := ?_) hT9.out (by decide) (by rfl) ?_ ?_ ?_; rotate_left 3; (focus (intro w5 hS; have r0 := hS.rule 0 rfl; go_simp; constructor <;> with_reducible rfl)); (focus (intro w5 hS; (first | (with_reducible refine (keptNil_i _).mono ?_; rintro e w6 ⟨rfl, rfl⟩; constructor; with_reducible rfl; exact ⟨hS, fun _ h => h⟩) | (with_reducible refine (own_any x y z d o1 o2 o3 HO.out _).mono ?_; rintro e w6 ⟨rfl, hb6⟩; constructor; with_reducible rfl; exact ⟨hS.over hb6, fun _ h => h⟩) | (with_reducible refine (addNil _ _ _ _ _).mono ?_; rintro e w6 ⟨rfl, hb6⟩; constructor; with_reducible rfl; exact ⟨hS.over hb6, fun _ h => h⟩)))); (try simp only [Act.put, List.setIfInBounds_toArray, List.set_cons_zero, List.set_cons_succ])))
  refine Ord.InText.nil fun w5 hS => ?_
  clear hT9
  obtain ⟨hC9, hA9⟩ := Ord.chain_end hS
  clear hS
  clear hA9
  go_wp2
  go_ret
  exact ⟨rfl, hC9.below⟩
set_option maxHeartbeats 800000 in
theorem bornNil_i : Calls Try.prog 17 #[.pointer none, .int .i64 x] w fun e w' => e = .returned (.int .i64 0) ∧ w' = w := by
  go_enter Try.func17, Try.ntmps17
  go_wp2_with fail
  refine (soulsNil_i _).mono ?_
  rintro e w1 ⟨rfl, rfl⟩
  go_wp2_with fail
  refine (born_low (s := none) x (.inl rfl)).mono ?_
  rintro e w1 ⟨rfl, rfl⟩
  go_wp2
  go_ret
  exact ⟨rfl, rfl⟩
set_option maxHeartbeats 800000 in
theorem peekNil_i : Calls Try.prog 18 #[.pointer none, .agg #[.int .i64 x, .int .i64 y, .int .i64 z]] w fun e w' => e = .returned (.int .u64 0) ∧ Below w.heap.size w w' := by
  have hE := ((Env.start w).box w.heap.size rfl [.int .i64 x, .int .i64 y, .int .i64 z] 39)
  obtain ⟨⟨o1, o2, o3⟩, ho⟩ : ∃ o, ownP x y z 0 = o := ⟨_, rfl⟩
  have HO := Lib.hid ho
  clear ho
  go_enter Try.func18, Try.ntmps18
  go_wp2_with fail
  refine Ord.wp_chain [] (fun w' => Env w [boxI (w.heap.size) [.int .i64 x, .int .i64 y, .int .i64 z]] w') (fun _ _ => True) (by kernel_rfl) (by kernel_rfl) (by kernel_rfl) hE.drew trivial (fun hT => ?_)
  have hT9 := Lib.hid hT
  clear hT
  repeat (first
    | (refine Ord.ch_value (v := ?_) hT9.out (by decide) (by rfl) ?_ ?_; rotate_left; (focus (intro w5 hS; have r0 := hS.rule 0 rfl; go_simp <;> with_reducible rfl)); (try simp only [Act.put, List.setIfInBounds_toArray, List.set_cons_zero, List.set_cons_succ]))
    | (refine Ord.ch_off hT9.out (by decide) (by rfl) ?_; (try simp only [Act.put, List.setIfInBounds_toArray, List.set_cons_zero, List.set_cons_succ]))
    | (refine Ord.ch_call (v := ?_) (f := ?_) (args := ?_) hT9.out (by decide) (by rfl) ?_ ?_ ?_; rotate_left 3; (focus (intro w5 hS; have r0 := hS.rule 0 rfl; go_simp; constructor <;> with_reducible rfl)); (focus (intro w5 hS; (first | (with_reducible refine (keptNil_i _).mono ?_; rintro e w6 ⟨rfl, rfl⟩; constructor; with_reducible rfl; exact ⟨hS, fun _ h => h⟩) | (with_reducible refine (soulsNil_i _).mono ?_; rintro e w6 ⟨rfl, rfl⟩; constructor; with_reducible rfl; exact ⟨hS, fun _ h => h⟩) | (with_reducible refine (now_nil _).mono ?_; rintro e w6 ⟨rfl, rfl⟩; constructor; with_reducible rfl; exact ⟨hS, fun _ h => h⟩) | (with_reducible refine (own_any x y z 0 o1 o2 o3 HO.out _).mono ?_; rintro e w6 ⟨rfl, hb6⟩; constructor; with_reducible rfl; exact ⟨hS.over hb6, fun _ h => h⟩) | (with_reducible refine (peekNil _ _ _ _).mono ?_; rintro e w6 ⟨rfl, hb6⟩; constructor; with_reducible rfl; exact ⟨hS.over hb6, fun _ h => h⟩)))); (try simp only [Act.put, List.setIfInBounds_toArray, List.set_cons_zero, List.set_cons_succ])))
  refine Ord.InText.nil fun w5 hS => ?_
  clear hT9
  obtain ⟨hC9, hA9⟩ := Ord.chain_end hS
  clear hS
  clear hA9
  go_wp2
  go_ret
  exact ⟨rfl, hC9.below⟩
set_option maxHeartbeats 1600000 in
theorem countNil_i : Calls Try.prog 10 #[.pointer none] w fun e w' => e = .returned (.agg #[.int .i64 0, .int .i64 0, .int .i64 0, .int .i64 0, .int .i64 0]) ∧ Below w.heap.size w w' := by
  have hE := (Env.start w).box w.heap.size rfl [.int .i64 0, .int .i64 0, .int .i64 0, .int .i64 0, .int .i64 0] 46
  go_enter Try.func10, Try.ntmps10
  go_wp2_with fail
  refine (keptNil_i _).mono ?_
  rintro e w1 ⟨rfl, rfl⟩
  go_wp2_with fail
  refine (countNil _).mono ?_
  rintro e w2 ⟨rfl, hb2⟩
  have hE2 := hE.over hb2
  have f5 := hE2.thaw 0 rfl
  have f0 := f5 0 (by simp)
  have f1 := f5 1 (by simp)
  have f2 := f5 2 (by simp)
  have f3 := f5 3 (by simp)
  have f4 := f5 4 (by simp)
  have r := hE2.rule 0 rfl
  clear f5
  go_wp2
  have hP := hE2.put5 0 rfl (.int .i64 0) (.int .i64 0) (.int .i64 0) (.int .i64 0) (.int .i64 0)
  have q9 := hP.rule 0 rfl
  exact bodyPost_ret (v := .agg #[.int .i64 0, .int .i64 0, .int .i64 0, .int .i64 0, .int .i64 0]) (by simp [results, Try.results10, go_sem, q9]) rfl ⟨rfl, hP.below⟩
set_option maxHeartbeats 800000 in
theorem contentNil_i : Calls Try.prog 19 #[.pointer none, .int .i64 d, .int .i64 z] w fun e w' => e = .returned (.int .u64 0) ∧ Below w.heap.size w w' := by
  go_enter Try.func19, Try.ntmps19
  go_wp2_with fail
  refine (placeOf_any d z _).mono ?_
  rintro e w1 ⟨rfl, hb⟩
  have hE := ((Env.start w).over hb).box w1.heap.size rfl [.int .i64 5, .int .i64 d, .int .i64 z] 39
  clear hb
  go_upto_region 2 with fail
  generalize w1.alloc _ = w2 at *
  generalize w1.heap.size = X at *
  have r := hE.rule 0 rfl
  go_wp2_with fail
  refine (isContent_any 5 d z _).mono ?_
  rintro e w3 ⟨rfl, hb⟩
  replace hE := hE.over hb
  clear hb r
  generalize contB 5 z = t at *
  cases t
  · go_wp2
    go_ret
    exact ⟨rfl, hE.below⟩
  · go_wp2_with fail
    refine Ord.wp_chain [] (fun w' => Env w [boxI X [.int .i64 5, .int .i64 d, .int .i64 z]] w') (fun _ _ => True) (by kernel_rfl) (by kernel_rfl) (by kernel_rfl) hE.drew trivial (fun hT => ?_)
    have hT9 := Lib.hid hT
    clear hT
    repeat (first
      | (refine Ord.ch_value (v := ?_) hT9.out (by decide) (by rfl) ?_ ?_; rotate_left; (focus (intro w5 hS; have r := hS.rule 0 rfl; go_simp <;> with_reducible rfl)); (try simp only [Act.put, List.setIfInBounds_toArray, List.set_cons_zero, List.set_cons_succ]))
      | (refine Ord.ch_off hT9.out (by decide) (by rfl) ?_; (try simp only [Act.put, List.setIfInBounds_toArray, List.set_cons_zero, List.set_cons_succ]))
      | (refine Ord.ch_call (v := ?_) (f := ?_) (args := ?_) hT9.out (by decide) (by rfl) ?_ ?_ ?_; rotate_left 3; (focus (intro w5 hS; have r := hS.rule 0 rfl; go_simp; constructor <;> with_reducible rfl)); (focus (intro w5 hS; (first | (with_reducible refine (keptNil_i _).mono ?_; rintro e w6 ⟨rfl, rfl⟩; constructor; with_reducible rfl; exact ⟨hS, fun _ h => h⟩) | (with_reducible refine (peekNil _ _ _ _).mono ?_; rintro e w6 ⟨rfl, hb6⟩; constructor; with_reducible rfl; exact ⟨hS.over hb6, fun _ h => h⟩)))); (try simp only [Act.put, List.setIfInBounds_toArray, List.set_cons_zero, List.set_cons_succ])))
    refine Ord.InText.nil fun w5 hS => ?_
    clear hT9
    obtain ⟨hC9, hA9⟩ := Ord.chain_end hS
    clear hS
    clear hA9
    go_wp2
    go_ret
    exact ⟨rfl, hC9.below⟩
end
end Go.Proofs.Ytnlepgbmbdmjbaa
