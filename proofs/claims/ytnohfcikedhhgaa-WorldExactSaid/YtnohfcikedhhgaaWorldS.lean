/- The plain world: it starts; it is awake. -/
import Derived.Test.YtnohfcikedhhgaaWorldA
import Derived.Test.YtnohfcikedhhgaaPlaceK
import Derived.Test.YtnohfcikedhhgaaOrdB
import Derived.Defers
import Derived.Recover
namespace Go.Proofs.Ytnohfcikedhhgaa
open Go.RowKit Go.Maps
set_option maxRecDepth 100000

/-- The deferred recover, where nothing panicked. -/
theorem caught_none (w : World) : CallsD Try.prog 26 #[] .returning w fun e u' w' => u' = .returning ∧ e = .returned (.tuple #[]) ∧ w' = w := by
  refine callsD_of_wpS Try.func26 rfl fun c₀ cs hu => ?_
  apply wpS_region
  cases c₀
  simp_all [wpOpsS, go_sem, recoverD, Try.ntmps26, Exit.thenS, bodyPostS, results, Try.results26]

theorem method_store (k p : Nat) (w : World) : (method (k + 1) 24 (.pointer (some ⟨p, 0, none⟩)) "Store").run Try.prog w = .ok (12, .pointer (some ⟨p, 0, none⟩)) w := by kernel_rfl

section
variable {w0 w : World} {L : List Item} {p c n : Nat} {F : Nat → Prop} {f : Plc → Int} {q : Cnt}
set_option maxHeartbeats 1600000 in
theorem start_w (i j : Nat) (hij : j ≠ i) (hn : n < maxLen) (hE : Env w0 L w) (hi : L[i]? = some (wbox p c)) (hj : L[j]? = some (cellI c F f q n)) :
    Calls Try.prog 8 #[.iface 24 (.pointer (some ⟨p, 0, none⟩))] w fun e w' => e = .returned (.tuple #[]) ∧ ∃ F', Env w0 (L.set j (cellI c F' (upd f (1, 0, 0) 1) { q with s := wrap64 (q.s + 1) } (n + 1))) w' := by
  have hmf : ∀ (fn : Fn) (first cap : Array Value) (w : World), (Instr.makeFunc fn first cap).run Try.prog w = .ok (.func fn first cap) w := fun _ _ _ _ => rfl
  go_enter_defers Try.func8, Try.ntmps8
  go_wp2_with fail
  refine Ord.wp_chain [6] (fun _ => True) (fun k w' => ∃ F', Env w0 (if k = 0 then L else L.set j (cellI c F' (upd f (1, 0, 0) 1) { q with s := wrap64 (q.s + 1) } (n + 1))) w') (by kernel_rfl) (by kernel_rfl) (by kernel_rfl) trivial ⟨F, hE.drew⟩ (fun hT => ?_)
  have hT9 := Lib.hid hT
  clear hT
  repeat (first
    | (refine Ord.ch_value (v := ?_) hT9.out (by decide) (by rfl) ?_ ?_; rotate_left; (focus (intro w5 hS; skip; go_simp <;> with_reducible rfl)); (try simp only [Act.put, List.setIfInBounds_toArray, List.set_cons_zero, List.set_cons_succ]))
    | (refine Ord.ch_off hT9.out (by decide) (by rfl) ?_; (try simp only [Act.put, List.setIfInBounds_toArray, List.set_cons_zero, List.set_cons_succ]))
    | (refine Ord.ch_call (v := ?_) (f := ?_) (args := ?_) hT9.out (by decide) (by rfl) ?_ ?_ ?_; rotate_left 3; (focus (intro w5 hS; skip; go_simp; constructor <;> with_reducible rfl)); (focus (intro w5 hS; (first | (with_reducible refine (epoch_any _).mono ?_; rintro e w6 ⟨rfl, hb6⟩; constructor; with_reducible rfl; exact ⟨trivial, fun k h => h.elim fun F' h => ⟨F', h.over hb6⟩⟩)))); (try simp only [Act.put, List.setIfInBounds_toArray, List.set_cons_zero, List.set_cons_succ])))
  refine Ord.ch_turn (v := .tuple #[]) 0 hT9.out rfl (by decide) (Or.inl rfl) (by rfl) ?_ ?_
  · rintro w5 hC5 ⟨F5, hA5⟩
    simp only [if_true] at hA5
    go_simp
    rw [method_store]
    simp only [Result.andThen_ok]
    go_simp
    simp only [Ord.LandsIn]
    refine (store_w 1 0 0 0 1 0 false (by unfold Wf In64; simp) (by unfold InU; simp) hn i j hij hA5 hi hj).mono ?_
    rintro e w6 ⟨rfl, F6, hE6⟩
    exact ⟨rfl, F6, hE6⟩
  (try simp only [Act.put, List.setIfInBounds_toArray, List.set_cons_zero, List.set_cons_succ])
  repeat (first
    | (refine Ord.ch_value (v := ?_) hT9.out (by decide) (by rfl) ?_ ?_; rotate_left; (focus (intro w5 hS; skip; go_simp <;> with_reducible rfl)); (try simp only [Act.put, List.setIfInBounds_toArray, List.set_cons_zero, List.set_cons_succ]))
    | (refine Ord.ch_off hT9.out (by decide) (by rfl) ?_; (try simp only [Act.put, List.setIfInBounds_toArray, List.set_cons_zero, List.set_cons_succ])))
  refine Ord.InText.nil fun w5 hS => ?_
  clear hT9
  obtain ⟨hC9, hA9⟩ := Ord.chain_end hS
  clear hS
  obtain ⟨F9, hA9⟩ := hA9
  simp only [List.length_cons, List.length_nil, Nat.zero_add, Nat.one_ne_zero, if_false] at hA9
  go_wp2
  refine leaves_cons (f := 26) (args := #[]) (by simp) (by simp [go_sem]) ?_
  refine (caught_none _).mono ?_
  rintro e u' w'' ⟨rfl, rfl, rfl⟩
  exact ⟨_, results_none rfl _ _ _, rfl, F9, hA9⟩
end
theorem start_nil (w : World) : Calls Try.prog 8 #[.nilIface] w fun e w' => e = .returned (.tuple #[]) ∧ w' = w := by
  go_enter_defers Try.func8, Try.ntmps8
  go_wp2
  exact ⟨_, results_none rfl _ _ _, rfl, rfl⟩

set_option maxHeartbeats 1600000 in
theorem awake7 (w : World) : Calls Try.prog 6 #[] w fun e w' => e = .returned (.bool true) ∧ Below w.heap.size w w' := by
  have hE := Env.start w
  have hx : Wf (4, 0, 0) := by unfold Wf In64; simp
  have hx1 : Wf (1, 0, 0) := by unfold Wf In64; simp
  have HX := Lib.hid hx
  have HX1 := Lib.hid hx1
  clear hx hx1
  have hM : ∀ k : Nat, k ≤ 100 → k < maxLen := fun k hk => by unfold maxLen; omega
  have HM := Lib.hid hM
  clear hM
  go_enter Try.func6, Try.ntmps6
  go_wp2_with fail
  refine (new_w hE).mono ?_
  rintro e w1 ⟨p, c, rfl, hE, hb⟩
  clear hb
  go_wp2_with fail
  refine (start_w 0 1 (by decide) (HM.out _ (by omega)) hE rfl rfl).mono ?_
  rintro e w2 ⟨rfl, F2, hE⟩
  simp only [List.set_cons_succ, List.set_cons_zero] at hE
  go_wp2_with fail
  refine (root_any _ _).mono ?_
  rintro e w3 ⟨rfl, hb⟩
  replace hE := (hE.over hb).box w3.heap.size rfl [.int .i64 4, .int .i64 0, .int .i64 0, .int .i64 9] 38
  clear hb
  have r := hE.rule 0 rfl
  go_wp2_with fail
  refine (store_w 4 0 0 9 5 3 true HX.out (by unfold InU; omega) (HM.out _ (by omega)) 1 2 (by decide) hE rfl rfl).mono ?_
  rintro e w4 ⟨rfl, F4, hE⟩
  simp only [List.set_cons_succ, List.set_cons_zero] at hE
  clear r
  generalize w3.heap.size = A at *
  have r := hE.rule 0 rfl
  go_wp2_with fail
  refine (load_w 4 0 0 9 HX.out 1 2 (by decide) hE rfl rfl).mono ?_
  rintro e w5 ⟨rfl, hE⟩
  simp only [List.set_cons_succ, List.set_cons_zero] at hE
  rw [upd_same]
  clear r
  have r := hE.rule 0 rfl
  go_wp2_with fail
  refine (epoch_any _).mono ?_
  rintro e w6 ⟨rfl, hb⟩
  replace hE := hE.over hb
  clear r hb
  have r := hE.rule 0 rfl
  go_wp2_with fail
  refine (peek_w 1 0 0 HX1.out 1 2 hE rfl rfl).mono ?_
  rintro e w7 ⟨rfl, hb⟩
  replace hE := hE.over hb
  clear r hb
  have r := hE.rule 0 rfl
  rw [show upd (upd (fun _ => 0) (1, 0, 0) 1) (4, 0, 0) 5 (1, 0, 0) = 1 by simp [upd]]
  go_wp2_with fail
  refine (swap_w 4 0 0 9 5 0 6 0 false false HX.out (by unfold InU; omega) (HM.out _ (by omega)) 1 2 (by decide) hE rfl rfl).mono ?_
  rintro e w8 ⟨rfl, F8, hE⟩
  simp only [List.set_cons_succ, List.set_cons_zero] at hE
  clear r
  have r := hE.rule 0 rfl
  rw [upd_same] at hE ⊢
  go_wp2_with fail
  refine (add_w 4 0 0 9 2 HX.out (HM.out _ (by omega)) 1 2 (by decide) hE rfl rfl).mono ?_
  rintro e w9 ⟨rfl, F9, hE⟩
  simp only [List.set_cons_succ, List.set_cons_zero] at hE
  rw [show swf (upd (upd (fun _ => 0) (1, 0, 0) 1) (4, 0, 0) 5) (4, 0, 0) 5 6 (4, 0, 0) = 6 by simp [swf, upd]]
  go_wp2_with fail
  refine (born_w _ _ _).mono ?_
  rintro e w10 ⟨rfl, rfl⟩
  go_wp2_with fail
  refine (count_w 1 2 hE rfl rfl).mono ?_
  rintro e w11 ⟨rfl, hb⟩
  replace hE := hE.over hb
  simp only [swq, wrap64, decide_true, if_true]
  go_wp2
  go_ret
  exact ⟨rfl, hE.below⟩
end Go.Proofs.Ytnohfcikedhhgaa
