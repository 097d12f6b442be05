/- What is proved on the way to the statement, part 4 of 7: contracts of the functions, among other things in memory. -/
import Derived.Test.YtdeohigggjfjjaaG3
import Derived.DeepKeys
import Derived.SizedLaws
import Derived.Test.YtdeohigggjfjjaaChecked

/- Two states are the same by ==, if and only if they have the same pairs. -/
namespace Go.Proofs.Ytdeohigggjfjjaa
open Go.RowKit
set_option maxRecDepth 100000

def cellS (l : List (Int × Int)) (j : Nat) : Int := if j % 2 = 0 then (l.getD (j / 2) (0, 0)).1 else (l.getD (j / 2) (0, 0)).2
theorem encS_eq {l : List (Int × Int)} (h : l.length ≤ 16) : encS l = (List.range 32).map (fun j => Value.int .u64 (cellS l j)) ++ [.int .i64 l.length] := by
  apply List.ext_getElem?
  intro j
  by_cases hj : j < 32
  · rw [List.getElem?_append_left (by simpa using hj), List.getElem?_map, List.getElem?_range hj, Option.map_some]
    by_cases hl : j / 2 < l.length
    · obtain ⟨h1, h2⟩ := encS_key hl
      by_cases hp : j % 2 = 0
      · rw [show j / 2 * 2 = j by omega] at h1
        rw [h1]; unfold cellS; rw [if_pos hp]
      · rw [show j / 2 * 2 + 1 = j by omega] at h2
        rw [h2]; unfold cellS; rw [if_neg hp]
    · have e0 : (encS l)[j]? = some (.int .u64 0) := by
        unfold encS
        rw [List.append_assoc, List.getElem?_append_right (by simp; omega), List.getElem?_append_left (by simp [zeros]; omega)]
        simp [zeros, List.getElem?_replicate]
        omega
      have e1 : cellS l j = 0 := by
        have e2 : l.getD (j / 2) (0, 0) = (0, 0) := by rw [List.getD_eq_getElem?_getD, List.getElem?_eq_none (by omega)]; rfl
        unfold cellS
        rw [e2]
        simp
      rw [e0, e1]
  · by_cases h32 : j = 32
    · subst h32
      rw [encS_n h, List.getElem?_append_right (by simp)]
      simp
    · rw [List.getElem?_eq_none (by rw [encS_length h]; omega), List.getElem?_eq_none (by simp; omega)]
theorem mapM_all {α β : Type} {f : α → Option β} {g : α → β} : ∀ l : List α, (∀ x ∈ l, f x = some (g x)) → l.mapM f = some (l.map g)
  | [], _ => rfl
  | x :: l, h => by
    rw [List.mapM_cons, h x (List.mem_cons_self ..), mapM_all l fun y hy => h y (List.mem_cons_of_mem _ hy)]
    rfl
theorem wf_of {n : Int} (h : InU n) : (Lit.int .u64 n).wf = true := wf_u.2 h
theorem lits26 (a b : Int) (ha : InU a) (hb : InU b) : Try.prog.keyLits 5 26 [.int .u64 a, .int .u64 b] = some [.int .u64 a, .int .u64 b] := by
  have e1 := wf_of ha
  have e2 := wf_of hb
  generalize hA : (Lit.int .u64 a).wf = wa at *
  generalize hB : (Lit.int .u64 b).wf = wb at *
  subst e1 e2
  have u : Try.prog.underlying 23 = some (.int .u64) := by kernel_rfl
  have k1 : ∀ n : Int, (Lit.int .u64 n).wf = true → Try.prog.keyLits 4 23 [.int .u64 n] = some [.int .u64 n] := fun n h => by
    unfold Program.keyLits
    rw [u]
    simp [h]
  have h1 := k1 a hA
  have h2 := k1 b hB
  have e : Try.prog.keyLits 5 26 [.int .u64 a, .int .u64 b] = ((do let x ← Try.prog.keyLits 4 23 [.int .u64 a]; let y ← Try.prog.keyLits 4 23 [.int .u64 b]; pure [x, y]) : Option (List (List Lit))).map List.flatten := by kernel_rfl
  rw [e, h1, h2]
  rfl
theorem lits27 (c : Nat → Int) (hc : ∀ j, InU (c j)) : Try.prog.keyLits 6 27 ((List.range 32).map fun j => Value.int .u64 (c j)) = some ((List.range 32).map fun j => Lit.int .u64 (c j)) := by
  have e : Try.prog.keyLits 6 27 ((List.range 32).map fun j => Value.int .u64 (c j)) = ((List.range 16).mapM fun i => Try.prog.keyLits 5 26 (((((List.range 32).map fun j => Value.int .u64 (c j)).drop (i * 2)).take 2))).map List.flatten := by kernel_rfl
  rw [e, mapM_all (g := fun i => [Lit.int .u64 (c (i * 2)), Lit.int .u64 (c (i * 2 + 1))])]
  · rfl
  · intro i hi
    have hi' : i < 16 := by simpa using hi
    have e2 : (((List.range 32).map fun j => Value.int .u64 (c j)).drop (i * 2)).take 2 = [.int .u64 (c (i * 2)), .int .u64 (c (i * 2 + 1))] := by
      apply List.ext_getElem?
      intro j
      match j with
      | 0 => simp [List.getElem?_take, List.getElem?_range (show i * 2 < 32 by omega)]
      | 1 => simp [List.getElem?_take, List.getElem?_range (show i * 2 + 1 < 32 by omega)]
      | j + 2 => simp [List.getElem?_take]; try omega
    rw [e2]
    exact lits26 _ _ (hc _) (hc _)
theorem lits29 (c : Nat → Int) (hc : ∀ j, InU (c j)) (n : Int) (hn : In64 n) : Try.prog.keyLits 7 29 ((List.range 32).map (fun j => Value.int .u64 (c j)) ++ [.int .i64 n]) = some ((List.range 32).map (fun j => Lit.int .u64 (c j)) ++ [.int .i64 n]) := by
  have u : Try.prog.underlying 3 = some (.int .i64) := by kernel_rfl
  have hw : (Lit.int .i64 n).wf = true := wf_i.2 hn
  have k1 : Try.prog.keyLits 6 3 [.int .i64 n] = some [.int .i64 n] := by
    unfold Program.keyLits
    rw [u]
    simp [hw]
  have e : Try.prog.keyLits 7 29 ((List.range 32).map (fun j => Value.int .u64 (c j)) ++ [.int .i64 n]) = ((do let x ← Try.prog.keyLits 6 27 ((List.range 32).map fun j => Value.int .u64 (c j)); let y ← Try.prog.keyLits 6 3 [.int .i64 n]; pure [x, y]) : Option (List (List Lit))).map List.flatten := by kernel_rfl
  rw [e, lits27 c hc, k1]
  rfl
theorem cellS_in {l : List (Int × Int)} (h : ∀ p ∈ l, InU p.1 ∧ InU p.2) (j : Nat) : InU (cellS l j) := by
  have h0 : InU 0 := by unfold InU; omega
  have : InU (l.getD (j / 2) (0, 0)).1 ∧ InU (l.getD (j / 2) (0, 0)).2 := by
    rw [List.getD_eq_getElem?_getD]
    cases e : l[j / 2]? with
    | none => exact ⟨h0, h0⟩
    | some p => exact h p (List.mem_of_getElem? e)
  unfold cellS
  split
  · exact this.1
  · exact this.2
theorem state_inj {a b : List (Int × Int)} (ha : a.length ≤ 16) (hb : b.length ≤ 16) (h : (List.range 32).map (fun j => Lit.int .u64 (cellS a j)) ++ [Lit.int .i64 a.length] = (List.range 32).map (fun j => Lit.int .u64 (cellS b j)) ++ [Lit.int .i64 b.length]) : a = b := by
  obtain ⟨h1, h2⟩ := List.append_inj h (by simp)
  have hl : a.length = b.length := by simp at h2; omega
  apply List.ext_getElem hl
  intro i h3 h4
  have e : ∀ j, j < 32 → cellS a j = cellS b j := fun j hj => by
    have := congrArg (fun l => l[j]?) h1
    simpa [List.getElem?_range hj] using this
  have e1 := e (i * 2) (by omega)
  have e2 := e (i * 2 + 1) (by omega)
  unfold cellS at e1 e2
  rw [if_pos (by omega), if_pos (by omega), show i * 2 / 2 = i by omega] at e1
  rw [if_neg (by omega), if_neg (by omega), show (i * 2 + 1) / 2 = i by omega] at e2
  rw [List.getD_eq_getElem?_getD, List.getElem?_eq_getElem h3, List.getD_eq_getElem?_getD, List.getElem?_eq_getElem h4] at e1 e2
  exact Prod.ext e1 e2
theorem eq_run {a b : List (Int × Int)} (ha : SOk a) (hb : SOk b) (w : World) : (Op.equalIn 10000 29 (.agg (encS a).toArray) (.agg (encS b).toArray)).run Try.prog w = .ok (decide (a = b)) w := by
  have hk : Try.prog.keyTypeAt 5 29 = true := by kernel_rfl
  have l1 := lits29 (cellS a) (cellS_in ha.u) a.length (by have := ha.le; unfold In64; omega)
  have l2 := lits29 (cellS b) (cellS_in hb.u) b.length (by have := hb.le; unfold In64; omega)
  rw [← encS_eq ha.le] at l1
  rw [← encS_eq hb.le] at l2
  have fo : ∀ {l : List (Int × Int)}, l.length ≤ 16 → (Value.agg (encS l).toArray).formed Try.prog 29 = true := fun {l} h => by
    have e := encS_length h
    have h2 : (Value.agg (encS l).toArray).formed Try.prog 29 = decide ((encS l).toArray.size = 33) := by kernel_rfl
    rw [h2, List.size_toArray, e]; rfl
  obtain ⟨r, hr, hi⟩ := run_equalIn_deep 9995 5 29 hk w 7 7 _ _ _ _ (fo ha.le) (fo hb.le) (by simpa [Value.cells] using l1) (by simpa [Value.cells] using l2)
  have : r = decide (a = b) := by
    rw [Bool.eq_iff_iff, hi, decide_eq_true_eq]
    exact ⟨fun h => state_inj ha.le hb.le h, fun h => by rw [h]⟩
  rw [← this]
  exact hr
theorem exec_eql {o : Oper} {ρ : Operand → Value} (w : World) (x y : Operand) (ho : o.op = .binOp .eql 29 x y 29) {a b : List (Int × Int)} (ha : SOk a) (hb : SOk b) (hx : ρ x = .agg (encS a).toArray) (hy : ρ y = .agg (encS b).toArray) :
    (execOp ρ o).run Try.prog w = .ok (.value (.bool (decide (a = b)))) w := by
  unfold execOp
  simp only [ho, hx, hy, Sem.run_bind, run_eqGuard_agg (P := Try.prog) w .eql 29 x y _ _ (by kernel_rfl), run_eql_struct, Result.andThen_ok, eq_run ha hb w, Sem.run_pure]
/-- In a plain region with guards: an operation that is wanted, one that is not. -/
theorem wpList_on {P : Program} {ops : Array Oper} {rest : List Oper} {o : Oper} {a : Act} {w : World} {Q : Exit → Act → World → Prop} (v : Value) (hw : Region.wanted o (yielded ops a.tmps) = true) (hrun : (execOp a.eval o).run P w = .ok (.value v) w) (h : wpList P ops Q rest (a.put o.dst v) w) : wpList P ops Q (o :: rest) a w :=
  wpList_step fun K hK => by
    rw [if_pos hw]
    unfold Oper.wp
    rw [hrun]
    exact hK _ _ h
theorem wpList_off {P : Program} {ops : Array Oper} {rest : List Oper} {o : Oper} {a : Act} {w : World} {Q : Exit → Act → World → Prop} (hw : Region.wanted o (yielded ops a.tmps) = false) (h : wpList P ops Q rest (a.put o.dst undef) w) : wpList P ops Q (o :: rest) a w :=
  wpList_step fun K hK => by
    rw [if_neg (by rw [hw]; exact Bool.false_ne_true)]
    exact hK _ _ h
end Go.Proofs.Ytdeohigggjfjjaa

/- alike: whether a state is the document's: it is, where both hold the same pairs. -/
namespace Go.Proofs.Ytdeohigggjfjjaa
open Go.RowKit Go.Maps
set_option maxRecDepth 100000

theorem sort_same {l S : List (Int × Int)} (hl : Up l) (hp : S.Perm l) (hs : S.Pairwise fun x y => x.1 ≤ y.1) : S = l := by
  refine List.Perm.eq_of_pairwise (le := fun x y => x.1 ≤ y.1) (fun x y hx hy h1 h2 => ?_) hs (hl.imp fun h => by omega) hp
  have : x.1 = y.1 := by omega
  exact Prod.ext this (val_uniq hl (k := x.1) (by simpa using hp.mem_iff.1 hx) (by rw [this]; simpa using hy))
theorem wpList_onCall {P : Program} {ops : Array Oper} {rest : List Oper} {o : Oper} {a : Act} {w : World} {Q : Exit → Act → World → Prop} {T : World → Prop} (v : Value) (f : FuncId) (args : Array Value) (hw : Region.wanted o (yielded ops a.tmps) = true) (hrun : (execOp a.eval o).run P w = .ok (.enter f args) w)
    (hc : Calls P f args w fun e w' => e = .returned v ∧ T w') (h : ∀ w', T w' → wpList P ops Q rest (a.put o.dst v) w') : wpList P ops Q (o :: rest) a w :=
  wpList_step fun K hK => by
    rw [if_pos hw]
    unfold Oper.wp
    rw [hrun, Oper.upon_enter]
    refine hc.mono fun e w'' hh => ?_
    obtain ⟨rfl, hT⟩ := hh
    exact hK _ _ (h w'' hT)
set_option maxHeartbeats 6400000 in
theorem alike_t {A : Option Addr} {cap n : Nat} {l M : List (Int × Int)} {w : World} (hl : Up l) (hn : l.length ≤ 16) (hp : M.Perm l) (hnM : M.length = n) (hr : RowX encP 2 w A M) (hA : A = none → M = []) :
    Calls Try.prog 13 #[.agg (encS l).toArray, .agg #[.slice A n cap]] w fun e w' => e = .returned (.bool true) ∧ Below w.heap.size w w' := by
  subst hnM
  have HLEN := Lib.hid hp.length_eq
  have hF := ((Fr.start w).push w.heap.size rfl (encS l) 29).push (w.heap.size + 1) (by simp) [.slice A M.length cap] 32
  have HR := Lib.hid hr
  have HP := Lib.hid hp
  have HL := Lib.hid hl
  clear hr hp hl
  go_enter Try.func13, Try.ntmps13
  go_upto_region 1 with fail
  apply wp_region_lit
  refine wpList_load_mid rfl 29 _ rfl w.heap.size 0 rfl (encS l) _ (hF.range 1 rfl) und29 rfl (size33 hn) ?_
  go_wp2_with fail
  refine (list_s l hn _).mono ?_
  rintro e w1 ⟨A1, c1, rfl, hR1, hb⟩
  replace hF := hF.over hb
  clear hb
  have r1 := hF.rule 0 rfl
  go_wp2_with fail
  refine (sorted_r (cap := cap) (by rw [HLEN.out]; omega) (HR.out.below hF.below) hA).mono ?_
  rintro e w2 ⟨A2, c2, S, hS1, hS2, rfl, hR2, hb⟩
  have hSl := sort_same HL.out (hS1.trans HP.out) hS2
  subst hSl
  replace hF := hF.over hb
  replace hR1 := hR1.below hb
  clear hb hS1 hS2 r1
  go_upto_region 3 with fail
  apply wp_region_lit
  refine wpList_on ?_ (by rfl) ?_ ?_
  rotate_left
  focus (go_simp <;> with_reducible rfl)
  (try simp only [Act.put, Act.eval, List.setIfInBounds_toArray, List.set_cons_zero, List.set_cons_succ])
  refine wpList_on ?_ (by rfl) ?_ ?_
  rotate_left
  focus (go_simp <;> with_reducible rfl)
  (try simp only [Act.put, Act.eval, List.setIfInBounds_toArray, List.set_cons_zero, List.set_cons_succ])
  refine wpList_on ?_ (by rfl) ?_ ?_
  rotate_left
  focus (go_simp <;> with_reducible rfl)
  (try simp only [Act.put, Act.eval, List.setIfInBounds_toArray, List.set_cons_zero, List.set_cons_succ])
  refine wpList_on ?_ (by rfl) ?_ ?_
  rotate_left
  focus (go_simp <;> with_reducible rfl)
  (try simp only [Act.put, Act.eval, List.setIfInBounds_toArray, List.set_cons_zero, List.set_cons_succ])
  refine wpList_on ?_ (by rfl) ?_ ?_
  rotate_left
  focus (go_simp <;> with_reducible rfl)
  (try simp only [Act.put, Act.eval, List.setIfInBounds_toArray, List.set_cons_zero, List.set_cons_succ])
  refine wpList_on ?_ (by rfl) ?_ ?_
  rotate_left
  focus (go_simp <;> with_reducible rfl)
  (try simp only [Act.put, Act.eval, List.setIfInBounds_toArray, List.set_cons_zero, List.set_cons_succ])
  refine wpList_on (.agg (encS S).toArray) (by rfl) (exec_load _ 29 _ rfl w.heap.size rfl (encS S) _ (hF.range 1 rfl) und29 rfl (size33 hn)) ?_
  (try simp only [Act.put, Act.eval, List.setIfInBounds_toArray, List.set_cons_zero, List.set_cons_succ])
  refine wpList_onCall (.int .i64 S.length) 25 #[.agg (encS S).toArray] (by rfl) (by go_simp) (len_s S hn _) fun w3 hb => ?_
  replace hF := hF.over hb
  replace hR1 := hR1.below hb
  replace hR2 := hR2.below hb
  clear hb
  (try simp only [Act.put, Act.eval, List.setIfInBounds_toArray, List.set_cons_zero, List.set_cons_succ])
  refine wpList_on ?_ (by rfl) ?_ ?_
  rotate_left
  focus (go_simp <;> with_reducible rfl)
  (try simp only [Act.put, Act.eval, List.setIfInBounds_toArray, List.set_cons_zero, List.set_cons_succ])
  refine wpList_on ?_ (by rfl) ?_ ?_
  rotate_left
  focus (go_simp <;> with_reducible rfl)
  (try simp only [Act.put, Act.eval, List.setIfInBounds_toArray, List.set_cons_zero, List.set_cons_succ])
  refine wpList_on ?_ (by rfl) ?_ ?_
  rotate_left
  focus (go_simp <;> with_reducible rfl)
  (try simp only [Act.put, Act.eval, List.setIfInBounds_toArray, List.set_cons_zero, List.set_cons_succ])
  refine wpList_on ?_ (by rfl) ?_ ?_
  rotate_left
  focus (go_simp <;> with_reducible rfl)
  (try simp only [Act.put, Act.eval, List.setIfInBounds_toArray, List.set_cons_zero, List.set_cons_succ])
  generalize hnn : S.length = n at *
  go_wp2_with fail
  go_loopg [7] (n + 1) (fun kx s7 wr => ∃ i : Nat, s7 = .int .i64 i ∧ i ≤ n ∧ n - i ≤ kx ∧ Hid (Below w.heap.size w wr) ∧ Hid (RowX encP 2 wr A1 S) ∧ Hid (RowX encP 2 wr A2 S))
  case atStart => exact ⟨0, rfl, Nat.zero_le _, by omega, Lib.hid hF.below, Lib.hid hR1, Lib.hid hR2⟩
  case round =>
    clear hF hR1 hR2
    obtain ⟨i, rfl, hi, hk, hF, hR1, hR2⟩ := hrel
    by_cases hlt : i < n
    · have hlt' : (i : Int) < (n : Int) := by omega
      obtain ⟨g1, o1, rfl, -, hc1⟩ := hR1.out.pairs (i := i) (by omega)
      obtain ⟨g2, o2, rfl, -, hc2⟩ := hR2.out.pairs (i := i) (by omega)
      obtain ⟨a1, a2⟩ := hc1 i (by omega)
      obtain ⟨b1, b2⟩ := hc2 i (by omega)
      generalize (S.getD i (0, 0)).1 = x at a1 b1
      generalize (S.getD i (0, 0)).2 = y at a2 b2
      clear hc1 hc2
      go_upto_region 8 with fail
      refine wp_text (S := (fun w' => Below w.heap.size w w' ∧ RowX encP 2 w' (some ⟨g1, o1, none⟩) S ∧ RowX encP 2 w' (some ⟨g2, o2, none⟩) S ∧ w'.cell? ⟨g1, o1 + i * 2, none⟩ = some (.int .u64 x) ∧ w'.cell? ⟨g1, o1 + i * 2 + 1, none⟩ = some (.int .u64 y) ∧ w'.cell? ⟨g2, o2 + i * 2, none⟩ = some (.int .u64 x) ∧ w'.cell? ⟨g2, o2 + i * 2 + 1, none⟩ = some (.int .u64 y))) (by kernel_rfl) (by kernel_rfl) ⟨hF.out.drew, hR1.out, hR2.out, a1, a2, b1, b2⟩ (fun hT => ?_)
      have hT9 := Lib.hid hT
      clear hT
      repeat (first
        | (refine text_value (v := ?_) hT9.out (by rfl) ?_ ?_; rotate_left; (focus (intro w5 hS; have q1 := hS.2.2.2.1; have q2 := hS.2.2.2.2.1; have q3 := hS.2.2.2.2.2.1; have q4 := hS.2.2.2.2.2.2; go_simp <;> with_reducible rfl)); (try simp only [Act.put, List.setIfInBounds_toArray, List.set_cons_zero, List.set_cons_succ]))
        | (refine text_off hT9.out (by rfl) ?_; (try simp only [Act.put, List.setIfInBounds_toArray, List.set_cons_zero, List.set_cons_succ]))
        | (refine text_call (v := ?_) (f := ?_) (args := ?_) hT9.out (by rfl) ?_ ?_ ?_; rotate_left 3; (focus (intro w5 hS; have q1 := hS.2.2.2.1; have q2 := hS.2.2.2.2.1; have q3 := hS.2.2.2.2.2.1; have q4 := hS.2.2.2.2.2.2; go_simp; constructor <;> with_reducible rfl)); (focus (intro w5 hS; (first | skip))); (try simp only [Act.put, List.setIfInBounds_toArray, List.set_cons_zero, List.set_cons_succ])))
      refine InText.nil fun w5 hS5 => ?_
      clear hT9
      obtain ⟨hF5, hR15, hR25, -⟩ := hS5
      go_wp2_with fail
      go_roundg (n - (i + 1))
      case measure => omega
      case rel => exact ⟨i + 1, by simp, by omega, Nat.le_refl _, Lib.hid hF5, Lib.hid hR15, Lib.hid hR25⟩
    · have hlt' : ¬ ((i : Int) < (n : Int)) := by omega
      go_wp2_with fail
      go_ret
      exact ⟨rfl, hF.out⟩
end Go.Proofs.Ytdeohigggjfjjaa

/- The document's pairs, put in one behind the other. -/
namespace Go.Proofs.Ytdeohigggjfjjaa
open Go.RowKit Go.Maps
set_option maxRecDepth 100000

theorem snoc_ind {α : Type} {P : List α → Prop} (h0 : P []) (hs : ∀ l a, P l → P (l ++ [a])) (l : List α) : P l := by
  have h : ∀ m : List α, P m.reverse := by
    intro m
    induction m with
    | nil => exact h0
    | cons a m ih => rw [List.reverse_cons]; exact hs _ a ih
  have := h l.reverse
  rwa [List.reverse_reverse] at this
def foldP (l : List (Int × Int)) : List (Int × Int) := l.foldl (fun M p => putM M p.1 p.2) []
theorem foldP_snoc (l : List (Int × Int)) (p : Int × Int) : foldP (l ++ [p]) = putM (foldP l) p.1 p.2 := by simp [foldP]
theorem foldP_take {l : List (Int × Int)} {i : Nat} (hi : i < l.length) : foldP (l.take (i + 1)) = putM (foldP (l.take i)) (l.getD i (0, 0)).1 (l.getD i (0, 0)).2 := by
  have e : l.take (i + 1) = l.take i ++ [l.getD i (0, 0)] := by
    rw [List.take_add_one, List.getElem?_eq_getElem hi, List.getD_eq_getElem?_getD, List.getElem?_eq_getElem hi]
    rfl
  rw [e, foldP_snoc]
theorem foldP_len (l : List (Int × Int)) : ∀ n, l.length ≤ n → (foldP l).length ≤ n := by
  have h : ∀ (l M : List (Int × Int)), (l.foldl (fun M p => putM M p.1 p.2) M).length ≤ M.length + l.length := by
    intro l
    induction l with
    | nil => intro M; simp
    | cons p l ih =>
      intro M
      have := ih (putM M p.1 p.2)
      have h2 : (putM M p.1 p.2).length ≤ M.length + 1 := by unfold putM; simp; exact rem_len M p.1
      simp only [List.foldl_cons, List.length_cons]
      omega
  intro n hn
  have := h l []
  unfold foldP
  simp at this
  omega
theorem mem_put {M : List (Int × Int)} {k v : Int} {p : Int × Int} : p ∈ putM M k v ↔ (p ∈ M ∧ p.1 ≠ k) ∨ p = (k, v) := by
  unfold putM remM
  simp [List.mem_filter]
/-- Whose keys are there. -/
theorem foldP_keys (l : List (Int × Int)) (k : Int) : k ∈ (foldP l).map (·.1) ↔ k ∈ l.map (·.1) := by
  refine snoc_ind (P := fun l => k ∈ (foldP l).map (·.1) ↔ k ∈ l.map (·.1)) ?_ ?_ l
  · simp [foldP]
  · intro l p ih
    rw [foldP_snoc]
    simp only [List.map_append, List.mem_append, List.map_cons, List.map_nil, List.mem_singleton]
    rw [← ih]
    simp only [List.mem_map, mem_put]
    constructor
    · rintro ⟨q, (⟨hq, hk⟩ | hq), rfl⟩
      · exact .inl ⟨q, hq, rfl⟩
      · exact .inr (by rw [hq])
    · rintro (⟨q, hq, rfl⟩ | rfl)
      · by_cases e : q.1 = p.1
        · exact ⟨(p.1, p.2), .inr rfl, e.symm⟩
        · exact ⟨q, .inl ⟨hq, e⟩, rfl⟩
      · exact ⟨(p.1, p.2), .inr rfl, rfl⟩
theorem rem_no {M : List (Int × Int)} {k : Int} (h : k ∉ M.map (·.1)) : remM M k = M := by
  unfold remM
  rw [List.filter_eq_self]
  intro p hp
  simp only [decide_eq_true_eq]
  intro e
  exact h (List.mem_map.2 ⟨p, hp, e⟩)
theorem foldP_nodup {l : List (Int × Int)} (h : (l.map (·.1)).Nodup) : foldP l = l := by
  revert h
  refine snoc_ind (P := fun l => (l.map (·.1)).Nodup → foldP l = l) (fun _ => rfl) ?_ l
  · intro l p ih h
    rw [List.map_append, List.nodup_append] at h
    rw [foldP_snoc, ih h.1]
    unfold putM
    rw [rem_no]
    intro hk
    exact h.2.2 p.1 hk p.1 (by simp) rfl
theorem look_iff (M : List (Int × Int)) (k : Int) : (lookM M k).2 = decide (k ∈ M.map (·.1)) := by
  induction M with
  | nil => simp [lookM]
  | cons p M ih =>
    unfold lookM
    by_cases e : p.1 = k
    · simp [e]
    · rw [if_neg e, ih]
      simp [Ne.symm e]
/-- Whether a key stands twice. -/
def twiceK (l : List (Int × Int)) : Bool := !decide ((l.map (·.1)).Nodup)
theorem twice_take {l : List (Int × Int)} {i : Nat} (hi : i < l.length) : twiceK (l.take (i + 1)) = (twiceK (l.take i) || (lookM (foldP (l.take i)) (l.getD i (0, 0)).1).2) := by
  have e : l.take (i + 1) = l.take i ++ [l.getD i (0, 0)] := by
    rw [List.take_add_one, List.getElem?_eq_getElem hi, List.getD_eq_getElem?_getD, List.getElem?_eq_getElem hi]
    rfl
  rw [look_iff, e]
  have hk := foldP_keys (l.take i) (l.getD i (0, 0)).1
  generalize l.getD i (0, 0) = p at *
  generalize l.take i = m at *
  unfold twiceK
  rw [List.map_append]
  have h1 : (m.map (·.1) ++ [p].map (·.1)).Nodup ↔ (m.map (·.1)).Nodup ∧ p.1 ∉ m.map (·.1) := by
    rw [List.nodup_append]
    constructor
    · rintro ⟨a, -, c⟩
      exact ⟨a, fun hm => c p.1 hm p.1 (by simp) rfl⟩
    · rintro ⟨a, c⟩
      refine ⟨a, by simp, fun x hx y hy e => ?_⟩
      simp at hy
      subst hy
      exact c (e ▸ hx)
  by_cases h2 : (m.map (·.1)).Nodup
  · by_cases h3 : p.1 ∈ m.map (·.1)
    · have : ¬ (m.map (·.1) ++ [p].map (·.1)).Nodup := fun h => (h1.1 h).2 h3
      rw [decide_eq_false this, decide_eq_true h2, decide_eq_true (hk.2 h3)]; rfl
    · have : (m.map (·.1) ++ [p].map (·.1)).Nodup := h1.2 ⟨h2, h3⟩
      rw [decide_eq_true this, decide_eq_true h2, decide_eq_false (fun h => h3 (hk.1 h))]; rfl
  · have : ¬ (m.map (·.1) ++ [p].map (·.1)).Nodup := fun h => h2 (h1.1 h).1
    rw [decide_eq_false this, decide_eq_false h2]; rfl
theorem rem_del {S M : List (Int × Int)} (hS : Up S) (hp : M.Perm S) (k : Int) : (remM M k).Perm (delK S k) := by
  have h1 : (remM M k).Perm (remM S k) := hp.filter _
  have h2 : remM S k = delK S k := by
    refine up_ext (hS.sublist List.filter_sublist) (del_up hS k) fun p => ?_
    rw [mem_del hS]
    unfold remM
    simp [List.mem_filter]
  rw [h2] at h1
  exact h1
theorem put_ins {S M : List (Int × Int)} (hS : Up S) (hp : M.Perm S) (k v : Int) : (putM M k v).Perm (insK S k v) := by
  have h0 := rem_del hS hp k
  have h1 : (putM M k v).Perm ((k, v) :: remM M k) := by unfold putM; exact List.perm_append_singleton _ _
  refine h1.trans ((List.Perm.cons _ h0).trans ?_)
  rcases form hS k with ⟨a, x, b, e, -, -, -, -, h3, h4⟩ | ⟨a, b, e, -, -, -, -, h3, h4⟩
  · rw [h3, h4]; exact List.perm_middle.symm
  · rw [h3, h4, e]; exact List.perm_middle.symm
theorem ins_length {S : List (Int × Int)} (hS : Up S) (k v : Int) : (insK S k v).length = S.length + (if hasK S k then 0 else 1) := by
  rcases form hS k with ⟨a, x, b, e, -, -, h5, -, h3, -⟩ | ⟨a, b, e, -, -, h5, -, h3, -⟩
  · rw [h3, h5, e]; simp
  · rw [h3, h5, e]; simp; omega
theorem with_len {S : List (Int × Int)} (hS : Up S) (hn : S.length ≤ 16) (k v : Int) : (16 < (insK S k v).length ∧ withK S k v = ([], 6)) ∨ ((insK S k v).length ≤ 16 ∧ withK S k v = (insK S k v, 0)) := by
  rw [ins_length hS]
  unfold withK
  cases hh : hasK S k with
  | true => right; simp [hn]
  | false =>
    by_cases h : S.length < 16
    · right; simp [h]; omega
    · left; simp [h]; omega
end Go.Proofs.Ytdeohigggjfjjaa

/- Whether an op may be refused so. -/
namespace Go.Proofs.Ytdeohigggjfjjaa
open Go.RowKit
set_option maxRecDepth 100000

/-- An op of that kind may be refused so. -/
def refK (kd e : Int) (d : Bool) (v : Int) : Bool :=
  if kd = 1 ∨ kd = 4 ∨ kd = 5 then decide (e = 6 ∧ d = false ∧ v = 0) || decide (e = 7 ∧ d = false ∧ v = 0)
  else if kd = 8 then decide (e = 7 ∧ d = false ∧ v = 0) else false

set_option maxHeartbeats 1600000 in
theorem ref_s (kd e : Int) (d : Bool) (v : Int) (w : World) : Calls Try.prog 30 #[.int .i64 kd, .agg #[.int .i64 e, .bool d, .int .u64 v]] w fun o w' => o = .returned (.bool (refK kd e d v)) ∧ Below w.heap.size w w' := by
  have hF := (Fr.start w).push w.heap.size rfl [.int .i64 e, .bool d, .int .u64 v] 35
  have r := hF.rule 0 rfl
  have hW := Lib.hid (show refK kd e d v = (if kd = 1 ∨ kd = 4 ∨ kd = 5 then decide (e = 6 ∧ d = false ∧ v = 0) || decide (e = 7 ∧ d = false ∧ v = 0)
  else if kd = 8 then decide (e = 7 ∧ d = false ∧ v = 0) else false) from rfl)
  generalize refK kd e d v = z at *
  go_enter Try.func30, Try.ntmps30
  go_wp2_with fail
  all_goals
    go_ret
    refine ⟨ret_bool ?_, (Below.refl _ _).alloc (Nat.le_refl _) _⟩
    rw [hW.out]
    (try go_light)
    (try simp only [bne_iff_ne, ne_eq, bne_eq_false_iff_eq, beq_iff_eq, beq_eq_false_iff_ne, Bool.or_eq_true, Bool.and_eq_true, decide_eq_true_eq, decide_eq_false_iff_not, Bool.or_eq_false_iff, Bool.not_eq_true', Bool.not_eq_false'] at *)
    try simp_all
end Go.Proofs.Ytdeohigggjfjjaa

/- Whether an op may be answered so; the state then. -/
namespace Go.Proofs.Ytdeohigggjfjjaa
open Go.RowKit
set_option maxRecDepth 100000

def mayK (l : List (Int × Int)) (kd k v e : Int) (d : Bool) (x : Int) : List (Int × Int) × Bool :=
  if refK kd e d x then (l, true)
  else if (doK l kd k v).e = 0 ∧ e = 0 ∧ d = (doK l kd k v).d ∧ (kd = 8 ∨ x = (doK l kd k v).v) then ((doK l kd k v).l, true) else ([], false)
theorem doK_le (l : List (Int × Int)) (kd k v : Int) (hn : l.length ≤ 16) : (doK l kd k v).l.length ≤ 16 := by
  have h1 := bringK_le l k 0 true 0 hn
  have h2 := bringK_le l k v (hasK l k) (getK l k) hn
  have h3 := bringK_le l k v true 0 hn
  have h4 := delK_le l k hn
  unfold doK
  repeat' split
  all_goals first | assumption | simp
set_option maxHeartbeats 4000000 in
theorem may_s (l : List (Int × Int)) (hl : l.Pairwise fun a b => a.1 < b.1) (hn : l.length ≤ 16) (kd k v lv e : Int) (d : Bool) (x : Int) (w : World) : Calls Try.prog 16 #[.agg (encS l).toArray, .agg #[.int .i64 kd, .int .u64 k, .int .u64 v, .int .i64 lv], .agg #[.int .i64 e, .bool d, .int .u64 x]] w fun o w' => o = .returned (.tuple #[.agg (encS (mayK l kd k v e d x).1).toArray, .bool (mayK l kd k v e d x).2]) ∧ Below w.heap.size w w' := by
  have hF := (Fr.start w).push w.heap.size rfl (encS l) 29
  replace hF := hF.push (w.heap.size + 1) (by simp) [.int .i64 kd, .int .u64 k, .int .u64 v, .int .i64 lv] 39
  replace hF := hF.push (w.heap.size + 2) (by simp) [.int .i64 e, .bool d, .int .u64 x] 35
  replace hF := hF.push (w.heap.size + 3) (by simp) (encS []) 29
  have C1 := Lib.hid (ref_s kd e d x)
  have C2 := Lib.hid (do_s l hl hn kd k v lv)
  have hD := doK_le l kd k v hn
  generalize hWW : mayK l kd k v e d x = W
  have HW : Hid (mayK l kd k v e d x = W) := Lib.hid hWW
  clear hWW
  go_enter Try.func16, Try.ntmps16
  go_upto_region 1 with fail
  have r1 := hF.rule 1 rfl
  have r2 := hF.rule 2 rfl
  go_wp2_with fail
  refine (C1.out _).mono ?_
  rintro o w1 ⟨rfl, hb⟩
  replace hF := hF.over hb
  clear hb r1 r2
  cases hr : refK kd e d x with
  | true =>
    have e9 : mayK l kd k v e d x = (l, true) := by unfold mayK; rw [hr]; rfl
    rw [HW.out] at e9
    subst e9
    go_upto_region 2 with fail
    apply wp_region_lit
    refine wpList_load_mid rfl 29 _ rfl w.heap.size 0 rfl (encS l) _ (hF.range 3 rfl) und29 rfl (size33 hn) ?_
    refine wpList_store_mid rfl 29 _ _ rfl (w.heap.size + 3) 0 (encS l).toArray rfl rfl (hF.there 0 rfl (by omega) (by rw [encS_length (by simp), List.size_toArray, encS_length hn])) (size33a hn) (one33 _) ?_
    have hG := hF.whole (us := encS l) (by omega) (by simp) (by rw [encS_length (by simp), encS_length hn])
    generalize World.setCells w1 _ _ _ = w3 at *
    go_wp2_with fail
    exact bodyPost_ret (res_ct rfl _ _ (w.heap.size + 3) rfl _ _ (hG.range 0 rfl) und29 rfl (size33 hn)) rfl ⟨rfl, hG.below⟩
  | false =>
    have r1 := hF.rule 2 rfl
    go_upto_region 3 with fail
    apply wp_region_lit
    refine wpList_load_mid rfl 29 _ rfl w.heap.size 0 rfl (encS l) _ (hF.range 3 rfl) und29 rfl (size33 hn) ?_
    go_wp2_with fail
    refine (C2.out _).mono ?_
    rintro o w2 ⟨rfl, hb⟩
    replace hF := hF.over hb
    clear hb r1
    generalize hdo : doK l kd k v = O at *
    obtain ⟨L, D, V, E⟩ := O
    have HO := Lib.hid hdo
    clear hdo
    rename_i aK
    refine aK _ _ ?_
    clear aK
    simp only at hD
    refine Go.Great.wpList_readTo rfl (some 16) rfl _ rfl ?_
    refine Go.Great.wpList_readTo rfl (some 20) rfl (.agg (encS L).toArray) (by go_simp) ?_
    refine Go.Great.wpList_readTo rfl (some 21) rfl (.agg (encA 0 D V).toArray) (by go_simp) ?_
    refine Go.Great.wpList_readTo rfl (some 22) rfl (.int .i64 E) (by go_simp) ?_
    have hw2 : w.heap.size + 4 ≤ w2.heap.size := by have := hF.lt 0 rfl; omega
    refine Go.Great.wpList_allocTo rfl (some 8) rfl (.pointer (some ⟨w2.heap.size, 0, none⟩)) (.cells (encS []).toArray 29) (by kernel_rfl) ?_
    replace hF := hF.push w2.heap.size rfl (encS []) 29
    have hZ : (w2.alloc (.cells (encS []).toArray 29)).heap.size = w2.heap.size + 1 := by simp
    generalize World.alloc w2 _ = w4 at *
    generalize w2.heap.size = Z at *
    refine Go.Great.wpList_allocTo rfl (some 9) rfl (.pointer (some ⟨Z + 1, 0, none⟩)) (.cells (encA 0 false 0).toArray 35) (by rw [← hZ]; kernel_rfl) ?_
    replace hF := hF.push (Z + 1) hZ (encA 0 false 0) 35
    generalize World.alloc w4 _ = w5 at *
    have hG := hF.sub (bl' := [(Z, encS []), (Z + 1, encA 0 false 0), (w.heap.size + 3, encS []), (w.heap.size + 2, [.int .i64 e, .bool d, .int .u64 x]), (w.heap.size + 1, [.int .i64 kd, .int .u64 k, .int .u64 v, .int .i64 lv])]) (by simp)
    refine wpList_store_mid rfl 29 _ _ rfl Z 0 (encS L).toArray rfl rfl (hG.there 0 rfl (by omega) (by rw [encS_length (by simp), List.size_toArray, encS_length hD])) (size33a hD) (one33 _) ?_
    replace hG := hG.whole (us := encS L) (by omega) (by simp; omega) (by rw [encS_length (by simp), encS_length hD])
    generalize World.setCells _ _ _ _ = w6 at *
    replace hG := hG.sub (bl' := [(Z + 1, encA 0 false 0), (Z, encS L), (w.heap.size + 3, encS []), (w.heap.size + 2, [.int .i64 e, .bool d, .int .u64 x]), (w.heap.size + 1, [.int .i64 kd, .int .u64 k, .int .u64 v, .int .i64 lv])]) (by simp)
    refine wpList_store_mid rfl 35 _ _ rfl (Z + 1) 0 (encA 0 D V).toArray rfl rfl (hG.there 0 rfl (by omega) rfl) size35 (all_oneCell_toArray (encA_one _ _ _)) ?_
    replace hG := hG.whole (us := encA 0 D V) (by omega) (by simp; omega) rfl
    generalize World.setCells _ _ _ _ = w7 at *
    clear hF hZ
    unfold encA at hG
    have r0 := hG.rule 0 rfl
    have r3 := hG.rule 3 rfl
    have r4 := hG.rule 4 rfl
    have f0 := hG.thaw 0 rfl (by omega)
    by_cases h8 : kd = 8
    · subst h8
      go_upto_region 6 with fail
      replace hG := hG.put (by omega) (by simp; omega) 2 (by simp) (.int .u64 x)
      generalize World.setCell _ _ _ = w8 at *
      simp only [List.set_cons_succ, List.set_cons_zero] at hG
      clear r0 r3 r4 f0
      have r0 := hG.rule 0 rfl
      have r3 := hG.rule 3 rfl
      by_cases hE : E = 0
      · subst hE
        by_cases he : e = 0
        · subst he
          by_cases hd : d = D
          · subst hd
            have e9 : mayK l 8 k v 0 d x = (L, true) := by unfold mayK; rw [hr, HO.out]; simp
            rw [HW.out] at e9
            subst e9
            go_upto_region 8 with fail
            have hK := hG.sub (bl' := [(w.heap.size + 3, encS []), (Z, encS L)]) (by simp)
            clear hG
            apply wp_region_lit
            refine wpList_load_mid rfl 29 _ rfl Z 0 rfl (encS L) _ (hK.range 1 rfl) und29 rfl (size33 hD) ?_
            refine wpList_store_mid rfl 29 _ _ rfl (w.heap.size + 3) 0 (encS L).toArray rfl rfl (hK.there 0 rfl (by omega) (by rw [encS_length (by simp), List.size_toArray, encS_length hD])) (size33a hD) (one33 _) ?_
            replace hK := hK.whole (us := encS L) (by omega) (by simp; omega) (by rw [encS_length (by simp), encS_length hD])
            generalize World.setCells _ _ _ _ = w9 at *
            go_wp2_with fail
            exact bodyPost_ret (res_ct rfl _ _ (w.heap.size + 3) rfl _ _ (hK.range 0 rfl) und29 rfl (size33 hD)) rfl ⟨rfl, hK.below⟩
          · have hd' : (d == D) = false := by simpa using hd
            have e9 : mayK l 8 k v 0 d x = ([], false) := by unfold mayK; rw [hr, HO.out]; simp [hd]
            rw [HW.out] at e9
            subst e9
            go_upto_region 7 with fail
            have hK := hG.sub (bl' := [(w.heap.size + 3, encS [])]) (by simp)
            clear hG
            apply wp_region_lit
            refine wpList_buildTo rfl 29 _ rfl (some 36) rfl (encS []).toArray (by kernel_rfl) ?_
            refine wpList_store_mid rfl 29 _ _ rfl (w.heap.size + 3) 0 (encS []).toArray rfl rfl (hK.there 0 rfl (by omega) (by rw [List.size_toArray])) (size33a (by simp)) (one33 _) ?_
            replace hK := hK.whole (us := encS []) (by omega) (by simp) rfl
            generalize World.setCells _ _ _ _ = w9 at *
            go_wp2_with fail
            exact bodyPost_ret (res_ct rfl _ _ (w.heap.size + 3) rfl _ _ (hK.range 0 rfl) und29 rfl (size33 (by simp))) rfl ⟨rfl, hK.below⟩
        · have he' : (e == 0) = false := by simpa using he
          have e9 : mayK l 8 k v e d x = ([], false) := by unfold mayK; rw [hr, HO.out]; simp [he]
          rw [HW.out] at e9
          subst e9
          go_upto_region 7 with fail
          have hK := hG.sub (bl' := [(w.heap.size + 3, encS [])]) (by simp)
          clear hG
          apply wp_region_lit
          refine wpList_buildTo rfl 29 _ rfl (some 36) rfl (encS []).toArray (by kernel_rfl) ?_
          refine wpList_store_mid rfl 29 _ _ rfl (w.heap.size + 3) 0 (encS []).toArray rfl rfl (hK.there 0 rfl (by omega) (by rw [List.size_toArray])) (size33a (by simp)) (one33 _) ?_
          replace hK := hK.whole (us := encS []) (by omega) (by simp) rfl
          generalize World.setCells _ _ _ _ = w9 at *
          go_wp2_with fail
          exact bodyPost_ret (res_ct rfl _ _ (w.heap.size + 3) rfl _ _ (hK.range 0 rfl) und29 rfl (size33 (by simp))) rfl ⟨rfl, hK.below⟩
      · have hE' : (E == 0) = false := by simpa using hE
        have e9 : mayK l 8 k v e d x = ([], false) := by unfold mayK; rw [hr, HO.out]; simp [hE]
        rw [HW.out] at e9
        subst e9
        go_upto_region 7 with fail
        have hK := hG.sub (bl' := [(w.heap.size + 3, encS [])]) (by simp)
        clear hG
        apply wp_region_lit
        refine wpList_buildTo rfl 29 _ rfl (some 36) rfl (encS []).toArray (by kernel_rfl) ?_
        refine wpList_store_mid rfl 29 _ _ rfl (w.heap.size + 3) 0 (encS []).toArray rfl rfl (hK.there 0 rfl (by omega) (by rw [List.size_toArray])) (size33a (by simp)) (one33 _) ?_
        replace hK := hK.whole (us := encS []) (by omega) (by simp) rfl
        generalize World.setCells _ _ _ _ = w9 at *
        go_wp2_with fail
        exact bodyPost_ret (res_ct rfl _ _ (w.heap.size + 3) rfl _ _ (hK.range 0 rfl) und29 rfl (size33 (by simp))) rfl ⟨rfl, hK.below⟩
    · have h8' : (kd == 8) = false := by simpa using h8
      by_cases hE : E = 0
      · subst hE
        by_cases he : e = 0
        · subst he
          by_cases hd : d = D
          · subst hd
            by_cases hx : x = V
            · subst hx
              have e9 : mayK l kd k v 0 d x = (L, true) := by unfold mayK; rw [hr, HO.out]; simp
              rw [HW.out] at e9
              subst e9
              go_upto_region 8 with fail
              have hK := hG.sub (bl' := [(w.heap.size + 3, encS []), (Z, encS L)]) (by simp)
              clear hG
              apply wp_region_lit
              refine wpList_load_mid rfl 29 _ rfl Z 0 rfl (encS L) _ (hK.range 1 rfl) und29 rfl (size33 hD) ?_
              refine wpList_store_mid rfl 29 _ _ rfl (w.heap.size + 3) 0 (encS L).toArray rfl rfl (hK.there 0 rfl (by omega) (by rw [encS_length (by simp), List.size_toArray, encS_length hD])) (size33a hD) (one33 _) ?_
              replace hK := hK.whole (us := encS L) (by omega) (by simp; omega) (by rw [encS_length (by simp), encS_length hD])
              generalize World.setCells _ _ _ _ = w9 at *
              go_wp2_with fail
              exact bodyPost_ret (res_ct rfl _ _ (w.heap.size + 3) rfl _ _ (hK.range 0 rfl) und29 rfl (size33 hD)) rfl ⟨rfl, hK.below⟩
            · have hx' : (x == V) = false := by simpa using hx
              have e9 : mayK l kd k v 0 d x = ([], false) := by unfold mayK; rw [hr, HO.out]; simp [hx, h8]
              rw [HW.out] at e9
              subst e9
              go_upto_region 7 with fail
              have hK := hG.sub (bl' := [(w.heap.size + 3, encS [])]) (by simp)
              clear hG
              apply wp_region_lit
              refine wpList_buildTo rfl 29 _ rfl (some 36) rfl (encS []).toArray (by kernel_rfl) ?_
              refine wpList_store_mid rfl 29 _ _ rfl (w.heap.size + 3) 0 (encS []).toArray rfl rfl (hK.there 0 rfl (by omega) (by rw [List.size_toArray])) (size33a (by simp)) (one33 _) ?_
              replace hK := hK.whole (us := encS []) (by omega) (by simp) rfl
              generalize World.setCells _ _ _ _ = w9 at *
              go_wp2_with fail
              exact bodyPost_ret (res_ct rfl _ _ (w.heap.size + 3) rfl _ _ (hK.range 0 rfl) und29 rfl (size33 (by simp))) rfl ⟨rfl, hK.below⟩
          · have hd' : (d == D) = false := by simpa using hd
            have e9 : mayK l kd k v 0 d x = ([], false) := by unfold mayK; rw [hr, HO.out]; simp [hd]
            rw [HW.out] at e9
            subst e9
            go_upto_region 7 with fail
            have hK := hG.sub (bl' := [(w.heap.size + 3, encS [])]) (by simp)
            clear hG
            apply wp_region_lit
            refine wpList_buildTo rfl 29 _ rfl (some 36) rfl (encS []).toArray (by kernel_rfl) ?_
            refine wpList_store_mid rfl 29 _ _ rfl (w.heap.size + 3) 0 (encS []).toArray rfl rfl (hK.there 0 rfl (by omega) (by rw [List.size_toArray])) (size33a (by simp)) (one33 _) ?_
            replace hK := hK.whole (us := encS []) (by omega) (by simp) rfl
            generalize World.setCells _ _ _ _ = w9 at *
            go_wp2_with fail
            exact bodyPost_ret (res_ct rfl _ _ (w.heap.size + 3) rfl _ _ (hK.range 0 rfl) und29 rfl (size33 (by simp))) rfl ⟨rfl, hK.below⟩
        · have he' : (e == 0) = false := by simpa using he
          have e9 : mayK l kd k v e d x = ([], false) := by unfold mayK; rw [hr, HO.out]; simp [he]
          rw [HW.out] at e9
          subst e9
          go_upto_region 7 with fail
          have hK := hG.sub (bl' := [(w.heap.size + 3, encS [])]) (by simp)
          clear hG
          apply wp_region_lit
          refine wpList_buildTo rfl 29 _ rfl (some 36) rfl (encS []).toArray (by kernel_rfl) ?_
          refine wpList_store_mid rfl 29 _ _ rfl (w.heap.size + 3) 0 (encS []).toArray rfl rfl (hK.there 0 rfl (by omega) (by rw [List.size_toArray])) (size33a (by simp)) (one33 _) ?_
          replace hK := hK.whole (us := encS []) (by omega) (by simp) rfl
          generalize World.setCells _ _ _ _ = w9 at *
          go_wp2_with fail
          exact bodyPost_ret (res_ct rfl _ _ (w.heap.size + 3) rfl _ _ (hK.range 0 rfl) und29 rfl (size33 (by simp))) rfl ⟨rfl, hK.below⟩
      · have hE' : (E == 0) = false := by simpa using hE
        have e9 : mayK l kd k v e d x = ([], false) := by unfold mayK; rw [hr, HO.out]; simp [hE]
        rw [HW.out] at e9
        subst e9
        go_upto_region 7 with fail
        have hK := hG.sub (bl' := [(w.heap.size + 3, encS [])]) (by simp)
        clear hG
        apply wp_region_lit
        refine wpList_buildTo rfl 29 _ rfl (some 36) rfl (encS []).toArray (by kernel_rfl) ?_
        refine wpList_store_mid rfl 29 _ _ rfl (w.heap.size + 3) 0 (encS []).toArray rfl rfl (hK.there 0 rfl (by omega) (by rw [List.size_toArray])) (size33a (by simp)) (one33 _) ?_
        replace hK := hK.whole (us := encS []) (by omega) (by simp) rfl
        generalize World.setCells _ _ _ _ = w9 at *
        go_wp2_with fail
        exact bodyPost_ret (res_ct rfl _ _ (w.heap.size + 3) rfl _ _ (hK.range 0 rfl) und29 rfl (size33 (by simp))) rfl ⟨rfl, hK.below⟩
end Go.Proofs.Ytdeohigggjfjjaa

/- Layer 21: the program is awake. -/
namespace Go.Proofs.Ytdeohigggjfjjaa
open Go.RowKit
set_option maxRecDepth 100000

theorem k15 : SOk [((1 : Int), (5 : Int))] := ⟨by simp, by simp, by intro p hp; simp at hp; subst hp; unfold InU; omega⟩
theorem up15 : [((1 : Int), (5 : Int))].Pairwise fun a b => a.1 < b.1 := by simp
set_option maxHeartbeats 4000000 in
theorem awake21 (w : World) : Calls Try.prog 8 #[] w fun e w' => e = .returned (.bool true) ∧ Below w.heap.size w w' := by
  have C1 : Hid (∀ w', Calls Try.prog 9 #[.agg (encS []).toArray, .agg #[.int .i64 4, .int .u64 1, .int .u64 5, .int .i64 0]] w' fun e w'' => e = .returned (.tuple #[.agg (encS [(1, 5)]).toArray, .agg (encA 0 false 0).toArray, .int .i64 0]) ∧ Below w'.heap.size w' w'') := Lib.hid fun w' => do_s [] .nil (by simp) 4 1 5 0 w'
  have C2 : Hid (∀ w', Calls Try.prog 9 #[.agg (encS [(1, 5)]).toArray, .agg #[.int .i64 5, .int .u64 1, .int .u64 6, .int .i64 0]] w' fun e w'' => e = .returned (.tuple #[.agg (encS [(1, 5)]).toArray, .agg (encA 0 false 5).toArray, .int .i64 0]) ∧ Below w'.heap.size w' w'') := Lib.hid fun w' => do_s [(1, 5)] up15 (by simp) 5 1 6 0 w'
  have C3 : Hid (∀ w', Calls Try.prog 11 #[.agg (encS [(1, 5)]).toArray, .int .u64 1] w' fun e w'' => e = .returned (.tuple #[.int .u64 5, .bool true]) ∧ Below w'.heap.size w' w'') := Lib.hid fun w' => get_s [(1, 5)] up15 (by simp) 1 w'
  have C4 : Hid (∀ w', Calls Try.prog 16 #[.agg (encS [(1, 5)]).toArray, .agg #[.int .i64 1, .int .u64 2, .int .u64 0, .int .i64 0], .agg #[.int .i64 6, .bool false, .int .u64 0]] w' fun e w'' => e = .returned (.tuple #[.agg (encS [(1, 5)]).toArray, .bool true]) ∧ Below w'.heap.size w' w'') := Lib.hid fun w' => may_s [(1, 5)] up15 (by simp) 1 2 0 0 6 false 0 w'
  have C5 : Hid (∀ w', Calls Try.prog 16 #[.agg (encS [(1, 5)]).toArray, .agg #[.int .i64 7, .int .u64 1, .int .u64 0, .int .i64 0], .agg #[.int .i64 0, .bool false, .int .u64 0]] w' fun e w'' => e = .returned (.tuple #[.agg (encS []).toArray, .bool false]) ∧ Below w'.heap.size w' w'') := Lib.hid fun w' => may_s [(1, 5)] up15 (by simp) 7 1 0 0 0 false 0 w'
  have hF := Fr.start w
  go_enter Try.func8, Try.ntmps8
  go_upto_region 1 with fail
  apply wp_region_lit
  refine wpList_buildTo rfl 29 _ rfl (some 13) rfl (encS []).toArray (by kernel_rfl) ?_
  refine Go.Great.wpList_allocTo rfl (some 1) rfl (.pointer (some ⟨w.heap.size, 0, none⟩)) (.cells (encS []).toArray 29) (by kernel_rfl) ?_
  replace hF := hF.push w.heap.size rfl (encS []) 29
  generalize World.alloc w _ = w1 at *
  refine wpList_store_mid rfl 29 _ _ rfl w.heap.size 0 (encS []).toArray rfl rfl (hF.there 0 rfl (by omega) (by rw [List.size_toArray])) (size33a (by simp)) (one33 _) ?_
  replace hF := hF.whole (us := encS []) (by omega) (by simp <;> omega) rfl
  generalize World.setCells w1 _ _ _ = w2 at *
  go_upto_region 2 with fail
  apply wp_region_lit
  refine wpList_load_mid rfl 29 _ rfl w.heap.size 0 rfl (encS []) _ (hF.range 0 rfl) und29 rfl (size33 (by simp)) ?_
  go_wp2_with fail
  refine (C1.out _).mono ?_
  rintro o w3 ⟨rfl, hb⟩
  replace hF := hF.over hb
  clear hb
  rename_i aK
  refine aK _ _ ?_
  clear aK
  refine Go.Great.wpList_readTo rfl (some 14) rfl _ rfl ?_
  refine Go.Great.wpList_readTo rfl (some 18) rfl (.agg (encS [(1, 5)]).toArray) (by go_simp) ?_
  refine Go.Great.wpList_readTo rfl (some 19) rfl (.agg (encA 0 false 0).toArray) (by go_simp) ?_
  refine Go.Great.wpList_readTo rfl (some 20) rfl (.int .i64 0) (by go_simp) ?_
  refine Go.Great.wpList_allocTo rfl (some 2) rfl (.pointer (some ⟨w3.heap.size, 0, none⟩)) (.cells (encA 0 false 0).toArray 35) (by kernel_rfl) ?_
  have hz5 := hF.lt 0 rfl
  have hz6 : w.heap.size ≤ w3.heap.size := hF.below.size
  replace hF := hF.push w3.heap.size rfl (encA 0 false 0) 35
  generalize World.alloc w3 _ = w4 at *
  generalize w3.heap.size = Z2 at *
  replace hF := hF.sub (bl' := [(w.heap.size, encS []), (Z2, encA 0 false 0)]) (by simp)
  refine wpList_store_mid rfl 29 _ _ rfl w.heap.size 0 (encS [(1, 5)]).toArray rfl rfl (hF.there 0 rfl (by omega) (by rw [encS_length (by simp), List.size_toArray, encS_length (by simp)])) (size33a (by simp)) (one33 _) ?_
  replace hF := hF.whole (us := encS [(1, 5)]) (by omega) (by simp <;> omega) (by rw [encS_length (by simp), encS_length (by simp)])
  generalize World.setCells w4 _ _ _ = w7 at *
  replace hF := hF.sub (bl' := [(Z2, encA 0 false 0), (w.heap.size, encS [(1, 5)])]) (by simp)
  refine wpList_store_mid rfl 35 _ _ rfl Z2 0 (encA 0 false 0).toArray rfl rfl (hF.there 0 rfl (by omega) rfl) size35 (all_oneCell_toArray (encA_one _ _ _)) ?_
  replace hF := hF.whole (us := encA 0 false 0) (by omega) (by simp <;> omega) rfl
  generalize World.setCells w7 _ _ _ = w8 at *
  go_upto_region 3 with fail
  apply wp_region_lit
  refine wpList_load_mid rfl 29 _ rfl w.heap.size 0 rfl (encS [(1, 5)]) _ (hF.range 1 rfl) und29 rfl (size33 (by simp)) ?_
  go_wp2_with fail
  refine (C2.out _).mono ?_
  rintro o w9 ⟨rfl, hb⟩
  replace hF := hF.over hb
  clear hb
  rename_i aK
  refine aK _ _ ?_
  clear aK
  refine Go.Great.wpList_readTo rfl (some 21) rfl _ rfl ?_
  refine Go.Great.wpList_readTo rfl (some 25) rfl (.agg (encS [(1, 5)]).toArray) (by go_simp) ?_
  refine Go.Great.wpList_readTo rfl (some 26) rfl (.agg (encA 0 false 5).toArray) (by go_simp) ?_
  refine Go.Great.wpList_readTo rfl (some 27) rfl (.int .i64 0) (by go_simp) ?_
  refine Go.Great.wpList_allocTo rfl (some 4) rfl (.pointer (some ⟨w9.heap.size, 0, none⟩)) (.cells (encS []).toArray 29) (by kernel_rfl) ?_
  have hz12 := hF.lt 0 rfl
  have hz13 := hF.lt 1 rfl
  have hz14 : w.heap.size ≤ w9.heap.size := hF.below.size
  have hq15 : (w9.alloc (.cells (encS []).toArray 29)).heap.size = w9.heap.size + 1 := by simp
  replace hF := hF.push w9.heap.size rfl (encS []) 29
  generalize World.alloc w9 _ = w10 at *
  generalize w9.heap.size = Z4 at *
  refine Go.Great.wpList_allocTo rfl (some 5) rfl (.pointer (some ⟨Z4 + 1, 0, none⟩)) (.cells (encA 0 false 0).toArray 35) (by rw [← hq15]; kernel_rfl) ?_
  replace hF := hF.push (Z4 + 1) hq15 (encA 0 false 0) 35
  generalize World.alloc w10 _ = w11 at *
  clear hq15
  replace hF := hF.sub (bl' := [(Z4, encS []), ((Z4 + 1), encA 0 false 0), (Z2, encA 0 false 0), (w.heap.size, encS [(1, 5)])]) (by simp)
  refine wpList_store_mid rfl 29 _ _ rfl Z4 0 (encS [(1, 5)]).toArray rfl rfl (hF.there 0 rfl (by omega) (by rw [encS_length (by simp), List.size_toArray, encS_length (by simp)])) (size33a (by simp)) (one33 _) ?_
  replace hF := hF.whole (us := encS [(1, 5)]) (by omega) (by simp <;> omega) (by rw [encS_length (by simp), encS_length (by simp)])
  generalize World.setCells w11 _ _ _ = w16 at *
  replace hF := hF.sub (bl' := [((Z4 + 1), encA 0 false 0), (Z4, encS [(1, 5)]), (Z2, encA 0 false 0), (w.heap.size, encS [(1, 5)])]) (by simp)
  refine wpList_store_mid rfl 35 _ _ rfl (Z4 + 1) 0 (encA 0 false 5).toArray rfl rfl (hF.there 0 rfl (by omega) rfl) size35 (all_oneCell_toArray (encA_one _ _ _)) ?_
  replace hF := hF.whole (us := encA 0 false 5) (by omega) (by simp <;> omega) rfl
  generalize World.setCells w16 _ _ _ = w17 at *
  go_upto_region 4 with fail
  apply wp_region_lit
  refine wpList_load_mid rfl 29 _ rfl Z4 0 rfl (encS [(1, 5)]) _ (hF.range 1 rfl) und29 rfl (size33 (by simp)) ?_
  go_wp2_with fail
  refine (C3.out _).mono ?_
  rintro o w18 ⟨rfl, hb⟩
  replace hF := hF.over hb
  clear hb
  rename_i aK
  refine aK _ _ ?_
  clear aK
  go_upto_region 5 with fail
  apply wp_region_lit
  refine wpList_load_mid rfl 29 _ rfl Z4 0 rfl (encS [(1, 5)]) _ (hF.range 1 rfl) und29 rfl (size33 (by simp)) ?_
  go_wp2_with fail
  refine (C4.out _).mono ?_
  rintro o w19 ⟨rfl, hb⟩
  replace hF := hF.over hb
  clear hb
  rename_i aK
  refine aK _ _ ?_
  clear aK
  refine Go.Great.wpList_readTo rfl (some 33) rfl _ rfl ?_
  refine Go.Great.wpList_readTo rfl (some 38) rfl (.agg (encS [(1, 5)]).toArray) (by go_simp) ?_
  refine Go.Great.wpList_readTo rfl (some 39) rfl (.bool true) (by go_simp) ?_
  refine Go.Great.wpList_allocTo rfl (some 9) rfl (.pointer (some ⟨w19.heap.size, 0, none⟩)) (.cells (encS []).toArray 29) (by kernel_rfl) ?_
  have hz21 := hF.lt 0 rfl
  have hz22 := hF.lt 1 rfl
  have hz23 := hF.lt 2 rfl
  have hz24 := hF.lt 3 rfl
  have hz25 : w.heap.size ≤ w19.heap.size := hF.below.size
  replace hF := hF.push w19.heap.size rfl (encS []) 29
  generalize World.alloc w19 _ = w20 at *
  generalize w19.heap.size = Z9 at *
  refine wpList_store_mid rfl 29 _ _ rfl Z9 0 (encS [(1, 5)]).toArray rfl rfl (hF.there 0 rfl (by omega) (by rw [encS_length (by simp), List.size_toArray, encS_length (by simp)])) (size33a (by simp)) (one33 _) ?_
  replace hF := hF.whole (us := encS [(1, 5)]) (by omega) (by simp <;> omega) (by rw [encS_length (by simp), encS_length (by simp)])
  generalize World.setCells w20 _ _ _ = w26 at *
  go_upto_region 6 with fail
  apply wp_region_lit
  refine wpList_load_mid rfl 29 _ rfl Z4 0 rfl (encS [(1, 5)]) _ (hF.range 2 rfl) und29 rfl (size33 (by simp)) ?_
  go_wp2_with fail
  refine (C5.out _).mono ?_
  rintro o w27 ⟨rfl, hb⟩
  replace hF := hF.over hb
  clear hb
  rename_i aK
  refine aK _ _ ?_
  clear aK
  refine Go.Great.wpList_readTo rfl (some 40) rfl _ rfl ?_
  refine Go.Great.wpList_readTo rfl (some 45) rfl (.agg (encS []).toArray) (by go_simp) ?_
  refine Go.Great.wpList_readTo rfl (some 46) rfl (.bool false) (by go_simp) ?_
  refine Go.Great.wpList_allocTo rfl (some 11) rfl (.pointer (some ⟨w27.heap.size, 0, none⟩)) (.cells (encS []).toArray 29) (by kernel_rfl) ?_
  have hz29 := hF.lt 0 rfl
  have hz30 := hF.lt 1 rfl
  have hz31 := hF.lt 2 rfl
  have hz32 := hF.lt 3 rfl
  have hz33 := hF.lt 4 rfl
  have hz34 : w.heap.size ≤ w27.heap.size := hF.below.size
  replace hF := hF.push w27.heap.size rfl (encS []) 29
  generalize World.alloc w27 _ = w28 at *
  generalize w27.heap.size = Z11 at *
  refine wpList_store_mid rfl 29 _ _ rfl Z11 0 (encS []).toArray rfl rfl (hF.there 0 rfl (by omega) (by rw [List.size_toArray])) (size33a (by simp)) (one33 _) ?_
  replace hF := hF.whole (us := encS []) (by omega) (by simp <;> omega) rfl
  generalize World.setCells w28 _ _ _ = w35 at *
  go_upto_region 7 with fail
  apply wp_region_lit
  refine wpList_on (.agg #[.int .i64 0, .bool false, .int .u64 0]) (by rfl) (exec_load _ 35 _ rfl Z2 rfl (encA 0 false 0) _ (hF.range 4 rfl) und35 rfl size35) ?_
  (try simp only [Act.put, List.setIfInBounds_toArray, List.set_cons_zero, List.set_cons_succ])
  refine wpList_on ?_ (by rfl) ?_ ?_
  rotate_left
  focus (go_simp <;> with_reducible rfl)
  (try simp only [Act.put, List.setIfInBounds_toArray, List.set_cons_zero, List.set_cons_succ])
  refine wpList_on ?_ (by rfl) ?_ ?_
  rotate_left
  focus (go_simp <;> with_reducible rfl)
  (try simp only [Act.put, List.setIfInBounds_toArray, List.set_cons_zero, List.set_cons_succ])
  refine wpList_on ?_ (by rfl) ?_ ?_
  rotate_left
  focus (go_simp <;> with_reducible rfl)
  (try simp only [Act.put, List.setIfInBounds_toArray, List.set_cons_zero, List.set_cons_succ])
  refine wpList_on ?_ (by rfl) ?_ ?_
  rotate_left
  focus (go_simp <;> with_reducible rfl)
  (try simp only [Act.put, List.setIfInBounds_toArray, List.set_cons_zero, List.set_cons_succ])
  refine wpList_on ?_ (by rfl) ?_ ?_
  rotate_left
  focus (go_simp <;> with_reducible rfl)
  (try simp only [Act.put, List.setIfInBounds_toArray, List.set_cons_zero, List.set_cons_succ])
  refine wpList_on ?_ (by rfl) ?_ ?_
  rotate_left
  focus (go_simp <;> with_reducible rfl)
  (try simp only [Act.put, List.setIfInBounds_toArray, List.set_cons_zero, List.set_cons_succ])
  refine wpList_on ?_ (by rfl) ?_ ?_
  rotate_left
  focus (go_simp <;> with_reducible rfl)
  (try simp only [Act.put, List.setIfInBounds_toArray, List.set_cons_zero, List.set_cons_succ])
  refine wpList_on (.agg #[.int .i64 0, .bool false, .int .u64 5]) (by rfl) (exec_load _ 35 _ rfl (Z4 + 1) rfl (encA 0 false 5) _ (hF.range 2 rfl) und35 rfl size35) ?_
  (try simp only [Act.put, List.setIfInBounds_toArray, List.set_cons_zero, List.set_cons_succ])
  refine wpList_on ?_ (by rfl) ?_ ?_
  rotate_left
  focus (go_simp <;> with_reducible rfl)
  (try simp only [Act.put, List.setIfInBounds_toArray, List.set_cons_zero, List.set_cons_succ])
  refine wpList_on ?_ (by rfl) ?_ ?_
  rotate_left
  focus (go_simp <;> with_reducible rfl)
  (try simp only [Act.put, List.setIfInBounds_toArray, List.set_cons_zero, List.set_cons_succ])
  refine wpList_on ?_ (by rfl) ?_ ?_
  rotate_left
  focus (go_simp <;> with_reducible rfl)
  (try simp only [Act.put, List.setIfInBounds_toArray, List.set_cons_zero, List.set_cons_succ])
  refine wpList_on ?_ (by rfl) ?_ ?_
  rotate_left
  focus (go_simp <;> with_reducible rfl)
  (try simp only [Act.put, List.setIfInBounds_toArray, List.set_cons_zero, List.set_cons_succ])
  refine wpList_on ?_ (by rfl) ?_ ?_
  rotate_left
  focus (go_simp <;> with_reducible rfl)
  (try simp only [Act.put, List.setIfInBounds_toArray, List.set_cons_zero, List.set_cons_succ])
  refine wpList_on ?_ (by rfl) ?_ ?_
  rotate_left
  focus (go_simp <;> with_reducible rfl)
  (try simp only [Act.put, List.setIfInBounds_toArray, List.set_cons_zero, List.set_cons_succ])
  refine wpList_on ?_ (by rfl) ?_ ?_
  rotate_left
  focus (go_simp <;> with_reducible rfl)
  (try simp only [Act.put, List.setIfInBounds_toArray, List.set_cons_zero, List.set_cons_succ])
  refine wpList_on ?_ (by rfl) ?_ ?_
  rotate_left
  focus (go_simp <;> with_reducible rfl)
  (try simp only [Act.put, List.setIfInBounds_toArray, List.set_cons_zero, List.set_cons_succ])
  refine wpList_on ?_ (by rfl) ?_ ?_
  rotate_left
  focus (go_simp <;> with_reducible rfl)
  (try simp only [Act.put, List.setIfInBounds_toArray, List.set_cons_zero, List.set_cons_succ])
  refine wpList_on ?_ (by rfl) ?_ ?_
  rotate_left
  focus (go_simp <;> with_reducible rfl)
  (try simp only [Act.put, List.setIfInBounds_toArray, List.set_cons_zero, List.set_cons_succ])
  refine wpList_on ?_ (by rfl) ?_ ?_
  rotate_left
  focus (go_simp <;> with_reducible rfl)
  (try simp only [Act.put, List.setIfInBounds_toArray, List.set_cons_zero, List.set_cons_succ])
  refine wpList_on ?_ (by rfl) ?_ ?_
  rotate_left
  focus (go_simp <;> with_reducible rfl)
  (try simp only [Act.put, List.setIfInBounds_toArray, List.set_cons_zero, List.set_cons_succ])
  refine wpList_on ?_ (by rfl) ?_ ?_
  rotate_left
  focus (go_simp <;> with_reducible rfl)
  (try simp only [Act.put, List.setIfInBounds_toArray, List.set_cons_zero, List.set_cons_succ])
  refine wpList_on ?_ (by rfl) ?_ ?_
  rotate_left
  focus (go_simp <;> with_reducible rfl)
  (try simp only [Act.put, List.setIfInBounds_toArray, List.set_cons_zero, List.set_cons_succ])
  refine wpList_on ?_ (by rfl) ?_ ?_
  rotate_left
  focus (go_simp <;> with_reducible rfl)
  (try simp only [Act.put, List.setIfInBounds_toArray, List.set_cons_zero, List.set_cons_succ])
  refine wpList_on (.agg (encS [(1, 5)]).toArray) (by rfl) (exec_load _ 29 _ rfl w.heap.size rfl (encS [(1, 5)]) _ (hF.range 5 rfl) und29 rfl (size33 (by simp))) ?_
  (try simp only [Act.put, List.setIfInBounds_toArray, List.set_cons_zero, List.set_cons_succ])
  refine wpList_on (.agg (encS [(1, 5)]).toArray) (by rfl) (exec_load _ 29 _ rfl Z4 rfl (encS [(1, 5)]) _ (hF.range 3 rfl) und29 rfl (size33 (by simp))) ?_
  (try simp only [Act.put, List.setIfInBounds_toArray, List.set_cons_zero, List.set_cons_succ])
  refine wpList_on (.bool (decide ([(1, 5)] = [(1, 5)]))) (by rfl) (exec_eql _ _ _ rfl (a := [(1, 5)]) (b := [(1, 5)]) k15 k15 rfl rfl) ?_
  (try simp only [Act.put, List.setIfInBounds_toArray, List.set_cons_zero, List.set_cons_succ])
  refine wpList_on ?_ (by rfl) ?_ ?_
  rotate_left
  focus (go_simp <;> with_reducible rfl)
  (try simp only [Act.put, List.setIfInBounds_toArray, List.set_cons_zero, List.set_cons_succ])
  refine wpList_on ?_ (by rfl) ?_ ?_
  rotate_left
  focus (go_simp <;> with_reducible rfl)
  (try simp only [Act.put, List.setIfInBounds_toArray, List.set_cons_zero, List.set_cons_succ])
  refine wpList_on ?_ (by rfl) ?_ ?_
  rotate_left
  focus (go_simp <;> with_reducible rfl)
  (try simp only [Act.put, List.setIfInBounds_toArray, List.set_cons_zero, List.set_cons_succ])
  refine wpList_on ?_ (by rfl) ?_ ?_
  rotate_left
  focus (go_simp <;> with_reducible rfl)
  (try simp only [Act.put, List.setIfInBounds_toArray, List.set_cons_zero, List.set_cons_succ])
  refine wpList_on ?_ (by rfl) ?_ ?_
  rotate_left
  focus (go_simp <;> with_reducible rfl)
  (try simp only [Act.put, List.setIfInBounds_toArray, List.set_cons_zero, List.set_cons_succ])
  refine wpList_on (.agg (encS [(1, 5)]).toArray) (by rfl) (exec_load _ 29 _ rfl Z9 rfl (encS [(1, 5)]) _ (hF.range 1 rfl) und29 rfl (size33 (by simp))) ?_
  (try simp only [Act.put, List.setIfInBounds_toArray, List.set_cons_zero, List.set_cons_succ])
  refine wpList_on (.agg (encS [(1, 5)]).toArray) (by rfl) (exec_load _ 29 _ rfl Z4 rfl (encS [(1, 5)]) _ (hF.range 3 rfl) und29 rfl (size33 (by simp))) ?_
  (try simp only [Act.put, List.setIfInBounds_toArray, List.set_cons_zero, List.set_cons_succ])
  refine wpList_on (.bool (decide ([(1, 5)] = [(1, 5)]))) (by rfl) (exec_eql _ _ _ rfl (a := [(1, 5)]) (b := [(1, 5)]) k15 k15 rfl rfl) ?_
  (try simp only [Act.put, List.setIfInBounds_toArray, List.set_cons_zero, List.set_cons_succ])
  refine wpList_on ?_ (by rfl) ?_ ?_
  rotate_left
  focus (go_simp <;> with_reducible rfl)
  (try simp only [Act.put, List.setIfInBounds_toArray, List.set_cons_zero, List.set_cons_succ])
  refine wpList_on ?_ (by rfl) ?_ ?_
  rotate_left
  focus (go_simp <;> with_reducible rfl)
  (try simp only [Act.put, List.setIfInBounds_toArray, List.set_cons_zero, List.set_cons_succ])
  refine wpList_on ?_ (by rfl) ?_ ?_
  rotate_left
  focus (go_simp <;> with_reducible rfl)
  (try simp only [Act.put, List.setIfInBounds_toArray, List.set_cons_zero, List.set_cons_succ])
  refine wpList_on ?_ (by rfl) ?_ ?_
  rotate_left
  focus (go_simp <;> with_reducible rfl)
  (try simp only [Act.put, List.setIfInBounds_toArray, List.set_cons_zero, List.set_cons_succ])
  refine wpList_on ?_ (by rfl) ?_ ?_
  rotate_left
  focus (go_simp <;> with_reducible rfl)
  (try simp only [Act.put, List.setIfInBounds_toArray, List.set_cons_zero, List.set_cons_succ])
  refine wpList_on ?_ (by rfl) ?_ ?_
  rotate_left
  focus (go_simp <;> with_reducible rfl)
  (try simp only [Act.put, List.setIfInBounds_toArray, List.set_cons_zero, List.set_cons_succ])
  refine wpList_on ?_ (by rfl) ?_ ?_
  rotate_left
  focus (go_simp <;> with_reducible rfl)
  (try simp only [Act.put, List.setIfInBounds_toArray, List.set_cons_zero, List.set_cons_succ])
  refine wpList_on ?_ (by rfl) ?_ ?_
  rotate_left
  focus (go_simp <;> with_reducible rfl)
  (try simp only [Act.put, List.setIfInBounds_toArray, List.set_cons_zero, List.set_cons_succ])
  apply wpList_nil
  go_wp2_with fail
  go_ret
  exact ⟨rfl, hF.below⟩
end Go.Proofs.Ytdeohigggjfjjaa

/- New: a state of a row of pairs. -/
namespace Go.Proofs.Ytdeohigggjfjjaa
open Go.RowKit Go.Maps Go.Shelf Go.Sort
set_option maxRecDepth 100000

theorem Fr.lower {w0 w w' : World} {bl : List (Nat × List Value)} {m : Nat} (h : Fr w0 bl w) (hb : Below m w w') (h0 : w0.heap.size ≤ m) (hm : ∀ x ∈ bl, x.1 < m) : Fr w0 bl w' := by
  refine ⟨h.1.trans (hb.mono h0), fun x hx => ?_⟩
  obtain ⟨h1, h2, h3⟩ := h.2 x hx
  have hs := hb.size
  have hx' := hm x hx
  refine ⟨by omega, fun i => ?_, fun hq i hi => ?_⟩
  · rw [hb.cell (p := ⟨x.1, i, none⟩) hx']; exact h2 i
  · rw [hb.frozen (p := ⟨x.1, i, none⟩) hx']; exact h3 hq i hi
theorem holds_p {w : World} {g cap : Nat} {cur : Array Value} {l : List (Int × Int)} {t : TypeId} (hg : w.heap[g]? = some (.cells cur t (0, 0))) (hc : cur.size = cap * 2) (hl : l.length ≤ cap) (ht : cur.toList.take (l.length * 2) = flatP l) : HoldsK encP 2 w g 0 l.toArray := by
  intro j hj
  have hj' : j < l.length * 2 := by simpa using hj
  refine ⟨?_, by simp [World.frozen?, hg]⟩
  have h1 : (cur.toList.take (l.length * 2))[j]? = (flatP l)[j]? := by rw [ht]
  rw [List.getElem?_take_of_lt hj'] at h1
  have hlt : j / 2 < l.length := by omega
  have h2 := flatP_get l (j / 2) hlt
  simp only [World.cell?, hg, Nat.zero_add]
  rw [get_flatK _ _ _ _ (by simpa using hj')]
  have h4 : l.toArray[j / 2]! = l.getD (j / 2) (0, 0) := by simp [hlt]
  rw [h4]
  have h5 : cur[j]? = (flatP l)[j]? := by rw [← h1]; simp
  rw [h5]
  by_cases hp : j % 2 = 0
  · rw [hp, show j = 2 * (j / 2) by omega, h2.1]; rw [show 2 * (j / 2) / 2 = j / 2 by omega]; rfl
  · have hp1 : j % 2 = 1 := by omega
    rw [hp1, show j = 2 * (j / 2) + 1 by omega, h2.2]; rw [show (2 * (j / 2) + 1) / 2 = j / 2 by omega]; rfl
theorem grown_p {w : World} {g n : Nat} {os : Array Obj} (d : Array (Int × Int)) : w.grownBy (sortWorldK encP 2 w g 0 n d os) (some g) := by
  refine ⟨rfl, rfl, rfl, by simp [sortWorldK, putRowK, grow, putRow, mapBlock, Sort.ahead], fun k hk hne => ?_⟩
  have h1 : g ≠ k := fun e => hne (by rw [e])
  unfold sortWorldK putRowK
  rw [heap_grow_old _ _ (by simpa [putRow, mapBlock, Sort.ahead] using hk)]
  simp [putRow, mapBlock, Sort.ahead, Array.getElem?_modify, h1]
theorem rowX_holds {w : World} {g : Nat} {l : List (Int × Int)} (hg : g < w.heap.size) (h : HoldsK encP 2 w g 0 l.toArray) : RowX encP 2 w (some ⟨g, 0, none⟩) l := by
  refine .inr ⟨g, 0, rfl, hg, fun i hi j v e => ?_⟩
  have e9 : l.toArray[i]! = l.getD i default := by simp [hi]
  have hj : j < 2 := by have := (List.getElem?_eq_some_iff.1 e).1; simpa [encP] using this
  have h0 := (h.cell (i := i) (c := j) (by simpa using hi) hj).1
  rw [e9, getElem!_pos (encP (l.getD i default)) j (by simpa [encP] using hj)] at h0
  rw [h0]
  rw [List.getElem?_eq_getElem (by simpa [encP] using hj)] at e
  exact e
/-- A row of the call's own, sorted. -/
theorem sort_own {w : World} {base cap : Nat} {A : Option Addr} {l : List (Int × Int)} (hz : l.length * 16 ≤ 140737488351232) (hb : base ≤ w.heap.size) (ho : w.ownsRow base 26 2 (.slice A l.length cap) l.length (flatP l)) :
    Calls Try.prog 27 #[.slice A l.length cap, .func (.func 28) #[] #[]] w fun e w' => e = .returned (.tuple #[]) ∧ ∃ S, S.Perm l ∧ S.Pairwise (fun x y => x.1 ≤ y.1) ∧ RowX encP 2 w' A S ∧ Below base w w' := by
  rcases ho.2 with ⟨hv, h0⟩ | ⟨g, cap', cur, hv, hg0, hg, hl, hcap, hcs, htk⟩
  · have hm0 : l = [] := List.eq_nil_of_length_eq_zero h0
    subst hm0
    refine (sort_none _ _ _ _).mono ?_
    rintro e w2 ⟨rfl, rfl⟩
    exact ⟨rfl, [], .refl _, .nil, .inl rfl, Below.refl _ _⟩
  · simp only [Value.slice.injEq] at hv
    obtain ⟨rfl, -, rfl⟩ := hv
    have hH := holds_p hg hcs hl htk
    have hgl : g < w.heap.size := (Array.getElem?_eq_some_iff.1 hg).1
    have hc := sort_p g 0 cap l.toArray w hH hgl (by simp; omega)
    simp only [List.size_toArray] at hc
    refine hc.mono ?_
    rintro e w2 ⟨rfl, d', n, os, hp, hs, rfl⟩
    have hlen : d'.toList.length = l.length := hp.length_eq
    have hgr := grown_p (w := w) (g := g) (n := n) (os := os) d'
    refine ⟨rfl, d'.toList, hp, hs, ?_, (Below.refl base w).grown hgr hb fun k e => by cases e; exact hg0⟩
    have hA : HoldsK encP 2 (Sort.ahead w n) g 0 l.toArray := holdsK_ahead _ _ _ _ _ _ _ hH
    have hB := holdsK_putRowK encP 2 (Sort.ahead w n) g 0 l.toArray d' hA (by simpa using hlen)
    refine rowX_holds (Nat.lt_of_lt_of_le hgl hgr.size) (holdsK_grow _ _ _ _ _ _ _ (by simpa [putRowK, putRow, mapBlock, Sort.ahead] using hgl) ?_)
    have e : d'.toList.toArray = d' := by simp
    rw [e]
    exact hB

theorem run_copy2_none {P : Program} (w : World) (dT sT ty elem : TypeId) (d : Addr) (dLen dCap sCap : Nat)
    (hu : P.underlying dT = some (.slice elem)) (hs : (P.info? elem).map (·.size) = some 2) :
    (Builtin.copy_ #[dT, sT] ty #[.slice (some d) dLen dCap, .slice none 0 sCap]).run P w = .ok (goInt 0) w := by
  cases hq : P.info? elem with
  | none => simp [hq] at hs
  | some i =>
    simp [Builtin.copy_, run_underlying hu, Builtin.lenOf, Builtin.firstCells, sizeOf, typeInfo, hq, storeCells]
theorem slice_all (N : Nat) (w : World) : (Instr.sliceAt 27 (.pointer (some ⟨N, 0, none⟩)) none none none).run Try.prog w = .ok (.slice (some ⟨N, 0, none⟩) 16 16) w := by
  rw [run_sliceAt_array_all w _ _ und27, size27]
  simp [slicedAt, len27, Result.andThen, Addr.add]
/-- A state's pairs, copied in. -/
theorem copy_in {w w5 : World} {bl : List (Nat × List Value)} {N : Nat} {A : Option Addr} {cap : Nat} {S : List (Int × Int)} (hn : S.length ≤ 16) (hN : w.heap.size ≤ N) (hd : ∀ x ∈ bl, x.1 ≠ N) (h : Fr w ((N, zeros 32 ++ [.int .i64 S.length]) :: bl) w5) (hR : RowX encP 2 w5 A S) :
    ∃ w6, (∀ ty, (Builtin.copy_ #[46, 46] ty #[.slice (some ⟨N, 0, none⟩) 16 16, .slice A S.length cap]).run Try.prog w5 = .ok (goInt S.length) w6) ∧ Fr w ((N, encS S) :: bl) w6 := by
  have h2 : Fr w ((N, [] ++ zeros (2 * S.length) ++ (zeros (32 - 2 * S.length) ++ [.int .i64 S.length])) :: bl) w5 := by
    rw [List.nil_append, ← List.append_assoc, ← zeros_add, show 2 * S.length + (32 - 2 * S.length) = 32 by omega]; exact h
  have h3 := Fr.puts hN hd _ (flatP S) _ _ w5 h2 (by simp [zeros])
  have h4 : [] ++ flatP S ++ (zeros (32 - 2 * S.length) ++ [.int .i64 S.length]) = encS S := by unfold encS; simp
  rw [h4] at h3
  refine ⟨_, fun ty => ?_, h3⟩
  rcases hR with rfl | ⟨b, off, rfl, hl, hc⟩
  · rcases A with _ | a
    · exact run_copy2_none w5 _ _ ty 26 _ _ _ _ (by kernel_rfl) (by kernel_rfl)
    · exact run_copy2 w5 _ _ ty 26 N 0 _ _ a _ _ [] (by kernel_rfl) (by kernel_rfl) (by simp) (by simp) (by simp) (by simp) (by simp)
  · have hmin : Nat.min S.length 16 = S.length := Nat.min_eq_left hn
    have := run_copy2 (P := Try.prog) w5 46 46 ty 26 N 0 16 16 ⟨b, off, none⟩ S.length cap (flatP S) (by kernel_rfl) (by kernel_rfl) (by rw [hmin, flatP_length]; omega) (by
        have := RowX.news (enc := encP) (k := 2) encP_length (by decide) (w := w5) (ad := ⟨b, off, none⟩) (.inr ⟨b, off, rfl, hl, hc⟩)
        rw [flatP_flat] at this
        exact this)
      (fun j hj => by
        rw [flatP_length] at hj
        rw [Nat.zero_add, h.rule 0 rfl, List.getElem?_eq_getElem (by simp [zeros]; omega)]; rfl)
      (fun j hj => by
        rw [flatP_length] at hj
        rw [Nat.zero_add]; exact h.thaw 0 rfl hN j (by simp [zeros]; omega)) (flatP_one' S)
    rw [hmin] at this
    exact this

theorem below_sets {B : Nat} {a : World} {b : Nat} (hb : B ≤ b) : ∀ (vs : List Value) (o : Nat) (w : World), Below B a w → Below B a (w.setCells b o vs)
  | [], _, _, h => h
  | _ :: r, o, _, h => below_sets hb r (o + 1) _ (h.setCell hb _)
/-- What New answers. -/
def NewOk (l S : List (Int × Int)) (er : Int) : Prop :=
  (¬ (l.map (·.1)).Nodup ∧ S = [] ∧ er = 1) ∨ ((l.map (·.1)).Nodup ∧ 16 < l.length ∧ S = [] ∧ er = 6) ∨ ((l.map (·.1)).Nodup ∧ l.length ≤ 16 ∧ er = 0 ∧ S.Perm l ∧ S.Pairwise fun a b => a.1 < b.1)
theorem RowX.two {w : World} {A : Option Addr} {S : List (Int × Int)} (h : RowX encP 2 w A S) {i : Nat} (hi : i < S.length) : ∃ g off, A = some ⟨g, off, none⟩ ∧ ∀ j, j < S.length → w.cell? ⟨g, off + j * 2, none⟩ = some (.int .u64 (S.getD j (0, 0)).1) ∧ w.cell? ⟨g, off + j * 2 + 1, none⟩ = some (.int .u64 (S.getD j (0, 0)).2) := by
  rcases h with rfl | ⟨b, off, rfl, hl, hc⟩
  · simp at hi
  · exact ⟨b, off, rfl, fun j hj => ⟨by have := hc j hj 0 (.int .u64 (S.getD j (0, 0)).1) rfl; simpa using this, by have := hc j hj 1 (.int .u64 (S.getD j (0, 0)).2) rfl; simpa using this⟩⟩
theorem strict_of {S : List (Int × Int)} (h : S.Pairwise fun x y => x.1 ≤ y.1) (ha : ∀ j, j + 1 < S.length → (S.getD (j + 1) (0, 0)).1 ≠ (S.getD j (0, 0)).1) : S.Pairwise fun a b => a.1 < b.1 := by
  have hg : ∀ i (hi : i < S.length), S.getD i (0, 0) = S[i] := fun i hi => by rw [List.getD_eq_getElem?_getD, List.getElem?_eq_getElem hi]; rfl
  rw [List.pairwise_iff_getElem] at *
  intro i j hi hj hij
  obtain ⟨j', rfl⟩ : ∃ j', j = j' + 1 := ⟨j - 1, by omega⟩
  have h1 := ha j' hj
  rw [hg _ hj, hg j' (by omega)] at h1
  have h2 := h j' (j' + 1) (by omega) hj (by omega)
  by_cases e : i = j'
  · subst e; omega
  · have h3 := h i j' hi (by omega) (by omega); omega
theorem nodup_of {S : List (Int × Int)} (h : S.Pairwise fun a b => a.1 < b.1) : (S.map (·.1)).Nodup := by
  rw [List.Nodup, List.pairwise_map]
  exact h.imp fun h => by omega

set_option maxHeartbeats 4000000 in
theorem new_s {A : Option Addr} {cap : Nat} {l : List (Int × Int)} {w : World} (hz : l.length * 16 ≤ 140737488351232) (hr : RowX encP 2 w A l) :
    Calls Try.prog 14 #[.slice A l.length cap] w fun e w' => ∃ S er, e = .returned (.tuple #[.agg (encS S).toArray, .int .i64 er]) ∧ NewOk l S er ∧ Below w.heap.size w w' := by
  have hF := (Fr.start w).push w.heap.size rfl (encS []) 29
  have hr' := hr.below ((Below.refl _ w).alloc (Nat.le_refl _) (.cells (encS []).toArray 29))
  have C1 := clone_p (cap := cap) hz hr'
  have HZ := Lib.hid hz
  go_enter Try.func14, Try.ntmps14
  go_wp2_with fail
  refine C1.mono ?_
  rintro e w1 ⟨A1, cap1, rfl, ho, hb⟩
  replace hF := hF.over hb
  have hb1 := hb.size
  simp only [World.size_alloc] at ho hb1
  clear hb C1 hr hr'
  go_wp2_with fail
  refine (sort_own hz hb1 ho).mono ?_
  rintro e w2 ⟨rfl, S, hp, hs, hR, hb⟩
  replace hF := hF.lower hb (by omega) (by simp)
  have hn := hp.length_eq
  clear hb ho
  generalize hnn : l.length = n at *
  go_wp2_with fail
  have HP := Lib.hid hp
  have HS := Lib.hid hs
  have HN := Lib.hid hnn
  clear hp hs hnn
  go_loopg [5] (n + 1) (fun kx s5 wr => ∃ m : Nat, s5 = .int .i64 ((m : Int) + 1) ∧ (m = 0 ∨ m < n) ∧ n - m ≤ kx ∧ Hid (Fr w [(w.heap.size, encS [])] wr) ∧ Hid (RowX encP 2 wr A1 S) ∧ Hid (∀ j, j < m → (S.getD (j + 1) (0, 0)).1 ≠ (S.getD j (0, 0)).1))
  case atStart => exact ⟨0, rfl, .inl rfl, by omega, Lib.hid hF, Lib.hid hR, Lib.hid fun j hj => absurd hj (Nat.not_lt_zero j)⟩
  case round =>
    clear hF hR
    obtain ⟨m, rfl, hm, hk, hF, hR, hA⟩ := hrel
    by_cases hlt : m + 1 < n
    · obtain ⟨g, off, rfl, hcell⟩ := hR.out.two (i := m + 1) (by omega)
      obtain ⟨c1, c2⟩ := hcell (m + 1) (by omega)
      obtain ⟨c3, c4⟩ := hcell m (by omega)
      clear hcell c2 c4
      have hX : ∃ x, (S.getD (m + 1) (0, 0)).1 = x := ⟨_, rfl⟩
      obtain ⟨x, hX⟩ := hX
      have hY : ∃ y, (S.getD m (0, 0)).1 = y := ⟨_, rfl⟩
      obtain ⟨y, hY⟩ := hY
      rw [hX] at c1
      rw [hY] at c3
      have HX := Lib.hid hX
      have HY := Lib.hid hY
      clear hX hY
      have hlt' : ((m : Int) + 1 < (n : Int)) := by omega
      have W1 : Hid (IntKind.i64.wrap (m : Int) = (m : Int)) := Lib.hid (by rw [IntKind.wrap_i64]; omega)
      have hlm : m < n := by omega
      have hlm' : (m : Int) < n := by omega
      have h00 : (0 : Int) ≤ (m : Int) + 1 := by omega
      have h01 : (0 : Int) ≤ (m : Int) := by omega
      have t1 : ((m : Int) + 1).toNat = m + 1 := by omega
      go_upto_region 6 with fail
      refine wp_text (S := (fun w' => Fr w [(w.heap.size, encS [])] w' ∧ RowX encP 2 w' (some ⟨g, off, none⟩) S ∧ w'.cell? ⟨g, off + (m + 1) * 2, none⟩ = some (.int .u64 x) ∧ w'.cell? ⟨g, off + m * 2, none⟩ = some (.int .u64 y))) (by kernel_rfl) (by kernel_rfl) ⟨hF.out.drew, hR.out, c1, c3⟩ (fun hT => ?_)
      have hT9 := Lib.hid hT
      clear hT
      repeat (first
        | (refine text_value (v := ?_) hT9.out (by rfl) ?_ ?_; rotate_left; (focus (intro w5 hS; have q1 := hS.2.2.1; have q3 := hS.2.2.2; have w1 := W1.out; go_simp <;> with_reducible rfl)); (try simp only [Act.put, List.setIfInBounds_toArray, List.set_cons_zero, List.set_cons_succ]))
        | (refine text_off hT9.out (by rfl) ?_; (try simp only [Act.put, List.setIfInBounds_toArray, List.set_cons_zero, List.set_cons_succ]))
        | (refine text_call (v := ?_) (f := ?_) (args := ?_) hT9.out (by rfl) ?_ ?_ ?_; rotate_left 3; (focus (intro w5 hS; have q1 := hS.2.2.1; have q3 := hS.2.2.2; have w1 := W1.out; go_simp; constructor <;> with_reducible rfl)); (focus (intro w5 hS; (first | skip))); (try simp only [Act.put, List.setIfInBounds_toArray, List.set_cons_zero, List.set_cons_succ])))
      refine InText.nil fun w5 hS5 => ?_
      clear hT9
      obtain ⟨hF5, hR5, -, -⟩ := hS5
      by_cases hxy : x = y
      · subst hxy
        go_upto_region 7 with fail
        apply wp_region_lit
        refine wpList_buildTo rfl 29 _ rfl (some 29) rfl (encS []).toArray (by kernel_rfl) ?_
        refine wpList_store_mid rfl 29 _ _ rfl w.heap.size 0 (encS []).toArray rfl rfl (hF5.there 0 rfl (Nat.le_refl _) (by rw [List.size_toArray])) (size33a (by simp)) (one33 _) ?_
        replace hF5 := hF5.whole (us := encS []) (Nat.le_refl _) (by simp) rfl
        generalize World.setCells w5 _ _ _ = w6 at *
        go_wp2_with fail
        (try simp only [Exit.inBlock, Exit.then])
        refine bodyPost_ret (res_ct rfl _ _ w.heap.size rfl _ _ (hF5.range 0 rfl) und29 rfl (size33 (by simp))) rfl ⟨[], 1, rfl, .inl ⟨fun hnd => ?_, rfl, rfl⟩, hF5.below⟩
        have h9 := (hnd.perm (HP.out.map (·.1)).symm)
        rw [List.Nodup, List.pairwise_map, List.pairwise_iff_getElem] at h9
        refine h9 m (m + 1) (by omega) (by omega) (by omega) ?_
        have e1 := HX.out
        have e2 := HY.out
        rw [List.getD_eq_getElem?_getD, List.getElem?_eq_getElem (by omega)] at e1 e2
        exact e2.trans e1.symm
      · have hxy' : (x == y) = false := by simpa using hxy
        go_wp2_with fail
        go_roundg (n - (m + 1))
        case measure => omega
        case rel => exact ⟨m + 1, by simp, .inr hlt, Nat.le_refl _, Lib.hid hF5, Lib.hid hR5, Lib.hid fun j hj => by
          by_cases e : j = m
          · subst e; rw [HX.out, HY.out]; exact hxy
          · exact hA.out j (by omega)⟩
    · have hst : S.Pairwise fun a b => a.1 < b.1 := strict_of HS.out fun j hj => hA.out j (by omega)
      have HST := Lib.hid hst
      clear hst
      have hlt' : ¬ ((m : Int) + 1 < (n : Int)) := by omega
      by_cases h16 : n ≤ 16
      · have h16' : ¬ ((16 : Int) < (n : Int)) := by omega
        have hnl : S.length ≤ 16 := by omega
        replace hF := hF.out
        replace hR := hR.out
        have hzz := hF.lt 0 rfl
        go_upto_region 10 with fail
        apply wp_region_lit
        refine Go.Great.wpList_readTo rfl (some 34) rfl (.slice A1 n cap1) rfl ?_
        (try simp only [Act.put, List.setIfInBounds_toArray, List.set_cons_zero, List.set_cons_succ])
        refine Go.Great.wpList_readTo rfl (some 35) rfl (.int .i64 n) (by go_simp) ?_
        (try simp only [Act.put, List.setIfInBounds_toArray, List.set_cons_zero, List.set_cons_succ])
        refine wpList_buildTo rfl 29 _ rfl (some 36) rfl (zeros 32 ++ [Value.int .i64 n]).toArray (by kernel_rfl) ?_
        refine Go.Great.wpList_allocTo rfl (some 6) rfl (.pointer (some ⟨wr.heap.size, 0, none⟩)) (.cells (encS []).toArray 29) (by kernel_rfl) ?_
        have hb0 := hF.below.size
        have hB3 := (Below.refl wr.heap.size wr).alloc (Nat.le_refl _) (.cells (encS []).toArray 29)
        replace hF := hF.push wr.heap.size rfl (encS []) 29
        generalize World.alloc wr _ = w3 at *
        refine wpList_store_mid rfl 29 _ _ rfl wr.heap.size 0 (zeros 32 ++ [Value.int .i64 n]).toArray rfl rfl (hF.there 0 rfl (by omega) (by simp [zeros, encS])) (by rw [List.size_toArray]; exact size29) (all_oneCell_toArray (fun v hv => by simp [zeros] at hv; rcases hv with rfl | rfl <;> rfl)) ?_
        replace hF := hF.whole (us := zeros 32 ++ [Value.int .i64 n]) (by omega) (by simp; omega) (by simp [zeros, encS])
        have hB4 := below_sets (Nat.le_refl wr.heap.size) (zeros 32 ++ [Value.int .i64 n]) 0 w3 hB3
        replace hR := hR.below hB4
        clear hB3 hB4
        generalize World.setCells w3 _ _ _ = w4 at *
        generalize wr.heap.size = Z at *
        subst hn
        obtain ⟨w5, hcp, hG⟩ := copy_in (cap := cap1) hnl (by omega) (by simp; omega) hF hR
        have SA := Lib.hid (slice_all Z)
        have CP := Lib.hid hcp
        clear hcp hF hR
        (try simp only [Act.put, List.setIfInBounds_toArray, List.set_cons_zero, List.set_cons_succ])
        go_upto_region 11 with fail
        apply wp_region_lit
        refine Go.Great.wpList_readTo rfl (some 37) rfl (.pointer (some ⟨Z, 0, none⟩)) (by go_simp) ?_
        refine Go.Great.wpList_readTo rfl (some 38) rfl (.slice (some ⟨Z, 0, none⟩) 16 16) (by have := SA.out; go_simp) ?_
        (try simp only [Act.put, List.setIfInBounds_toArray, List.set_cons_zero, List.set_cons_succ])
        refine Go.Great.wpList_readTo rfl (some 39) rfl (.slice A1 S.length cap1) rfl ?_
        (try simp only [Act.put, List.setIfInBounds_toArray, List.set_cons_zero, List.set_cons_succ])
        refine Go.Great.wpList_runTo rfl (some 40) rfl (goInt S.length) w5 (by have := CP.out; go_simp) ?_
        (try simp only [Act.put, List.setIfInBounds_toArray, List.set_cons_zero, List.set_cons_succ])
        go_upto_region 12 with fail
        apply wp_region_lit
        replace hG := hG.sub (bl' := [(w.heap.size, encS []), (Z, encS S)]) (by simp)
        refine wpList_load_mid rfl 29 _ rfl Z 0 rfl (encS S) _ (hG.range 1 rfl) und29 rfl (size33 hnl) ?_
        refine wpList_store_mid rfl 29 _ _ rfl w.heap.size 0 (encS S).toArray rfl rfl (hG.there 0 rfl (Nat.le_refl _) (by rw [encS_length (by simp), List.size_toArray, encS_length hnl])) (size33a hnl) (one33 _) ?_
        replace hG := hG.whole (us := encS S) (Nat.le_refl _) (by simp; omega) (by rw [encS_length (by simp), encS_length hnl])
        generalize World.setCells w5 _ _ _ = w6 at *
        go_wp2_with fail
        exact bodyPost_ret (res_ct rfl _ _ w.heap.size rfl _ _ (hG.range 0 rfl) und29 rfl (size33 hnl)) rfl ⟨S, 0, rfl, .inr (.inr ⟨(HP.out.map (·.1)).nodup_iff.1 (nodup_of HST.out), by rw [HN.out]; omega, rfl, HP.out, HST.out⟩), hG.below⟩
      · have h16' : (16 : Int) < (n : Int) := by omega
        replace hF := hF.out
        go_upto_region 9 with fail
        apply wp_region_lit
        refine wpList_buildTo rfl 29 _ rfl (some 33) rfl (encS []).toArray (by kernel_rfl) ?_
        refine wpList_store_mid rfl 29 _ _ rfl w.heap.size 0 (encS []).toArray rfl rfl (hF.there 0 rfl (Nat.le_refl _) (by rw [List.size_toArray])) (size33a (by simp)) (one33 _) ?_
        replace hF := hF.whole (us := encS []) (Nat.le_refl _) (by simp) rfl
        generalize World.setCells wr _ _ _ = w6 at *
        go_wp2_with fail
        refine bodyPost_ret (res_ct rfl _ _ w.heap.size rfl _ _ (hF.range 0 rfl) und29 rfl (size33 (by simp))) rfl ⟨[], 6, rfl, .inr (.inl ⟨(HP.out.map (·.1)).nodup_iff.1 (nodup_of HST.out), by rw [HN.out]; omega, rfl, rfl⟩), hF.below⟩
end Go.Proofs.Ytdeohigggjfjjaa

/- How many structs came in, by what they read as. General. -/
namespace Go.Proofs.Ytdeohigggjfjjaa
open Go.RowKit Go.Maps Go.WideShapes Go.ChangeShapes Go.ChangeAt Go.Deep
set_option maxRecDepth 100000

section
variable {H : Type} {enc : TypeId × Value → H} {P : Program} {W : World}
theorem row_size {t e : TypeId} {by' : Nat} {A : Option Addr} {len cap j : Nat} {d : DataW H} {p : List MemPlace} {ts : List TypeId} {ds : List (DataW H)} (ht : P.underlying t = some (.slice e)) (hby : P.bytesOf e = by')
    (h : DataW.Trod enc P W 0 (fun _ => true) true t (.slice A len cap) d p) (hsz : (DataW.weightsEach P ts ds).all (· ≤ reachBytes) = true) (hts : ts[j]? = some t) (hds : ds[j]? = some d) : len * by' ≤ 140737488351232 := by
  obtain ⟨fuel, hf⟩ := h
  rcases open_slice ht hf with ⟨hcs, _⟩ | ⟨a, len', cap', m, n, D, Pl, hcs, _, hl, hm, hmm, hx, _⟩
  · simp [Value.cells] at hcs
    obtain ⟨_, rfl, _⟩ := hcs
    omega
  · simp [Value.cells] at hcs
    obtain ⟨_, rfl, rfl⟩ := hcs
    simp only [Prod.mk.injEq] at hx
    obtain ⟨rfl, _⟩ := hx
    have := sized_slice hsz hts hds ht
    rw [hby] at this
    simp only [List.length_map, List.length_range, reachBytes] at this
    simp only [if_true] at hmm
    exact Nat.le_trans (Nat.mul_le_mul_right _ (by omega)) this
end
end Go.Proofs.Ytdeohigggjfjjaa

/- Rows of pairs that came in. -/
namespace Go.Proofs.Ytdeohigggjfjjaa
open Go.RowKit Go.Maps Go.Deep
set_option maxRecDepth 100000

def OkP (p : Int × Int) : Prop := InU p.1 ∧ InU p.2
theorem flatPair : flatT Try.prog 6 26 = some [.num .u64, .num .u64] := by kernel_rfl
theorem cellsPair : Try.prog.cellsOf 26 = 2 := by kernel_rfl
theorem open_Pairs {H : Type} {en : TypeId × Value → H} {W : World} {A : Option Addr} {len cap : Nat} {d : DataW H} {p : List MemPlace}
    (h : DataW.Trod en Try.prog W 0 (fun _ => true) true 46 (.slice A len cap) d p) (hlt : ∀ x ∈ p, x.block < W.heap.size) :
    ∃ xs : List (Int × Int), xs.length = len ∧ len ≤ maxLen ∧ (∀ r ∈ xs, OkP r) ∧ RowX encP 2 W A xs := by
  refine open_rowX (show Try.prog.underlying 46 = some (.slice 26) by kernel_rfl) flatPair cellsPair (by simp) (fun w b o hall => ?_) h hlt
  obtain ⟨_, c0, x0, rfl, w0⟩ := hall 0 _ rfl
  obtain ⟨_, c1, x1, rfl, w1⟩ := hall 1 _ rfl
  refine ⟨⟨x0, x1⟩, fun j v e => ?_, wf_u.1 w0, wf_u.1 w1⟩
  match j with
  | 0 => simp [encP] at e; subst e; exact c0
  | 1 => simp [encP] at e; subst e; exact c1
  | j + 2 => simp [encP] at e
end Go.Proofs.Ytdeohigggjfjjaa
