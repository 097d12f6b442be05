/- The reference's ideal world: where it keeps a reference's cell; what is set. -/
import Derived.Test.YtnlepgbmbdmjbaaRefT
import Derived.Test.YtnlepgbmbdmjbaaIdealA
namespace Go.Proofs.Ytnlepgbmbdmjbaa
open Go.RowKit Go.Maps
set_option maxRecDepth 100000

/-- Where the reference keeps what the program keeps at a place. -/
def phi (o : Plc) : Plc := if contB o.1 o.2.2 = true then (9, o.2.1, o.2.2) else o
def whP (x y z d : Int) : Plc := if contB x z = true then (9, d, z) else (x, y, z)
theorem cont_5 {x z : Int} (h : contB x z = true) : x = 5 := by unfold contB at h; rw [decide_eq_true_iff] at h; exact h.1
theorem whP_phi (x y z d : Int) : whP x y z d = phi (ownP x y z d) := by
  unfold whP phi
  cases h : contB x z
  · rw [ownP_no h]; simp [h]
  · rw [ownP_yes h, if_pos rfl]
    have := cont_5 h
    subst this
    simp [h]
theorem ownP_9 {x y z d : Int} (h : ¬ x = 9) : ¬ (ownP x y z d).1 = 9 := by
  cases hc : contB x z
  · rw [ownP_no hc]; exact h
  · rw [ownP_yes hc]; simp
theorem phi_inj {o o' : Plc} (h : ¬ o.1 = 9) (h' : ¬ o'.1 = 9) (e : phi o = phi o') : o = o' := by
  obtain ⟨a, b, c⟩ := o
  obtain ⟨a', b', c'⟩ := o'
  unfold phi at e
  simp only at h h' e
  cases hc : contB a c <;> cases hc' : contB a' c' <;> rw [hc, hc'] at e <;> simp only [Bool.false_eq_true, if_true, if_false, Prod.mk.injEq] at e
  · obtain ⟨rfl, rfl, rfl⟩ := e; rfl
  · exact absurd e.1 h
  · exact absurd e.1.symm h'
  · rw [cont_5 hc, cont_5 hc', e.2.1, e.2.2]
/-- The reference's row holds what the program's cells hold. -/
def Rel (f : Plc → Int) (l : List OneR) : Prop := ∀ o : Plc, ¬ o.1 = 9 → f o = getL l (phi o)
theorem Rel.zero : Rel (fun _ => 0) [] := fun _ _ => rfl
theorem Rel.set {f : Plc → Int} {l : List OneR} (h : Rel f l) {o : Plc} (ho : ¬ o.1 = 9) (v : Int) : Rel (upd f o v) (setL l (phi o) v) := fun p hp => by
  rw [getL_set]
  unfold upd
  by_cases e : p = o
  · rw [if_pos e, if_pos (by rw [e])]
  · rw [if_neg e, if_neg (fun e' => e (phi_inj hp ho e'))]
    exact h p hp
theorem whP_wf {x y z d : Int} (hx : Wf (x, y, z)) (hd : In64 d) : Wf (whP x y z d) := by
  unfold whP
  split
  · exact ⟨by show In64 9; unfold In64; omega, hd, hx.2.2⟩
  · exact hx

set_option maxHeartbeats 1600000 in
theorem where_any (x y z d o1 o2 o3 : Int) (hx9 : ¬ x = 9) (ho : whP x y z d = (o1, o2, o3)) (w : World) : Calls Try.prog 31 #[.agg #[.int .i64 x, .int .i64 y, .int .i64 z], .int .i64 d] w fun e w' => e = .returned (.agg #[.int .i64 o1, .int .i64 o2, .int .i64 o3]) ∧ Below w.heap.size w w' := by
  have hb9 : (x == 9) = false := by simpa using hx9
  unfold whP at ho
  by_cases h5 : x = 5
  · have hb5 : (x == 5) = true := by simpa using h5
    by_cases h0 : 0 ≤ z
    · have hz0 : decide (0 ≤ z) = true := by simpa using h0
      by_cases h1 : z = 1
      · have ho2 : (x, y, z) = (o1, o2, o3) := by rwa [if_neg (by unfold contB; rw [decide_eq_true_iff]; omega)] at ho
        simp only [Prod.mk.injEq] at ho2
        obtain ⟨rfl, rfl, rfl⟩ := ho2
        have hz1 : (z != 1) = false := by simpa using h1
        clear h5 h0 h1 ho hx9
        go_enter Try.func31, Try.ntmps31
        go_wp2
        exact bodyPost_ret (v := .agg #[.int .i64 x, .int .i64 y, .int .i64 z]) (by simp [results, Try.results31, go_sem]) rfl ⟨rfl, ((Below.refl _ _).alloc (Nat.le_refl _) _).alloc (by simp) _⟩
      · have hz1 : (z != 1) = true := by simpa using h1
        by_cases h2 : z = 2
        · have ho2 : (x, y, z) = (o1, o2, o3) := by rwa [if_neg (by unfold contB; rw [decide_eq_true_iff]; omega)] at ho
          simp only [Prod.mk.injEq] at ho2
          obtain ⟨rfl, rfl, rfl⟩ := ho2
          have hz2 : (z != 2) = false := by simpa using h2
          clear h5 h0 h1 h2 ho hx9
          go_enter Try.func31, Try.ntmps31
          go_wp2
          exact bodyPost_ret (v := .agg #[.int .i64 x, .int .i64 y, .int .i64 z]) (by simp [results, Try.results31, go_sem]) rfl ⟨rfl, ((Below.refl _ _).alloc (Nat.le_refl _) _).alloc (by simp) _⟩
        · have ho2 : (9, d, z) = (o1, o2, o3) := by rwa [if_pos (by unfold contB; rw [decide_eq_true_iff]; omega)] at ho
          simp only [Prod.mk.injEq] at ho2
          obtain ⟨rfl, rfl, rfl⟩ := ho2
          have hz2 : (z != 2) = true := by simpa using h2
          clear h5 h0 h1 h2 ho hx9
          go_enter Try.func31, Try.ntmps31
          go_wp2
          exact bodyPost_ret (v := .agg #[.int .i64 9, .int .i64 d, .int .i64 z]) (by simp [results, Try.results31, go_sem]) rfl ⟨rfl, ((Below.refl _ _).alloc (Nat.le_refl _) _).alloc (by simp) _⟩
    · have ho2 : (x, y, z) = (o1, o2, o3) := by rwa [if_neg (by unfold contB; rw [decide_eq_true_iff]; omega)] at ho
      simp only [Prod.mk.injEq] at ho2
      obtain ⟨rfl, rfl, rfl⟩ := ho2
      have hz0 : decide (0 ≤ z) = false := by simpa using h0
      clear h5 h0 ho hx9
      go_enter Try.func31, Try.ntmps31
      go_wp2
      exact bodyPost_ret (v := .agg #[.int .i64 x, .int .i64 y, .int .i64 z]) (by simp [results, Try.results31, go_sem]) rfl ⟨rfl, ((Below.refl _ _).alloc (Nat.le_refl _) _).alloc (by simp) _⟩
  · have ho2 : (x, y, z) = (o1, o2, o3) := by rwa [if_neg (by unfold contB; rw [decide_eq_true_iff]; omega)] at ho
    simp only [Prod.mk.injEq] at ho2
    obtain ⟨rfl, rfl, rfl⟩ := ho2
    have hb5 : (x == 5) = false := by simpa using h5
    clear h5 ho hx9
    go_enter Try.func31, Try.ntmps31
    go_wp2
    exact bodyPost_ret (v := .agg #[.int .i64 x, .int .i64 y, .int .i64 z]) (by simp [results, Try.results31, go_sem]) rfl ⟨rfl, ((Below.refl _ _).alloc (Nat.le_refl _) _).alloc (by simp) _⟩

/-- The reference's cells. -/
def uv9 (v1 v2 v3 : Value) : List Value := [v1, v2, v3]
/-- The things behind a word that is set: the block, and two of its rows. -/
def setL9 (L : List Item) (i u : Nat) (v2 v3 a b : Value) (lc li : List OneR) : List Item :=
  (((L.set i (boxI u (uv9 a v2 v3))).set (i + 1) (rowO a lc)).set i (boxI u (uv9 a b v3))).set (i + 2) (rowO b li)

section
variable {w0 w : World} {L : List Item} {u : Nat} {v1 v2 v3 : Value} {lc li : List OneR} {l : List Int}
set_option maxHeartbeats 3200000 in
theorem set9_u (x y z d v e o1 o2 o3 : Int) (hx9 : ¬ x = 9) (ho : whP x y z d = (o1, o2, o3)) (hlc : lc.length ≤ 1000000) (hli : li.length ≤ 1000000) (i : Nat) (hE : Env w0 L w) (hu : L[i]? = some (boxI u (uv9 v1 v2 v3))) (h1 : L[i + 1]? = some (rowO v1 lc)) (h2 : L[i + 2]? = some (rowO v2 li)) :
    Calls Try.prog 33 #[.pointer (some ⟨u, 0, none⟩), .agg #[.int .i64 x, .int .i64 y, .int .i64 z], .int .i64 d, .int .u64 v, .int .i64 e] w fun e' w' => e' = .returned (.tuple #[]) ∧ ∃ v1' v2', Env w0 (setL9 L i u v2 v3 v1' v2' (setL lc (o1, o2, o3) v) (setL li (o1, o2, o3) (IntKind.u64.wrap e))) w' := by
  replace hE := hE.box w.heap.size rfl [.int .i64 x, .int .i64 y, .int .i64 z] 39
  have cW := fun v => where_any x y z d o1 o2 o3 hx9 ho v
  have CW := Lib.hid cW
  clear cW ho hx9
  go_enter Try.func33, Try.ntmps33
  go_wp2_with fail
  generalize w.alloc _ = w1 at *
  generalize w.heap.size = X at *
  refine Ord.wp_chain [7] (fun w' => Blk 0 w' X [.int .i64 x, .int .i64 y, .int .i64 z]) (Stage [Env w0 (boxI X [.int .i64 x, .int .i64 y, .int .i64 z] :: L), fun w' => ∃ v6, Env w0 (boxI X [.int .i64 x, .int .i64 y, .int .i64 z] :: (L.set i (boxI u (uv9 v6 v2 v3))).set (i + 1) (rowO v6 (setL lc (o1, o2, o3) v))) w']) (by kernel_rfl) (by kernel_rfl) (by kernel_rfl) (hE.drew.get 0 rfl) ⟨_, rfl, hE.drew⟩ (fun hT => ?_)
  have hT9 := Lib.hid hT
  clear hT
  repeat (first
    | (refine Ord.ch_value (v := ?_) hT9.out (by decide) (by rfl) ?_ ?_; rotate_left; (focus (intro w5 hS; have r := hS.rule; go_simp <;> with_reducible rfl)); (try simp only [Act.put, List.setIfInBounds_toArray, List.set_cons_zero, List.set_cons_succ]))
    | (refine Ord.ch_off hT9.out (by decide) (by rfl) ?_; (try simp only [Act.put, List.setIfInBounds_toArray, List.set_cons_zero, List.set_cons_succ]))
    | (refine Ord.ch_call (v := ?_) (f := ?_) (args := ?_) hT9.out (by decide) (by rfl) ?_ ?_ ?_; rotate_left 3; (focus (intro w5 hS; have r := hS.rule; go_simp; constructor <;> with_reducible rfl)); (focus (intro w5 hS; (first | (with_reducible refine (CW.out _).mono ?_; rintro e w6 ⟨rfl, hb6⟩; constructor; with_reducible rfl; exact ⟨hS.over hb6, Stage.two (fun h => h.over hb6) fun h => h.imp fun _ h => h.over hb6⟩)))); (try simp only [Act.put, List.setIfInBounds_toArray, List.set_cons_zero, List.set_cons_succ])))
  refine Ord.ch_turn (v := .tuple #[]) 0 hT9.out rfl (by decide) (Or.inl rfl) (by rfl) ?_ ?_
  · rintro w5 hC5 ⟨P5, hP5, hA5⟩
    cases hP5
    skip
    go_simp
    simp only [Ord.LandsIn]
    refine (set_u o1 o2 o3 v hlc 0 (i + 1) (i + 2) (by omega) hA5 hu rfl h1).mono ?_
    rintro e6 w6 ⟨rfl, v6, hE6⟩; exact ⟨rfl, hE6.get 0 rfl, _, rfl, v6, hE6⟩
  (try simp only [Act.put, List.setIfInBounds_toArray, List.set_cons_zero, List.set_cons_succ])
  refine Ord.InText.nil fun w5 hS => ?_
  clear hT9
  obtain ⟨hC9, hA9⟩ := Ord.chain_end hS
  clear hS
  obtain ⟨P9, hP9, hA9⟩ := hA9
  cases hP9
  obtain ⟨v6, hA9⟩ := hA9
  clear hC9 hE
  have hu2 : ((L.set i (boxI u (uv9 v6 v2 v3))).set (i + 1) (rowO v6 (setL lc (o1, o2, o3) v)))[i]? = some (boxI u (uv9 v6 v2 v3)) := wset (j := i + 1) (by omega) (wself hu)
  have h22 : ((L.set i (boxI u (uv9 v6 v2 v3))).set (i + 1) (rowO v6 (setL lc (o1, o2, o3) v)))[i + 2]? = some (rowO v2 li) := wset (j := i + 1) (by omega) (wset (j := i) (by omega) h2)
  go_wp2_with fail
  refine Ord.wp_chain [8] (fun w' => Blk 0 w' X [.int .i64 x, .int .i64 y, .int .i64 z]) (Stage [Env w0 (boxI X [.int .i64 x, .int .i64 y, .int .i64 z] :: (L.set i (boxI u (uv9 v6 v2 v3))).set (i + 1) (rowO v6 (setL lc (o1, o2, o3) v))), fun w' => ∃ v7, Env w0 (boxI X [.int .i64 x, .int .i64 y, .int .i64 z] :: setL9 L i u v2 v3 v6 v7 (setL lc (o1, o2, o3) v) (setL li (o1, o2, o3) (IntKind.u64.wrap e))) w']) (by kernel_rfl) (by kernel_rfl) (by kernel_rfl) (hA9.drew.get 0 rfl) ⟨_, rfl, hA9.drew⟩ (fun hT => ?_)
  have hT9 := Lib.hid hT
  clear hT
  repeat (first
    | (refine Ord.ch_value (v := ?_) hT9.out (by decide) (by rfl) ?_ ?_; rotate_left; (focus (intro w5 hS; have r := hS.rule; go_simp <;> with_reducible rfl)); (try simp only [Act.put, List.setIfInBounds_toArray, List.set_cons_zero, List.set_cons_succ]))
    | (refine Ord.ch_off hT9.out (by decide) (by rfl) ?_; (try simp only [Act.put, List.setIfInBounds_toArray, List.set_cons_zero, List.set_cons_succ]))
    | (refine Ord.ch_call (v := ?_) (f := ?_) (args := ?_) hT9.out (by decide) (by rfl) ?_ ?_ ?_; rotate_left 3; (focus (intro w5 hS; have r := hS.rule; go_simp; constructor <;> with_reducible rfl)); (focus (intro w5 hS; (first | (with_reducible refine (CW.out _).mono ?_; rintro e w6 ⟨rfl, hb6⟩; constructor; with_reducible rfl; exact ⟨hS.over hb6, Stage.two (fun h => h.over hb6) fun h => h.imp fun _ h => h.over hb6⟩)))); (try simp only [Act.put, List.setIfInBounds_toArray, List.set_cons_zero, List.set_cons_succ])))
  refine Ord.ch_turn (v := .tuple #[]) 0 hT9.out rfl (by decide) (Or.inl rfl) (by rfl) ?_ ?_
  · rintro w5 hC5 ⟨P5, hP5, hA5⟩
    cases hP5
    skip
    go_simp
    simp only [Ord.LandsIn]
    refine (set_u o1 o2 o3 (IntKind.u64.wrap e) hli 1 (i + 1) (i + 3) (by omega) hA5 hu2 rfl h22).mono ?_
    rintro e6 w6 ⟨rfl, v7, hE6⟩; exact ⟨rfl, hE6.get 0 rfl, _, rfl, v7, hE6⟩
  (try simp only [Act.put, List.setIfInBounds_toArray, List.set_cons_zero, List.set_cons_succ])
  refine Ord.InText.nil fun w5 hS => ?_
  clear hT9
  obtain ⟨hC8, hA8⟩ := Ord.chain_end hS
  clear hS
  obtain ⟨P8, hP8, hA8⟩ := hA8
  cases hP8
  obtain ⟨v7, hA8⟩ := hA8
  clear hC8 hA9
  go_wp2
  (first | go_end0 | refine bodyPost_ret (results_none rfl _ _ _) rfl ?_)
  exact ⟨rfl, v6, v7, hA8.sub (.cons _ (List.Sublist.refl _))⟩
end
end Go.Proofs.Ytnlepgbmbdmjbaa
