/- What is proved on the way to the statement, part 9 of 10: contracts of the functions, among other things in memory. -/
import Derived.Test.YtnnjanaclgjneaaGreatDoorE8
import Derived.Defers
import Derived.Recover
import Derived.LoopIn

/- Finds: Step over the model. -/
namespace Go.Proofs.YtnnjanaclgjneaaGreatDoor
open Go.RowKit Go.Maps
set_option maxRecDepth 100000

/-- The lanes that ended at higher levels, as things. -/
def dnI (c : Nat) (key : Int) (L : Nat → Lm) (D : Nat → Nat × Value × Int) (l : Nat) : Item := boxI (D l).1 (laneV c l key false (D l).2.1 1 (D l).2.2 (pfS 1 (L l)) (pvS 1 (L l)) (L l))
def dnL (c : Nat) (key : Int) (L : Nat → Lm) (D : Nat → Nat × Value × Int) : Nat → Nat → List Item
  | _, 0 => []
  | lv, n + 1 => dnI c key L D (lv + 1) :: dnL c key L D (lv + 1) n
theorem dnL_congr {c : Nat} {key : Int} {L L' : Nat → Lm} {D D' : Nat → Nat × Value × Int} : ∀ (n lv : Nat), (∀ l, lv < l → L l = L' l ∧ D l = D' l) → dnL c key L D lv n = dnL c key L' D' lv n
  | 0, _, _ => rfl
  | n + 1, lv, h => by
    have h1 := h (lv + 1) (by omega)
    show dnI _ _ _ _ _ :: _ = dnI _ _ _ _ _ :: _
    rw [dnL_congr n (lv + 1) fun l hl => h l (by omega)]
    unfold dnI
    rw [h1.1, h1.2]
/-- How a Find stands, and all that it needs. -/
def FindR (w0 : World) (R : List Item) (fb h : Nat) (key : Int) (S : ST) (s : Int) (F : Fm) (w : World) : Prop :=
  S.ce = F.e ∧ S.cr = F.r ∧ ((F.on = false ∧ s = 0 ∧ ∃ g ps l0, ps.length = h ∧ Env w0 (boxI fb (fdC S.c key (mvL 96 fb) 0 g h l0) :: boxI g ps :: LT S R) w) ∨
    (F.on = true ∧ F.lv < h ∧ ∃ g ps a D b1 b2 nx, ps.length = h ∧ ps[F.lv]? = some (.pointer (some ⟨a, 0, none⟩)) ∧ (∀ l, F.lv < l → l < h → ps[l]? = some (.pointer (some ⟨(D l).1, 0, none⟩))) ∧ (s = 0 → nx = cvP b1 b2) ∧
      LaneR w0 (boxI b1 [mvL 181 a] :: boxI b2 [mvL 189 fb] :: boxI fb (fdC S.c key nx s g h F.lv) :: boxI g ps :: (dnL S.c key F.L D F.lv (h - 1 - F.lv) ++ R)) a F.lv key false S s (F.L F.lv) w))
/-- All of a thread and its world behind a Find's step. -/
def downS (key : Int) (S : ST) (F : Fm) (G : Nat → Prop) : ST := if F.on then laneS F.lv key false S (F.L F.lv) G else { S with ce := epI (S.f (1, 0, 0)), qc := { S.qc with l := wrap64 (S.qc.l + 1) } }

section
variable {w0 w : World} {R L : List Item} {fb g h c : Nat} {S : ST} {key : Int} {ps : List Value} {l0 : Int} {F : Fm} {nx : Value} {st : Int}
set_option maxHeartbeats 800000 in
theorem stepMv_f (X : Nat) (u : Value) (hx : ∀ (ar : Array Value) (v : World), (callFunc X ar).run Tryz.prog v = .ok (.enter X ar) v) (Q : Ending → World → Prop)
    (hE : Env w0 (boxI fb (fdC c key (mvL X fb) 0 g h l0) :: L) w)
    (hc : Calls Tryz.prog X #[.pointer (some ⟨fb, 0, none⟩), u] w fun e w' => ∃ s, e = .returned (.int .i64 s) ∧ Q (.returned (.int .i64 s)) w') :
    Calls Tryz.prog 46 #[.pointer (some ⟨fb, 0, none⟩), u] w Q := by
  have HST := Lib.hid (stepMv_r (o := 2) X hx (.pointer (some ⟨fb, 0, none⟩)) u (fun e w' => ∃ s, e = .returned (.int .i64 s) ∧ Q (.returned (.int .i64 s)) w') (hE.rule 0 rfl 2) (hE.rule 0 rfl 3) (hc.mono fun e w' ⟨s, he, hq⟩ => ⟨s, he, s, rfl, hq⟩))
  clear hc hE
  go_enter Tryz.func46, Tryz.ntmps46
  go_wp2_with fail
  refine HST.out.mono ?_
  rintro e w1 ⟨s, rfl, hQ⟩
  go_wp2_with fail
  exact hQ
set_option maxHeartbeats 800000 in
theorem stepP_f (a b1 b2 : Nat) (u : Value) (Q : Int → World → Prop)
    (hE : Env w0 (boxI fb (fdC c key (cvP b1 b2) 0 g h l0) :: boxI b1 [mvL 181 a] :: L) w)
    (hc : Calls Tryz.prog 181 #[.pointer (some ⟨a, 0, none⟩), u] w fun e w1 => ∃ s, e = .returned (.int .i64 s) ∧ (s = 0 → Q 0 w1) ∧ (s ≠ 0 → w1.cell? ⟨b2, 0, none⟩ = some (mvL 189 fb) ∧ Calls Tryz.prog 189 #[.pointer (some ⟨fb, 0, none⟩), .int .i64 s] w1 fun e2 w2 => ∃ s2, e2 = .returned (.int .i64 s2) ∧ Q s2 w2)) :
    Calls Tryz.prog 46 #[.pointer (some ⟨fb, 0, none⟩), u] w fun e w' => ∃ s, e = .returned (.int .i64 s) ∧ Q s w' := by
  have HST := Lib.hid (stepP_r (o := 2) 181 (fun _ _ => by kernel_rfl) (.pointer (some ⟨a, 0, none⟩)) u (.pointer (some ⟨fb, 0, none⟩)) 189 (fun _ _ => by kernel_rfl) b1 b2 Q (hE.rule 0 rfl 2) (hE.rule 0 rfl 3) (hE.rule 1 rfl 0) hc)
  clear hc hE
  go_enter Tryz.func46, Tryz.ntmps46
  go_wp2_with fail
  refine HST.out.mono ?_
  rintro e w1 ⟨s, rfl, hQ⟩
  go_wp2_with fail
  go_ret
  exact ⟨s, rfl, hQ⟩

set_option maxHeartbeats 3200000 in
theorem check_f (t : Nat) (hh2 : t + 1 ≤ 1000) (hps : ps.length = t + 1) (hE : Env w0 (boxI fb (fdC S.c key nx st g (t + 1) l0) :: boxI g ps :: LT S R) w) :
    Calls Tryz.prog 96 #[.pointer (some ⟨fb, 0, none⟩), .iface 26 (.pointer (some ⟨S.p, 0, none⟩))] w fun o w' => o = .returned (.int .i64 0) ∧ ∃ b1 b2 a, Env w0 (boxI b1 [mvL 181 a] :: boxI b2 [mvL 189 fb] :: boxI a (laneC S.c t key false (mvL 216 a) 0 4 0 t 0 0 0 0 false 0) :: boxI fb (fdC S.c key (cvP b1 b2) st g (t + 1) t) :: boxI g (ps.set t (.pointer (some ⟨a, 0, none⟩))) :: LT { S with ce := epI (S.f (1, 0, 0)), qc := { S.qc with l := wrap64 (S.qc.l + 1) } } R) w' := by
  have hc := check_w _ (rfl : S.f (1, 0, 0) = S.f (1, 0, 0)) 2 4 5 (by decide) (by decide) hE rfl rfl rfl
  simp only [List.set_cons_succ, List.set_cons_zero] at hc
  have HC := Lib.hid hc
  have hw1 : wrap64 ((t : Int) + 1 - 1) = (t : Int) := by rw [w64 _ (by omega)]; omega
  have hw2 : wrap64 (((t + 1 : Nat) : Int) - 1) = (t : Int) := by rw [w64 _ (by omega)]; omega
  have hw3 : wrap64 (t : Int) = (t : Int) := w64 _ (by omega)
  clear hc
  have r := hE.rule 0 rfl
  unfold fdC at r
  go_enter Tryz.func96, Tryz.ntmps96
  go_wp2_with fail
  refine HC.out.mono ?_
  rintro o w1 ⟨rfl, hE1⟩
  replace hE1 : Env w0 (boxI fb (fdC S.c key nx st g (t + 1) l0) :: boxI g ps :: LT { S with ce := epI (S.f (1, 0, 0)), qc := { S.qc with l := wrap64 (S.qc.l + 1) } } R) w1 := hE1
  clear HC hE r
  generalize hS1 : ({ S with ce := epI (S.f (1, 0, 0)), qc := { S.qc with l := wrap64 (S.qc.l + 1) } } : ST) = S1 at *
  have HS1 := Lib.hid hS1
  clear hS1
  have r := hE1.rule 0 rfl
  unfold fdC at r
  go_wp2_with fail
  refine (root_any _ _).mono ?_
  rintro o w2 ⟨rfl, hb⟩
  replace hE1 := hE1.over hb
  clear hb r
  go_wp2_with fail
  refine (along_f t (by omega) hh2 hps 4 0 t hE1).mono ?_
  rintro o w3 ⟨rfl, b1, b2, a, hE3⟩
  go_wp2_with fail
  go_ret
  have h9 := HS1.out
  subst h9
  exact ⟨rfl, b1, b2, a, hE3⟩
set_option maxHeartbeats 1600000 in
theorem endedAgain_f (hE : Env w0 (boxI fb (fdC c key nx st g h l0) :: L) w) :
    Calls Tryz.prog 189 #[.pointer (some ⟨fb, 0, none⟩), .int .i64 2] w fun o w' => o = .returned (.int .i64 0) ∧ Env w0 (boxI fb (fdC c key (mvL 96 fb) st g h l0) :: L) w' := by
  have hmf := makeF
  have HGO := Lib.hid (goOn_r (o := 2) 0 (.func 96) #[.pointer (some ⟨fb, 0, none⟩)] #[] (by simp [fdC]) hE rfl)
  clear hE
  go_enter Tryz.func189, Tryz.ntmps189
  go_wp2_with fail
  refine HGO.out.mono ?_
  rintro o w1 ⟨rfl, hE1⟩
  go_wp2_with fail
  go_ret
  exact ⟨rfl, hE1⟩
set_option maxHeartbeats 1600000 in
theorem endedDone_f (hE : Env w0 (boxI fb (fdC c key nx st g h 0) :: L) w) :
    Calls Tryz.prog 189 #[.pointer (some ⟨fb, 0, none⟩), .int .i64 1] w fun o w' => o = .returned (.int .i64 1) ∧ Env w0 (boxI fb (fdC c key nx 1 g h 0) :: L) w' := by
  have HEN := Lib.hid (end_r (o := 2) 0 1 (by simp [fdC]) hE rfl)
  have r := hE.rule 0 rfl
  unfold fdC at r
  clear hE
  go_enter Tryz.func189, Tryz.ntmps189
  go_wp2_with fail
  refine HEN.out.mono ?_
  rintro o w1 ⟨rfl, hE1⟩
  go_wp2_with fail
  go_ret
  exact ⟨rfl, hE1⟩
set_option maxHeartbeats 3200000 in
theorem endedDown_f (t : Nat) (hlt : t + 1 < h) (hh : h ≤ 1000) (hps : ps.length = h) (a : Nat) (lx : Value) (x y z W C X wd : Int) (pf : Bool) (pv : Int) (hA : AtOk ((t + 1 : Nat) : Int) (x, y, z)) (hga : ps[t + 1]? = some (.pointer (some ⟨a, 0, none⟩))) (i : Nat) (hi : L[i]? = some (boxI a (laneC c ((t + 1 : Nat) : Int) key false lx 1 x y z W C X wd pf pv))) (hE : Env w0 (boxI fb (fdC c key nx st g h ((t + 1 : Nat) : Int)) :: boxI g ps :: L) w) :
    Calls Tryz.prog 189 #[.pointer (some ⟨fb, 0, none⟩), .int .i64 1] w fun o w' => o = .returned (.int .i64 0) ∧ ∃ b1 b2 a2, Env w0 (boxI b1 [mvL 181 a2] :: boxI b2 [mvL 189 fb] :: boxI a2 (laneC c t key false (mvL 216 a2) 0 x y (z - 1) 0 0 0 0 false 0) :: boxI fb (fdC c key (cvP b1 b2) st g h t) :: boxI g (ps.set t (.pointer (some ⟨a2, 0, none⟩))) :: L) w' := by
  have HB : Hid (∀ v, Env w0 (boxI fb (fdC c key nx st g h ((t + 1 : Nat) : Int)) :: boxI g ps :: L) v → Calls Tryz.prog 217 #[.pointer (some ⟨fb, 0, none⟩)] v fun o w' => o = .returned (.agg #[.int .i64 x, .int .i64 y, .int .i64 (z - 1), .int .i64 0]) ∧ Env w0 (boxI fb (fdC c key nx st g h ((t + 1 : Nat) : Int)) :: boxI g ps :: L) w') := Lib.hid fun v hv => by
    rcases hA with e | ⟨sl, -, -, e⟩
    · simp only [Prod.mk.injEq] at e
      obtain ⟨rfl, rfl, rfl⟩ := e
      exact belowRoot_f (t + 1) (by omega) hlt hh hga i hi hv
    · simp only [Prod.mk.injEq] at e
      obtain ⟨rfl, rfl, rfl⟩ := e
      exact belowLink_f (t + 1) (by omega) hlt hh y hga i hi hv
  have HAL : Hid (∀ v, Env w0 (boxI fb (fdC c key nx st g h ((t + 1 : Nat) : Int)) :: boxI g ps :: L) v → _) := Lib.hid fun v hv => along_f t (show t < h by omega) hh hps x y (z - 1) hv
  have hw1 : IntKind.i64.wrap ((t : Int) + 1 - 1) = (t : Int) := by rw [wrap_i, w64 _ (by omega)]; omega
  have hw2 : IntKind.i64.wrap (((t + 1 : Nat) : Int) - 1) = (t : Int) := by rw [wrap_i, w64 _ (by omega)]; omega
  have hw3 : IntKind.i64.wrap (t : Int) = (t : Int) := by rw [wrap_i, w64 _ (by omega)]
  have hne : (((t + 1 : Nat) : Int) == 0) = false := by simp; omega
  have hne2 : ((t : Int) + 1 == 0) = false := by simp; omega
  have HE := Lib.hid hE
  have r := hE.rule 0 rfl
  unfold fdC at r
  obtain ⟨zz, hzz⟩ : ∃ zz, z - 1 = zz := ⟨_, rfl⟩
  simp only [hzz] at HB HAL ⊢
  clear hE hi hga hA hzz
  go_enter Tryz.func189, Tryz.ntmps189
  go_wp2_with fail
  refine Ord.wp_chain2 [7, 8] (fun _ => True) (fun k w' => if k ≤ 1 then Env w0 (boxI fb (fdC c key nx st g h ((t + 1 : Nat) : Int)) :: boxI g ps :: L) w' else ∃ b1 b2 a2, Env w0 (boxI b1 [mvL 181 a2] :: boxI b2 [mvL 189 fb] :: boxI a2 (laneC c t key false (mvL 216 a2) 0 x y zz 0 0 0 0 false 0) :: boxI fb (fdC c key (cvP b1 b2) st g h t) :: boxI g (ps.set t (.pointer (some ⟨a2, 0, none⟩))) :: L) w') (by kernel_rfl) (by kernel_rfl) (by kernel_rfl) trivial HE.out.drew (fun hT => ?_)
  have hT9 := Lib.hid hT
  clear hT
  repeat (refine Ord.ch2_value (v := ?_) hT9.out (by decide) (by rfl) ?_ ?_; rotate_left; (focus (intro w5 hS; skip; go_simp <;> with_reducible rfl)); (try simp only [Act.put, List.setIfInBounds_toArray, List.set_cons_zero, List.set_cons_succ]))
  refine Ord.ch2_earlyp 1 [5, 4] hT9.out (by decide) (by rfl) (by kernel_rfl) (by rfl) (by decide) (by rfl) (v := .int .i64 ((t : Int) + 1)) ?_ ?_
  · intro w5 j hj _ hA
    rw [if_pos hj] at hA
    have r := hA.rule 0 rfl
    unfold fdC at r
    go_simp <;> with_reducible rfl
  (try simp only [Act.put, List.setIfInBounds_toArray, List.set_cons_zero, List.set_cons_succ])
  repeat (refine Ord.ch2_value (v := ?_) hT9.out (by decide) (by rfl) ?_ ?_; rotate_left; (focus (intro w5 hS; skip; go_simp <;> with_reducible rfl)); (try simp only [Act.put, List.setIfInBounds_toArray, List.set_cons_zero, List.set_cons_succ]))
  refine Ord.ch2_turn 0 hT9.out (by rfl) (by decide) (Or.inl rfl) (by rfl) (v := .agg #[.int .i64 x, .int .i64 y, .int .i64 zz, .int .i64 0]) ?_ ?_
  · intro w5 _ hA
    rw [if_pos (by decide)] at hA
    go_simp
    simp only [Ord.LandsIn]
    refine (HB.out _ hA).mono ?_
    rintro o w6 ⟨rfl, hE6⟩
    exact ⟨rfl, hE6⟩
  (try simp only [Act.put, List.setIfInBounds_toArray, List.set_cons_zero, List.set_cons_succ])
  repeat (refine Ord.ch2_value (v := ?_) hT9.out (by decide) (by rfl) ?_ ?_; rotate_left; (focus (intro w5 hS; skip; go_simp <;> with_reducible rfl)); (try simp only [Act.put, List.setIfInBounds_toArray, List.set_cons_zero, List.set_cons_succ]))
  refine Ord.ch2_turn 1 hT9.out (by rfl) (by decide) (Or.inr ⟨_, rfl, by kernel_rfl⟩) (by rfl) (v := .int .i64 0) ?_ ?_
  · intro w5 _ hA
    rw [if_pos (by decide)] at hA
    go_simp
    simp only [Ord.LandsIn]
    refine (HAL.out _ hA).mono ?_
    rintro o w6 ⟨rfl, b1, b2, a2, hE6⟩
    exact ⟨rfl, b1, b2, a2, hE6⟩
  (try simp only [Act.put, List.setIfInBounds_toArray, List.set_cons_zero, List.set_cons_succ])
  repeat (refine Ord.ch2_value (v := ?_) hT9.out (by decide) (by rfl) ?_ ?_; rotate_left; (focus (intro w5 hS; skip; go_simp <;> with_reducible rfl)); (try simp only [Act.put, List.setIfInBounds_toArray, List.set_cons_zero, List.set_cons_succ]))
  refine Ord.InText.nil fun w5 hS => ?_
  clear hT9
  obtain ⟨hC, hA⟩ := Ord.chain2_end hS
  clear hS
  rw [if_neg (by decide)] at hA
  obtain ⟨b1, b2, a2, hA⟩ := hA
  clear hC HB HAL HE r
  go_wp2_with fail
  go_ret
  exact ⟨rfl, b1, b2, a2, hA⟩
end

section
variable {w0 w : World} {R : List Item} {fb h : Nat} {S : ST} {key : Int} {F : Fm}
set_option maxHeartbeats 3200000 in
theorem down_l (hh : 1 ≤ h) (hh2 : h ≤ 1000) (hF : FmOk h F) (hg : Glo w0) (hm : S.m < maxLen) (hR : FindR w0 R fb h key S 0 F w) :
    Calls Tryz.prog 46 #[.pointer (some ⟨fb, 0, none⟩), .iface 26 (.pointer (some ⟨S.p, 0, none⟩))] w fun o w' => ∃ s, o = .returned (.int .i64 s) ∧ s = (downM h key F S.f).1 ∧ ∃ G', FindR w0 R fb h key (downS key S F G') s (downM h key F S.f).2.1 w' := by
  obtain ⟨he, hr, ⟨hoff, -, g, ps, l0, hps, hE⟩ | ⟨hon, hlt, g, ps, a, D, b1, b2, nx, hps, hpa, hpd, hnx, hL⟩⟩ := hR
  · obtain ⟨t, rfl⟩ : ∃ t, h = t + 1 := ⟨h - 1, by omega⟩
    have hM : downM (t + 1) key F S.f = (0, { F with on := true, lv := t, L := setN F.L t (L0 (4, 0, (t : Int))), e := epI (S.f (1, 0, 0)) }, S.f) := by unfold downM; rw [hoff]; rfl
    have hS : ∀ G, downS key S F G = { S with ce := epI (S.f (1, 0, 0)), qc := { S.qc with l := wrap64 (S.qc.l + 1) } } := fun G => by unfold downS; rw [hoff]; rfl
    rw [hM]
    refine (stepMv_f 96 _ (fun _ _ => by kernel_rfl) _ hE ((check_f t hh2 hps hE).mono ?_))
    rintro o w1 ⟨rfl, b1, b2, a, hE1⟩
    refine ⟨0, rfl, 0, rfl, rfl, S.G, ?_⟩
    rw [hS]
    refine ⟨rfl, hr, .inr ⟨rfl, Nat.lt_succ_self t, g, ps.set t (.pointer (some ⟨a, 0, none⟩)), a, fun _ => (0, undef, 0), b1, b2, cvP b1 b2, by rw [List.length_set]; exact hps, by show (ps.set t _)[t]? = _; rw [List.getElem?_set_self (by omega)], fun l h1 h2 => ?_, fun _ => rfl, ?_⟩⟩
    · exact absurd h2 (by have : t < l := h1; omega)
    · refine ⟨mvL (fnL 0) a, 0, noI, noI, fun _ => ?_, ?_⟩
      · have e9 : (setN F.L t (L0 (4, 0, (t : Int))) t) = L0 (4, 0, (t : Int)) := setN_same _ _ _
        show NxOk a (setN F.L t _ t).pc _ _ _ ∧ ((setN F.L t _ t).pc = 7 → _) ∧ ((setN F.L t _ t).pc = 9 → _)
        rw [e9]
        exact ⟨⟨fun _ => rfl, fun h => absurd h (by simp [L0, isVal])⟩, fun h => absurd h (by simp [L0]), fun h => absurd h (by simp [L0])⟩
      · have e9 : (setN F.L t (L0 (4, 0, (t : Int))) t) = L0 (4, 0, (t : Int)) := setN_same _ _ _
        show Env w0 (boxI a (laneV S.c t key false (mvL (fnL 0) a) 0 0 (pfS 0 (setN F.L t (L0 (4, 0, (t : Int))) t)) (pvS 0 (setN F.L t (L0 (4, 0, (t : Int))) t)) (setN F.L t (L0 (4, 0, (t : Int))) t)) :: noI :: noI :: LT _ (boxI b1 _ :: boxI b2 _ :: boxI fb (fdC S.c key (cvP b1 b2) 0 g (t + 1) t) :: boxI g _ :: (dnL _ _ _ _ t (t + 1 - 1 - t) ++ R))) w1
        rw [e9, show t + 1 - 1 - t = 0 by omega]
        have hE2 : Env w0 (boxI b1 [mvL 181 a] :: boxI b2 [mvL 189 fb] :: boxI a (laneV S.c t key false (mvL (fnL 0) a) 0 0 (pfS 0 (L0 (4, 0, (t : Int)))) (pvS 0 (L0 (4, 0, (t : Int)))) (L0 (4, 0, (t : Int)))) :: boxI fb (fdC S.c key (cvP b1 b2) 0 g (t + 1) t) :: boxI g (ps.set t (.pointer (some ⟨a, 0, none⟩))) :: LT { S with ce := epI (S.f (1, 0, 0)), qc := { S.qc with l := wrap64 (S.qc.l + 1) } } R) w1 := hE1
        refine Env.none2 (hE2.perm (perm_of fun z => ?_))
        simp only [dnL, LT, List.nil_append, List.count_cons]
        omega
  · obtain ⟨hlt', hLm, hA⟩ := hF hon
    have hlv : (0 : Int) ≤ (F.lv : Int) ∧ (F.lv : Int) ≤ 1000000 := by omega
    have hst := lane_l hLm hlv (hA.wf (by omega)) hg hm hL
    have hsl := lane_state F.lv key false S.ce (F.L F.lv) S.f
    have hat : AtOk F.lv (laneM F.lv key false S.ce (F.L F.lv) S.f).2.1.p := hA.lane hLm.C
    have hM : downM h key F S.f = (if (laneM F.lv key false S.ce (F.L F.lv) S.f).1 = 1 ∧ F.lv = 0 then 1 else 0,
      (if (laneM F.lv key false S.ce (F.L F.lv) S.f).1 = 2 then { F with on := false, r := rollM S.ce (F.L F.lv) S.f S.cr }
        else if (laneM F.lv key false S.ce (F.L F.lv) S.f).1 = 1 ∧ F.lv ≠ 0 then
          { F with lv := F.lv - 1, L := setN (setN F.L F.lv (laneM F.lv key false S.ce (F.L F.lv) S.f).2.1) (F.lv - 1) (L0 (belowP (laneM F.lv key false S.ce (F.L F.lv) S.f).2.1.p)), r := rollM S.ce (F.L F.lv) S.f S.cr }
        else { F with L := setN F.L F.lv (laneM F.lv key false S.ce (F.L F.lv) S.f).2.1, r := rollM S.ce (F.L F.lv) S.f S.cr }),
      (laneM F.lv key false S.ce (F.L F.lv) S.f).2.2) := by unfold downM; rw [if_pos hon, he, hr]
    have hS : ∀ G, downS key S F G = laneS F.lv key false S (F.L F.lv) G := fun G => by unfold downS; rw [if_pos hon]
    have hce : ∀ G, (laneS F.lv key false S (F.L F.lv) G).ce = S.ce ∧ (laneS F.lv key false S (F.L F.lv) G).cr = rollM S.ce (F.L F.lv) S.f S.cr ∧ (laneS F.lv key false S (F.L F.lv) G).c = S.c ∧ (laneS F.lv key false S (F.L F.lv) G).p = S.p := fun G => ⟨rfl, rfl, rfl, rfl⟩
    obtain ⟨ny, wd, B1, B2, -, hE⟩ := hL
    obtain rfl := hnx rfl
    have hE0 := hE.perm (L' := boxI fb (fdC S.c key (cvP b1 b2) 0 g h F.lv) :: boxI b1 [mvL 181 a] :: (boxI a (laneV S.c F.lv key false ny 0 wd (pfS 0 (F.L F.lv)) (pvS 0 (F.L F.lv)) (F.L F.lv)) :: B1 :: B2 :: LT S (boxI b2 [mvL 189 fb] :: boxI g ps :: (dnL S.c key F.L D F.lv (h - 1 - F.lv) ++ R)))) (perm_of fun z => by
      simp only [LT, List.count_cons, List.count_append]
      omega)
    rw [hM]
    simp only [hS]
    refine stepP_f a b1 b2 _ (fun s w' => s = _ ∧ ∃ G', FindR w0 R fb h key (laneS F.lv key false S (F.L F.lv) G') s _ w') hE0 ?_
    refine hst.mono ?_
    rintro o w1 ⟨rfl, G', hL'⟩
    obtain ⟨ce1, ce2, ce3, ce4⟩ := hce G'
    obtain ⟨S', hS'⟩ : ∃ S', laneS F.lv key false S (F.L F.lv) G' = S' := ⟨_, rfl⟩
    rw [hS'] at hL' ce1 ce2 ce3 ce4
    generalize laneM F.lv key false S.ce (F.L F.lv) S.f = q at *
    generalize rollM S.ce (F.L F.lv) S.f S.cr = ro at *
    obtain ⟨q1, Lq, fq⟩ := q
    dsimp only at hsl hat hL' ⊢
    clear hM hS hce hst hE0 hE
    refine ⟨q1, rfl, fun h0 => ?_, fun h0 => ?_⟩
    · subst h0
      rw [if_neg (by simp), if_neg (by decide), if_neg (by simp)]
      refine ⟨rfl, G', ?_⟩
      rw [hS']
      have hcg : dnL S'.c key (setN F.L F.lv Lq) D F.lv (h - 1 - F.lv) = dnL S.c key F.L D F.lv (h - 1 - F.lv) := by
        rw [ce3]
        exact dnL_congr _ _ fun l hl => ⟨setN_other _ _ (by omega), rfl⟩
      refine ⟨ce1.trans he, ce2, .inr ⟨hon, hlt, g, ps, a, D, b1, b2, cvP b1 b2, hps, hpa, hpd, fun _ => rfl, ?_⟩⟩
      show LaneR w0 (_ :: _ :: boxI fb (fdC S'.c key _ 0 g h F.lv) :: _ :: (dnL S'.c key (setN F.L F.lv Lq) D F.lv (h - 1 - F.lv) ++ R)) a F.lv key false S' 0 (setN F.L F.lv Lq F.lv) w1
      rw [hcg, setN_same, ce3]
      exact hL'
    · obtain ⟨ny2, wd2, B3, B4, -, hE'⟩ := hL'
      refine ⟨(hE'.perm (L' := boxI b2 [mvL 189 fb] :: (boxI a (laneV S'.c F.lv key false ny2 q1 wd2 (pfS q1 Lq) (pvS q1 Lq) Lq) :: B3 :: B4 :: LT S' (boxI b1 [mvL 181 a] :: boxI fb (fdC S.c key (cvP b1 b2) 0 g h F.lv) :: boxI g ps :: (dnL S.c key F.L D F.lv (h - 1 - F.lv) ++ R)))) (perm_of fun z => by
        simp only [LT, List.count_cons, List.count_append]
        omega)).rule 0 rfl 0, ?_⟩
      have hE2 := hE'.perm (L' := boxI fb (fdC S.c key (cvP b1 b2) 0 g h F.lv) :: boxI g ps :: (boxI a (laneV S'.c F.lv key false ny2 q1 wd2 (pfS q1 Lq) (pvS q1 Lq) Lq) :: B3 :: B4 :: LT S' (boxI b1 [mvL 181 a] :: boxI b2 [mvL 189 fb] :: (dnL S.c key F.L D F.lv (h - 1 - F.lv) ++ R)))) (perm_of fun z => by
        simp only [LT, List.count_cons, List.count_append]
        omega)
      clear hE'
      rcases hsl with h1 | h1 | h1
      · exact absurd h1 h0
      · subst h1
        by_cases hl0 : F.lv = 0
        · rw [hl0, show ((0 : Nat) : Int) = 0 from rfl] at hE2
          refine (endedDone_f hE2).mono ?_
          rintro o w2 ⟨rfl, hE3⟩
          refine ⟨1, rfl, ?_⟩
          rw [if_pos ⟨rfl, hl0⟩, if_neg (by decide), if_neg (fun hx => hx.2 hl0)]
          refine ⟨rfl, G', ?_⟩
          rw [hS']
          have hcg : dnL S'.c key (setN F.L F.lv Lq) D F.lv (h - 1 - F.lv) = dnL S.c key F.L D F.lv (h - 1 - F.lv) := by
            rw [ce3]
            exact dnL_congr _ _ fun l hl => ⟨setN_other _ _ (by omega), rfl⟩
          refine ⟨ce1.trans he, ce2, .inr ⟨hon, hlt, g, ps, a, D, b1, b2, cvP b1 b2, hps, hpa, hpd, fun _ => rfl, ?_⟩⟩
          show LaneR w0 (_ :: _ :: boxI fb (fdC S'.c key _ 1 g h F.lv) :: _ :: (dnL S'.c key (setN F.L F.lv Lq) D F.lv (h - 1 - F.lv) ++ R)) a F.lv key false S' 1 (setN F.L F.lv Lq F.lv) w2
          rw [hcg, setN_same, ce3, hl0, show ((0 : Nat) : Int) = 0 from rfl]
          refine ⟨ny2, wd2, B3, B4, fun hx => absurd hx (by decide), hE3.perm (perm_of fun z => ?_)⟩
          simp only [LT, List.count_cons, List.count_append, hl0]
          omega
        · obtain ⟨t, ht⟩ : ∃ t, F.lv = t + 1 := ⟨F.lv - 1, by omega⟩
          rw [ht] at hE2 hat hlt hpa
          refine (endedDown_f t hlt hh2 hps a ny2 Lq.p.1 Lq.p.2.1 Lq.p.2.2 Lq.W Lq.C Lq.X wd2 (pfS 1 Lq) (pvS 1 Lq) hat hpa 0 (by rw [ce3]; rfl) hE2).mono ?_
          rintro o w2 ⟨rfl, b3, b4, a2, hE3⟩
          refine ⟨0, rfl, ?_⟩
          rw [if_neg (fun hx => hl0 hx.2), if_neg (by decide), if_pos ⟨rfl, hl0⟩]
          refine ⟨rfl, G', ?_⟩
          rw [hS']
          have ht1 : F.lv - 1 = t := by omega
          have hcg : dnL S'.c key (setN (setN F.L F.lv Lq) t (L0 (belowP Lq.p))) (setN D (t + 1) (a, ny2, wd2)) t (h - 1 - t) = boxI a (laneV S'.c ((t + 1 : Nat) : Int) key false ny2 1 wd2 (pfS 1 Lq) (pvS 1 Lq) Lq) :: dnL S.c key F.L D F.lv (h - 1 - F.lv) := by
            rw [show h - 1 - t = (h - 1 - F.lv) + 1 by omega]
            show dnI _ _ _ _ (t + 1) :: dnL _ _ _ _ (t + 1) _ = _
            rw [← ht, ce3]
            congr 1
            · unfold dnI
              rw [setN_same, setN_other _ _ (show F.lv ≠ t by omega), setN_same]
            · exact dnL_congr _ _ fun l hl => ⟨by rw [setN_other _ _ (show l ≠ t by omega), setN_other _ _ (show l ≠ F.lv by omega)], setN_other _ _ (show l ≠ F.lv by omega)⟩
          refine ⟨ce1.trans he, ce2, .inr ⟨hon, ?_, g, ps.set t (.pointer (some ⟨a2, 0, none⟩)), a2, setN D (t + 1) (a, ny2, wd2), b3, b4, cvP b3 b4, by rw [List.length_set]; exact hps, ?_, ?_, fun _ => rfl, ?_⟩⟩
          · show F.lv - 1 < h
            omega
          · show (ps.set t _)[F.lv - 1]? = _
            rw [ht1, List.getElem?_set_self (by omega)]
          · show ∀ l, F.lv - 1 < l → l < h → (ps.set t _)[l]? = _
            rw [ht1]
            intro l hl1 hl2
            rw [List.getElem?_set_ne (by omega)]
            by_cases hlt1 : l = t + 1
            · subst hlt1
              rw [setN_same]
              exact hpa
            · rw [setN_other _ _ hlt1]
              exact hpd l (by omega) hl2
          · show LaneR w0 (_ :: _ :: boxI fb (fdC S'.c key _ 0 g h ((F.lv - 1 : Nat) : Int)) :: _ :: (dnL S'.c key (setN (setN F.L F.lv Lq) (F.lv - 1) (L0 (belowP Lq.p))) (setN D (t + 1) (a, ny2, wd2)) (F.lv - 1) (h - 1 - (F.lv - 1)) ++ R)) a2 ((F.lv - 1 : Nat) : Int) key false S' 0 (setN (setN F.L F.lv Lq) (F.lv - 1) (L0 (belowP Lq.p)) (F.lv - 1)) w2
            rw [ht1, hcg, setN_same]
            refine ⟨mvL (fnL 0) a2, 0, noI, noI, fun _ => ⟨⟨fun _ => rfl, fun h => absurd h (by simp [L0, isVal])⟩, fun h => absurd h (by simp [L0]), fun h => absurd h (by simp [L0])⟩, ?_⟩
            have hE4 : Env w0 (boxI b3 [mvL 181 a2] :: boxI b4 [mvL 189 fb] :: boxI a2 (laneV S'.c t key false (mvL (fnL 0) a2) 0 0 (pfS 0 (L0 (belowP Lq.p))) (pvS 0 (L0 (belowP Lq.p))) (L0 (belowP Lq.p))) :: boxI fb (fdC S'.c key (cvP b3 b4) 0 g h t) :: boxI g (ps.set t (.pointer (some ⟨a2, 0, none⟩))) :: (boxI a (laneV S'.c ((t + 1 : Nat) : Int) key false ny2 1 wd2 (pfS 1 Lq) (pvS 1 Lq) Lq) :: LT S' (dnL S.c key F.L D F.lv (h - 1 - F.lv) ++ R))) w2 := by
              have h9 := hE3.perm (L' := (boxI b3 [mvL 181 a2] :: boxI b4 [mvL 189 fb] :: boxI a2 (laneC S.c t key false (mvL 216 a2) 0 Lq.p.1 Lq.p.2.1 (Lq.p.2.2 - 1) 0 0 0 0 false 0) :: boxI fb (fdC S.c key (cvP b3 b4) 0 g h t) :: boxI g (ps.set t (.pointer (some ⟨a2, 0, none⟩))) :: (boxI a (laneV S'.c ((t + 1 : Nat) : Int) key false ny2 1 wd2 (pfS 1 Lq) (pvS 1 Lq) Lq) :: LT S' (dnL S.c key F.L D (t + 1) (h - 1 - (t + 1)) ++ R))) ++ [B3, B4, boxI b1 [mvL 181 a], boxI b2 [mvL 189 fb]]) (perm_of fun z => by
                simp only [LT, List.count_cons, List.count_append, List.count_nil, List.cons_append]
                omega)
              rw [ht, ce3]
              rw [ce3] at h9
              exact h9.sub (List.sublist_append_left _ _)
            refine Env.none2 (hE4.perm (perm_of fun z => ?_))
            simp only [LT, List.count_cons, List.count_append]
            omega
      · subst h1
        refine (endedAgain_f hE2).mono ?_
        rintro o w2 ⟨rfl, hE3⟩
        refine ⟨0, rfl, ?_⟩
        rw [if_neg (fun hx => absurd hx.1 (by decide)), if_pos rfl]
        refine ⟨rfl, G', ?_⟩
        rw [hS']
        refine ⟨ce1.trans he, ce2, .inl ⟨rfl, rfl, g, ps, F.lv, hps, ?_⟩⟩
        rw [ce3]
        have h9 := hE3.perm (L' := (boxI fb (fdC S.c key (mvL 96 fb) 0 g h F.lv) :: boxI g ps :: LT S' R) ++ (boxI a (laneV S'.c F.lv key false ny2 2 wd2 (pfS 2 Lq) (pvS 2 Lq) Lq) :: B3 :: B4 :: boxI b1 [mvL 181 a] :: boxI b2 [mvL 189 fb] :: dnL S.c key F.L D F.lv (h - 1 - F.lv))) (perm_of fun z => by
          simp only [LT, List.count_cons, List.count_append, List.cons_append]
          omega)
        exact h9.sub (List.sublist_append_left _ _)
end
end Go.Proofs.YtnnjanaclgjneaaGreatDoor

/- Lanes that are nil: what they tell. -/
namespace Go.Proofs.YtnnjanaclgjneaaGreatDoor
open Go.RowKit Go.Maps
set_option maxRecDepth 100000

theorem foundNil_l (w : World) : Calls Tryz.prog 105 #[.pointer none] w fun o w' => o = .returned (.bool false) ∧ w' = w := by
  go_enter Tryz.func105, Tryz.ntmps105
  go_wp2
  go_ret
  exact ⟨rfl, rfl⟩
theorem whoNil_l (w : World) : Calls Tryz.prog 101 #[.pointer none] w fun o w' => o = .returned (.agg #[.int .i64 0, .int .i64 0]) ∧ Below w.heap.size w w' := by
  go_enter Tryz.func101, Tryz.ntmps101
  go_wp2
  exact bodyPost_ret (v := .agg #[.int .i64 0, .int .i64 0]) (by simp [results, Tryz.results101, go_sem]) rfl ⟨rfl, (Below.refl _ _).alloc (Nat.le_refl _) _⟩
theorem atNil_l (w : World) : Calls Tryz.prog 103 #[.pointer none] w fun o w' => o = .returned (.agg #[.int .i64 0, .int .i64 0, .int .i64 0, .int .i64 0]) ∧ Below w.heap.size w w' := by
  go_enter Tryz.func103, Tryz.ntmps103
  go_wp2
  exact bodyPost_ret (v := .agg #[.int .i64 0, .int .i64 0, .int .i64 0, .int .i64 0]) (by simp [results, Tryz.results103, go_sem]) rfl ⟨rfl, (Below.refl _ _).alloc (Nat.le_refl _) _⟩
theorem intoNil_l (w : World) : Calls Tryz.prog 104 #[.pointer none] w fun o w' => o = .returned (.agg #[.int .u64 0, .int .i64 0, .bool false]) ∧ Below w.heap.size w w' := by
  go_enter Tryz.func104, Tryz.ntmps104
  go_wp2
  exact bodyPost_ret (v := .agg #[.int .u64 0, .int .i64 0, .bool false]) (by simp [results, Tryz.results104, go_sem]) rfl ⟨rfl, (Below.refl _ _).alloc (Nat.le_refl _) _⟩
theorem outNil_l (w : World) : Calls Tryz.prog 102 #[.pointer none] w fun o w' => o = .returned (.agg #[.int .u64 0, .int .i64 0, .bool false]) ∧ Below w.heap.size w w' := by
  go_enter Tryz.func102, Tryz.ntmps102
  go_wp2
  exact bodyPost_ret (v := .agg #[.int .u64 0, .int .i64 0, .bool false]) (by simp [results, Tryz.results102, go_sem]) rfl ⟨rfl, (Below.refl _ _).alloc (Nat.le_refl _) _⟩
end Go.Proofs.YtnnjanaclgjneaaGreatDoor

/- Threads: what they are in memory; contracts of what they tell. -/
namespace Go.Proofs.YtnnjanaclgjneaaGreatDoor
open Go.RowKit Go.Maps
set_option maxRecDepth 100000

section
variable {w : World} {c q : Nat} {k s b h l e r hs hi : Int}
set_option maxHeartbeats 800000 in
theorem conf_c (hb : Blk 0 w c (crv k s b h l e r hs hi q)) : Calls Tryz.prog 90 #[.pointer (some ⟨c, 0, none⟩)] w fun o w' => o = .returned (.agg #[.int .i64 k, .int .i64 s, .int .i64 b, .int .i64 h, .int .i64 l]) ∧ Below w.heap.size w w' := by
  have r1 := cell_more hb.1 hb.rule
  unfold crv at r1
  go_enter Tryz.func90, Tryz.ntmps90
  go_wp2
  refine bodyPost_ret (v := .agg #[.int .i64 k, .int .i64 s, .int .i64 b, .int .i64 h, .int .i64 l]) (by simp [results, Tryz.results90, go_sem]) rfl ⟨rfl, ?_⟩
  exact (Below.refl _ _).alloc (Nat.le_refl _) _
end
end Go.Proofs.YtnnjanaclgjneaaGreatDoor

/- make([]int, n): one new block of n zeros; how many of a row are of a kind, step by step. General. -/
namespace Go.Proofs.YtnnjanaclgjneaaGreatDoor
open Go.RowKit
set_option maxRecDepth 100000

theorem madeI (z : Value) (hz : z.cells = #[z]) (n : Nat) : madeCells z.cells (n * 1) = (List.replicate n z).toArray := by
  apply Array.ext
  · simp [size_madeCells]
  · intro i h1 h2
    simp only [madeCells, hz, Array.getElem_map, Array.getElem_range, List.getElem_toArray, List.getElem_replicate, List.size_toArray, List.length_cons, List.length_nil]
    simp [Nat.mod_one]
theorem run_makeI {P : Program} (z : Value) (hz : z.cells = #[z]) (t e : TypeId) (ht : P.underlying t = some (.slice e)) (hinfo : (P.info? e).map (fun i => (i.zero, i.size, i.bytes)) = some (some z, 1, 8))
    (kl kc : IntKind) (n : Nat) (hn : n ≤ 1099511627776) (w : World) :
    (Instr.makeSlice t (.int kl (n : Int)) (.int kc (n : Int))).run P w = .ok (.slice (some ⟨w.heap.size, 0, none⟩) n n) (w.alloc (.cells (List.replicate n z).toArray e)) := by
  obtain ⟨i, hi, hzz⟩ := Option.map_eq_some_iff.1 hinfo
  simp only [Prod.mk.injEq] at hzz
  obtain ⟨hz0, hs, hb⟩ := hzz
  have hr := run_make (P := P) w t e i z ht hi hz0 kl kc n n (by omega) (Int.le_refl _) (by rw [hb]; omega) (by omega)
  simp only [Int.toNat_natCast, hs, madeI z hz] at hr
  exact hr
theorem wpList_makeI {P : Program} (w : World) {ops : Array Oper} {rest : List Oper} {o : Oper} {a : Act} {Q : Exit → Act → World → Prop}
    (hg : o.guard = none) (l c : Operand) (t : TypeId) (hop : o.op = Op.makeSlice t l c) (z : Value) (hz : z.cells = #[z])
    (e : TypeId) (ht : P.underlying t = some (.slice e)) (hinfo : (P.info? e).map (fun i => (i.zero, i.size, i.bytes)) = some (some z, 1, 8))
    (kl kc : IntKind) (N M : Int) (n : Nat) (hl : a.eval l = .int kl N) (hc : a.eval c = .int kc M) (hN : N = (n : Int)) (hM : M = (n : Int)) (hn : n ≤ 1099511627776)
    (hK : wpList P ops Q rest (a.put o.dst (.slice (some ⟨w.heap.size, 0, none⟩) n n)) (w.alloc (.cells (List.replicate n z).toArray e))) :
    wpList P ops Q (o :: rest) a w := by
  refine wpList_plain hg fun K hK' => ?_
  subst hN
  subst hM
  have hrun := run_makeI (P := P) z hz t e ht hinfo kl kc n hn w
  unfold Oper.wp
  simp [execOp, hop, hl, hc, hrun, Result.andThen]
  exact hK' _ _ hK

/-- How many of a row are sent to i. -/
def howM (f : Int → Int) (zs : List Int) (i : Int) : Nat := zs.countP fun z => decide (f z = i)
theorem howM_le (f : Int → Int) (zs : List Int) (i : Int) : howM f zs i ≤ zs.length := List.countP_le_length
theorem howM_nil (f : Int → Int) (i : Int) : howM f [] i = 0 := rfl
theorem howM_step (f : Int → Int) {zs : List Int} {k : Nat} (hk : k < zs.length) (i : Int) : howM f (zs.take (k + 1)) i = howM f (zs.take k) i + if f (zs.getD k 0) = i then 1 else 0 := by
  rw [List.take_succ_eq_append_getElem hk]
  unfold howM
  rw [List.countP_append]
  have : zs.getD k 0 = zs[k] := by simp [hk]
  rw [this]
  by_cases h : f zs[k] = i <;> simp [h]
/-- .. for each i below R, as cells. -/
def howV (f : Int → Int) (zs : List Int) (R : Nat) : List Value := (List.range R).map fun (i : Nat) => .int .i64 ((howM f zs (i : Int) : Nat) : Int)
theorem howV_length (f : Int → Int) (zs : List Int) (R : Nat) : (howV f zs R).length = R := by simp [howV]
theorem howV_get (f : Int → Int) (zs : List Int) {R i : Nat} (hi : i < R) : (howV f zs R)[i]? = some (.int .i64 (howM f zs (i : Int) : Nat)) := by simp [howV, hi]
theorem howV_nil (f : Int → Int) (R : Nat) : howV f [] R = List.replicate R (.int .i64 0) := by
  apply List.ext_getElem
  · simp [howV]
  · intro i h1 h2
    simp [howV, howM_nil]
theorem howV_step (f : Int → Int) {zs : List Int} {k p R : Nat} (hk : k < zs.length) (hp : f (zs.getD k 0) = (p : Int)) : (howV f (zs.take k) R).set p (.int .i64 ((howM f (zs.take k) (p : Int) : Nat) + 1)) = howV f (zs.take (k + 1)) R := by
  apply List.ext_getElem
  · simp [howV]
  · intro i h1 h2
    rw [List.getElem_set]
    simp only [howV, List.getElem_map, List.getElem_range, howM_step f hk, hp]
    by_cases h : p = i
    · subst h
      simp
    · have : ¬ ((p : Int) = (i : Int)) := by omega
      simp [h, this]
end Go.Proofs.YtnnjanaclgjneaaGreatDoor

/- Finds: New; what they tell. -/
namespace Go.Proofs.YtnnjanaclgjneaaGreatDoor
open Go.RowKit Go.Maps
set_option maxRecDepth 100000

theorem infoLn : (Tryz.prog.info? 204).map (fun i => (i.zero, i.size, i.bytes)) = some (some (.pointer none), 1, 8) := by kernel_rfl
theorem kind_ofF (v : World) (a b c d e : Int) : (Instr.field 58 (.agg #[.int .i64 a, .int .i64 b, .int .i64 c, .int .i64 d, .int .i64 e]) 0).run Tryz.prog v = .ok (.int .i64 a) v := by kernel_rfl
theorem height_ofF (v : World) (a b c d e : Int) : (Instr.field 58 (.agg #[.int .i64 a, .int .i64 b, .int .i64 c, .int .i64 d, .int .i64 e]) 3).run Tryz.prog v = .ok (.int .i64 d) v := by kernel_rfl
section
variable {w0 w : World} {L : List Item} {c q : Nat} {k s b l e r hs hi : Int} {h : Nat}
theorem newNil_f (key : Int) (w : World) : Calls Tryz.prog 43 #[.pointer none, .int .u64 key] w fun o w' => o = .returned (.pointer none) ∧ w' = w := by
  go_enter Tryz.func43, Tryz.ntmps43
  go_wp2
  go_ret
  exact ⟨rfl, rfl⟩
set_option maxHeartbeats 1600000 in
theorem newNo_f (i : Nat) (key : Int) (hh : Int) (hk : k ≠ 3) (hm : L[i]? = some (coreI c k s b hh l e r hs hi q)) (hE : Env w0 L w) :
    Calls Tryz.prog 43 #[.pointer (some ⟨c, 0, none⟩), .int .u64 key] w fun o w' => o = .returned (.pointer none) ∧ Env w0 L w' := by
  have hko := kind_ofF
  have b1 : (k != 3) = true := by simpa using hk
  have HCF := Lib.hid (conf_c (hE.get i hm))
  clear hk hm
  go_enter Tryz.func43, Tryz.ntmps43
  go_wp2_with fail
  refine HCF.out.mono ?_
  rintro o w1 ⟨rfl, hb⟩
  go_wp2_with fail
  go_ret
  exact ⟨rfl, hE.over hb⟩
set_option maxHeartbeats 3200000 in
theorem newYes_f (i : Nat) (key : Int) (hh : h ≤ 1000) (hm : L[i]? = some (coreI c 3 s b h l e r hs hi q)) (hE : Env w0 L w) :
    Calls Tryz.prog 43 #[.pointer (some ⟨c, 0, none⟩), .int .u64 key] w fun o w' => ∃ fb g, o = .returned (.pointer (some ⟨fb, 0, none⟩)) ∧ Env w0 (boxI fb (fdC c key (mvL 96 fb) 0 g h 0) :: boxI g (List.replicate h (.pointer none)) :: L) w' := by
  have hmf := makeF
  have hko := kind_ofF
  have hho := height_ofF
  have HCF := Lib.hid fun (v : World) (hv : Env w0 L v) => conf_c (hv.get i hm)
  have hh2 : h ≤ 1099511627776 := by omega
  clear hm
  go_enter Tryz.func43, Tryz.ntmps43
  go_wp2_with fail
  refine (HCF.out _ hE).mono ?_
  rintro o w1 ⟨rfl, hb⟩
  replace hE := hE.over hb
  clear hb
  go_wp2_with fail
  refine (HCF.out _ hE).mono ?_
  rintro o w2 ⟨rfl, hb⟩
  replace hE := hE.over hb
  clear hb HCF
  go_wp2_with (first | (refine wpList_makeI _ rfl _ _ _ rfl (.pointer none) rfl 204 rfl infoLn .i64 .i64 _ _ h rfl rfl rfl rfl hh2 ?_))
  have hE1 := hE.box w2.heap.size rfl (List.replicate h (.pointer none)) 204
  have hE2 := hE1.box (w2.heap.size + 1) (by simp) (fdC c key .nilFunc 0 w2.heap.size h 0) 201
  have HGO := Lib.hid (goOn_r (o := 2) 0 (.func 96) #[.pointer (some ⟨w2.heap.size + 1, 0, none⟩)] #[] (by simp [fdC]) hE2 rfl)
  clear hE hE1 hE2
  go_wp2_with fail
  refine HGO.out.mono ?_
  rintro o w4 ⟨rfl, hE4⟩
  go_wp2_with fail
  go_ret
  exact ⟨_, _, rfl, hE4⟩
end

section
variable {w : World} {fb g h c a : Nat} {key lv : Int} {nx lx : Value} {st s x y z W C X wd pv k0 : Int} {pf : Bool}
set_option maxHeartbeats 1600000 in
theorem lane_f (k : Nat) (hk : k < h) (hh : h ≤ 1000) (lp : Option Addr) (hb : Blk 0 w fb (fdC c key nx st g h lv)) (hc : w.cell? ⟨g, k, none⟩ = some (.pointer lp)) :
    Calls Tryz.prog 100 #[.pointer (some ⟨fb, 0, none⟩), .int .i64 (k : Int)] w fun o w' => o = .returned (.pointer lp) ∧ w' = w := by
  have r := hb.rule
  unfold fdC at r
  have h1 : decide ((k : Int) < 0) = false := by simp
  have h2 : decide ((k : Int) ≥ (h : Int)) = false := by simp; omega
  have h3 : (k : Int) < (h : Int) := by omega
  have h4 : (h : Int) ≤ 1000 := by omega
  go_enter Tryz.func100, Tryz.ntmps100
  go_wp2
  go_ret
  exact ⟨rfl, rfl⟩
set_option maxHeartbeats 1600000 in
theorem laneNo_f (k : Int) (hk : k < 0 ∨ (h : Int) ≤ k) (hb : Blk 0 w fb (fdC c key nx st g h lv)) :
    Calls Tryz.prog 100 #[.pointer (some ⟨fb, 0, none⟩), .int .i64 k] w fun o w' => o = .returned (.pointer none) ∧ w' = w := by
  have r := hb.rule
  unfold fdC at r
  by_cases h0 : k < 0
  · have h1 : decide (k < 0) = true := by simpa using h0
    clear hk h0
    go_enter Tryz.func100, Tryz.ntmps100
    go_wp2
    go_ret
    exact ⟨rfl, rfl⟩
  · have h1 : decide (k < 0) = false := by simpa using h0
    have h2 : decide (k ≥ (h : Int)) = true := by simp; omega
    clear hk h0
    go_enter Tryz.func100, Tryz.ntmps100
    go_wp2
    go_ret
    exact ⟨rfl, rfl⟩
theorem laneNil_f (k : Int) (w : World) : Calls Tryz.prog 100 #[.pointer none, .int .i64 k] w fun o w' => o = .returned (.pointer none) ∧ w' = w := by
  go_enter Tryz.func100, Tryz.ntmps100
  go_wp2
  go_ret
  exact ⟨rfl, rfl⟩
end

section
variable {w : World} {p : Option Addr} {k : Int} {lp : Option Addr}
theorem foundAt_any (b : Bool) (hl : Calls Tryz.prog 100 #[.pointer p, .int .i64 k] w fun o w' => o = .returned (.pointer lp) ∧ w' = w) (hf : Calls Tryz.prog 105 #[.pointer lp] w fun o w' => o = .returned (.bool b) ∧ w' = w) :
    Calls Tryz.prog 55 #[.pointer p, .int .i64 k] w fun o w' => o = .returned (.bool b) ∧ w' = w := by
  have H1 := Lib.hid hl
  have H2 := Lib.hid hf
  clear hl hf
  go_enter Tryz.func55, Tryz.ntmps55
  go_wp2_with fail
  refine H1.out.mono ?_
  rintro o w1 ⟨rfl, rfl⟩
  go_wp2_with fail
  refine H2.out.mono ?_
  rintro o w1 ⟨rfl, rfl⟩
  go_wp2_with fail
  go_ret
  exact ⟨rfl, rfl⟩
theorem found_any (b : Bool) (hf : Calls Tryz.prog 55 #[.pointer p, .int .i64 0] w fun o w' => o = .returned (.bool b) ∧ w' = w) :
    Calls Tryz.prog 50 #[.pointer p] w fun o w' => o = .returned (.bool b) ∧ w' = w := by
  have H2 := Lib.hid hf
  clear hf
  go_enter Tryz.func50, Tryz.ntmps50
  go_wp2_with fail
  refine H2.out.mono ?_
  rintro o w1 ⟨rfl, rfl⟩
  go_wp2_with fail
  go_ret
  exact ⟨rfl, rfl⟩
set_option maxHeartbeats 1600000 in
theorem atF_any (x y z d : Int) (hl : ∀ v, Below w.heap.size w v → Calls Tryz.prog 100 #[.pointer p, .int .i64 k] v fun o w' => o = .returned (.pointer lp) ∧ w' = v) (hf : ∀ v, Below w.heap.size w v → Calls Tryz.prog 103 #[.pointer lp] v fun o w' => o = .returned (.agg #[.int .i64 x, .int .i64 y, .int .i64 z, .int .i64 d]) ∧ Below v.heap.size v w') :
    Calls Tryz.prog 53 #[.pointer p, .int .i64 k] w fun o w' => o = .returned (.agg #[.int .i64 x, .int .i64 y, .int .i64 z, .int .i64 d]) ∧ Below w.heap.size w w' := by
  have H1 := Lib.hid hl
  have H2 := Lib.hid hf
  have hE := (Env.start w).box w.heap.size rfl [.int .i64 0, .int .i64 0, .int .i64 0, .int .i64 0] 122
  clear hl hf
  go_enter Tryz.func53, Tryz.ntmps53
  go_wp2_with fail
  refine (H1.out _ hE.below).mono ?_
  rintro o w1 ⟨rfl, rfl⟩
  go_wp2_with fail
  refine (H2.out _ hE.below).mono ?_
  rintro o w1 ⟨rfl, hb⟩
  replace hE := hE.over hb
  clear hb
  have r0 := hE.rule 0 rfl
  have ff := hE.thaw 0 rfl
  have f0 := ff 0 (by simp)
  have f1 := ff 1 (by simp)
  have f2 := ff 2 (by simp)
  have f3 := ff 3 (by simp)
  clear ff
  have hE7 := (((hE.put 0 rfl (j := 0) (by simp) (.int .i64 x)).put 0 rfl (j := 1) (by simp) (.int .i64 y)).put 0 rfl (j := 2) (by simp) (.int .i64 z)).put 0 rfl (j := 3) (by simp) (.int .i64 d)
  have q := hE7.rule 0 rfl
  go_wp2_with fail
  exact bodyPost_ret (v := .agg #[.int .i64 x, .int .i64 y, .int .i64 z, .int .i64 d]) (by simp [results, Tryz.results53, go_sem, q]) rfl ⟨rfl, hE7.below⟩
set_option maxHeartbeats 1600000 in
theorem intoF_any (v0 d : Int) (bb : Bool) (hl : ∀ v, Below w.heap.size w v → Calls Tryz.prog 100 #[.pointer p, .int .i64 k] v fun o w' => o = .returned (.pointer lp) ∧ w' = v) (hf : ∀ v, Below w.heap.size w v → Calls Tryz.prog 104 #[.pointer lp] v fun o w' => o = .returned (.agg #[.int .u64 v0, .int .i64 d, .bool bb]) ∧ Below v.heap.size v w') :
    Calls Tryz.prog 54 #[.pointer p, .int .i64 k] w fun o w' => o = .returned (.agg #[.int .u64 v0, .int .i64 d, .bool bb]) ∧ Below w.heap.size w w' := by
  have H1 := Lib.hid hl
  have H2 := Lib.hid hf
  have hE := (Env.start w).box w.heap.size rfl [.int .u64 0, .int .i64 0, .bool false] 119
  clear hl hf
  go_enter Tryz.func54, Tryz.ntmps54
  go_wp2_with fail
  refine (H1.out _ hE.below).mono ?_
  rintro o w1 ⟨rfl, rfl⟩
  go_wp2_with fail
  refine (H2.out _ hE.below).mono ?_
  rintro o w1 ⟨rfl, hb⟩
  replace hE := hE.over hb
  clear hb
  have r0 := hE.rule 0 rfl
  have ff := hE.thaw 0 rfl
  have f0 := ff 0 (by simp)
  have f1 := ff 1 (by simp)
  have f2 := ff 2 (by simp)
  clear ff
  have hE7 := hE.put3 0 rfl (.int .u64 v0) (.int .i64 d) (.bool bb)
  have q := hE7.rule 0 rfl
  go_wp2_with fail
  exact bodyPost_ret (v := .agg #[.int .u64 v0, .int .i64 d, .bool bb]) (by simp [results, Tryz.results54, go_sem, q]) rfl ⟨rfl, hE7.below⟩
set_option maxHeartbeats 1600000 in
theorem outF_any (v0 d : Int) (bb : Bool) (hl : ∀ v, Below w.heap.size w v → Calls Tryz.prog 100 #[.pointer p, .int .i64 0] v fun o w' => o = .returned (.pointer lp) ∧ w' = v) (hf : ∀ v, Below w.heap.size w v → Calls Tryz.prog 102 #[.pointer lp] v fun o w' => o = .returned (.agg #[.int .u64 v0, .int .i64 d, .bool bb]) ∧ Below v.heap.size v w') :
    Calls Tryz.prog 52 #[.pointer p] w fun o w' => o = .returned (.agg #[.int .u64 v0, .int .i64 d, .bool bb]) ∧ Below w.heap.size w w' := by
  have H1 := Lib.hid hl
  have H2 := Lib.hid hf
  have hE := (Env.start w).box w.heap.size rfl [.int .u64 0, .int .i64 0, .bool false] 119
  clear hl hf
  go_enter Tryz.func52, Tryz.ntmps52
  go_wp2_with fail
  refine (H1.out _ hE.below).mono ?_
  rintro o w1 ⟨rfl, rfl⟩
  go_wp2_with fail
  refine (H2.out _ hE.below).mono ?_
  rintro o w1 ⟨rfl, hb⟩
  replace hE := hE.over hb
  clear hb
  have r0 := hE.rule 0 rfl
  have ff := hE.thaw 0 rfl
  have f0 := ff 0 (by simp)
  have f1 := ff 1 (by simp)
  have f2 := ff 2 (by simp)
  clear ff
  have hE7 := hE.put3 0 rfl (.int .u64 v0) (.int .i64 d) (.bool bb)
  have q := hE7.rule 0 rfl
  go_wp2_with fail
  exact bodyPost_ret (v := .agg #[.int .u64 v0, .int .i64 d, .bool bb]) (by simp [results, Tryz.results52, go_sem, q]) rfl ⟨rfl, hE7.below⟩
set_option maxHeartbeats 1600000 in
theorem whoF_any (x d : Int) (hl : ∀ v, Below w.heap.size w v → Calls Tryz.prog 100 #[.pointer p, .int .i64 0] v fun o w' => o = .returned (.pointer lp) ∧ w' = v) (hf : ∀ v, Below w.heap.size w v → Calls Tryz.prog 101 #[.pointer lp] v fun o w' => o = .returned (.agg #[.int .i64 x, .int .i64 d]) ∧ Below v.heap.size v w') :
    Calls Tryz.prog 51 #[.pointer p] w fun o w' => o = .returned (.agg #[.int .i64 x, .int .i64 d]) ∧ Below w.heap.size w w' := by
  have H1 := Lib.hid hl
  have H2 := Lib.hid hf
  have hE := (Env.start w).box w.heap.size rfl [.int .i64 0, .int .i64 0] 116
  clear hl hf
  go_enter Tryz.func51, Tryz.ntmps51
  go_wp2_with fail
  refine (H1.out _ hE.below).mono ?_
  rintro o w1 ⟨rfl, rfl⟩
  go_wp2_with fail
  refine (H2.out _ hE.below).mono ?_
  rintro o w1 ⟨rfl, hb⟩
  replace hE := hE.over hb
  clear hb
  have r0 := hE.rule 0 rfl
  have ff := hE.thaw 0 rfl
  have f0 := ff 0 (by simp)
  have f1 := ff 1 (by simp)
  clear ff
  have hE7 := (hE.put 0 rfl (j := 0) (by simp) (.int .i64 x)).put 0 rfl (j := 1) (by simp) (.int .i64 d)
  have q := hE7.rule 0 rfl
  go_wp2_with fail
  exact bodyPost_ret (v := .agg #[.int .i64 x, .int .i64 d]) (by simp [results, Tryz.results51, go_sem, q]) rfl ⟨rfl, hE7.below⟩
theorem stepNil_f (u : Value) (w : World) : Calls Tryz.prog 46 #[.pointer none, u] w fun o w' => o = .returned (.int .i64 1) ∧ w' = w := by
  go_enter Tryz.func46, Tryz.ntmps46
  go_wp2
  go_ret
  exact ⟨rfl, rfl⟩
end
end Go.Proofs.YtnnjanaclgjneaaGreatDoor

/- Finds: Step of a thread of the statements' skip lists, over the model; all that one tells that is done. -/
namespace Go.Proofs.YtnnjanaclgjneaaGreatDoor
open Go.RowKit Go.Maps
set_option maxRecDepth 100000

def mk18 (B : Bs) (h : Nat) (G : Nat → Prop) (f : Plc → Int) (qc : Cnt) (m : Nat) (e r : Int) : ST := { c := B.c, q := B.q, p := B.p, cc := B.cc, ck := 3, cs := 1000, cb := 0, ch := h, cl := 1073741824, ce := e, cr := r, hs := 0, F := B.F, ql := [], kq := B.kq, G := G, f := f, qc := qc, m := m }
/-- The world's counts, its entries behind a Find's step. -/
def qcD (F : Fm) (f : Plc → Int) (q : Cnt) : Cnt := if F.on then laneQ (F.L F.lv) f q else { q with l := wrap64 (q.l + 1) }
def mD (F : Fm) (m : Nat) : Nat := if F.on then (if (F.L F.lv).pc = 5 then m + 1 else m) else m
theorem mD_le (F : Fm) (m : Nat) : mD F m ≤ m + 1 := by unfold mD; by_cases h1 : F.on = true <;> by_cases h2 : (F.L F.lv).pc = 5 <;> simp [h1, h2]
theorem down_er (h : Nat) (key : Int) (F : Fm) (f : Plc → Int) : (F.on = true → (downM h key F f).2.1.e = F.e ∧ (downM h key F f).2.1.r = rollM F.e (F.L F.lv) f F.r ∧ (downM h key F f).2.2 = (laneM F.lv key false F.e (F.L F.lv) f).2.2) ∧ (F.on = false → (downM h key F f).2.1.e = epI (f (1, 0, 0)) ∧ (downM h key F f).2.1.r = F.r ∧ (downM h key F f).2.2 = f) := by
  constructor
  · intro hon
    unfold downM
    rw [if_pos hon]
    dsimp only
    by_cases h1 : (laneM F.lv key false F.e (F.L F.lv) f).1 = 2
    · rw [if_pos h1]
      exact ⟨rfl, rfl, rfl⟩
    · rw [if_neg h1]
      by_cases h2 : (laneM F.lv key false F.e (F.L F.lv) f).1 = 1 ∧ F.lv ≠ 0
      · rw [if_pos h2]
        exact ⟨rfl, rfl, rfl⟩
      · rw [if_neg h2]
        exact ⟨rfl, rfl, rfl⟩
  · intro hoff
    unfold downM
    rw [if_neg (by rw [hoff]; decide)]
    exact ⟨rfl, rfl, rfl⟩
theorem down_end {h : Nat} {key : Int} {F : Fm} {f : Plc → Int} (h1 : (downM h key F f).1 = 1) : (downM h key F f).2.1.on = true ∧ (downM h key F f).2.1.lv = 0 := by
  by_cases hon : F.on = true
  · unfold downM at h1 ⊢
    rw [if_pos hon] at h1 ⊢
    dsimp only at h1 ⊢
    by_cases h2 : (laneM F.lv key false F.e (F.L F.lv) f).1 = 1 ∧ F.lv = 0
    · rw [if_neg (by rw [h2.1]; decide), if_neg (fun hx => hx.2 h2.2)]
      exact ⟨hon, h2.2⟩
    · rw [if_neg h2] at h1
      exact absurd h1 (by decide)
  · unfold downM at h1
    rw [if_neg hon] at h1
    exact absurd h1 (by simp)
section
variable {w0 w : World} {R : List Item} {fb h : Nat} {B : Bs} {G : Nat → Prop} {f : Plc → Int} {qc : Cnt} {m : Nat} {key : Int} {F : Fm}
theorem down_k (hh : 1 ≤ h) (hh2 : h ≤ 1000) (hF : FmOk h F) (hg : Glo w0) (hm : m < maxLen) (hR : FindR w0 R fb h key (mk18 B h G f qc m F.e F.r) 0 F w) :
    Calls Tryz.prog 46 #[.pointer (some ⟨fb, 0, none⟩), .iface 26 (.pointer (some ⟨B.p, 0, none⟩))] w fun o w' => o = .returned (.int .i64 (downM h key F f).1) ∧ ∃ G', FindR w0 R fb h key (mk18 B h G' (downM h key F f).2.2 (qcD F f qc) (mD F m) (downM h key F f).2.1.e (downM h key F f).2.1.r) (downM h key F f).1 (downM h key F f).2.1 w' := by
  refine (down_l (S := mk18 B h G f qc m F.e F.r) hh hh2 hF hg hm hR).mono ?_
  rintro o w1 ⟨s, rfl, hs, G', hR'⟩
  have hs2 : s = (downM h key F f).1 := hs
  subst hs2
  refine ⟨rfl, ?_⟩
  by_cases hon : F.on = true
  · obtain ⟨e1, e2, e3⟩ := (down_er h key F f).1 hon
    refine ⟨G', ?_⟩
    have hS : downS key (mk18 B h G f qc m F.e F.r) F G' = mk18 B h G' (downM h key F f).2.2 (qcD F f qc) (mD F m) (downM h key F f).2.1.e (downM h key F f).2.1.r := by
      unfold downS qcD mD
      rw [if_pos hon, if_pos hon, if_pos hon, e1, e2, e3]
      rfl
    rw [← hS]
    exact hR'
  · have hoff : F.on = false := by simpa using hon
    obtain ⟨e1, e2, e3⟩ := (down_er h key F f).2 hoff
    refine ⟨G, ?_⟩
    have hS : downS key (mk18 B h G f qc m F.e F.r) F G' = mk18 B h G (downM h key F f).2.2 (qcD F f qc) (mD F m) (downM h key F f).2.1.e (downM h key F f).2.1.r := by
      unfold downS qcD mD
      rw [if_neg hon, if_neg hon, if_neg hon, e1, e2, e3]
      rfl
    rw [← hS]
    exact hR'
end

/-- All lanes of a Find that is done, as things. -/
def endL (c : Nat) (key : Int) (L : Nat → Lm) (D : Nat → Nat × Value × Int) (h : Nat) : List Item := dnI c key L D 0 :: dnL c key L D 0 (h - 1)
theorem dnL_mem {c : Nat} {key : Int} {L : Nat → Lm} {D : Nat → Nat × Value × Int} : ∀ (n lv l : Nat), lv < l → l ≤ lv + n → dnI c key L D l ∈ dnL c key L D lv n
  | 0, lv, l, h1, h2 => absurd h2 (by omega)
  | n + 1, lv, l, h1, h2 => by
    show _ ∈ dnI _ _ _ _ (lv + 1) :: dnL _ _ _ _ (lv + 1) n
    by_cases e : l = lv + 1
    · rw [e]; exact List.mem_cons_self ..
    · exact List.mem_cons_of_mem _ (dnL_mem n (lv + 1) l (by omega) (by omega))
theorem endL_mem {c : Nat} {key : Int} {L : Nat → Lm} {D : Nat → Nat × Value × Int} {h l : Nat} (hl : l < h) : dnI c key L D l ∈ endL c key L D h := by
  unfold endL
  by_cases e : l = 0
  · rw [e]; exact List.mem_cons_self ..
  · exact List.mem_cons_of_mem _ (dnL_mem _ _ _ (by omega) (by omega))
section
variable {w0 w : World} {R X : List Item} {fb h g : Nat} {S : ST} {key : Int} {F : Fm} {c : Nat} {nx : Value} {ps : List Value} {L : Nat → Lm} {D : Nat → Nat × Value × Int}
theorem FindR.fin (hR : FindR w0 R fb h key S 1 F w) (h0 : F.lv = 0) : ∃ g ps D nx, (∀ l, l < h → ps[l]? = some (.pointer (some ⟨(D l).1, 0, none⟩))) ∧ Env w0 (boxI fb (fdC S.c key nx 1 g h 0) :: boxI g ps :: (endL S.c key F.L D h ++ LT S R)) w := by
  obtain ⟨-, -, ⟨-, hx, -⟩ | ⟨hon, hlt, g, ps, a, D, b1, b2, nx, hps, hpa, hpd, -, ny, wd, B1, B2, -, hE⟩⟩ := hR
  · exact absurd hx (by decide)
  · rw [h0] at hlt hpa hpd hE
    refine ⟨g, ps, setN D 0 (a, ny, wd), nx, fun l hl => ?_, ?_⟩
    · by_cases e : l = 0
      · rw [e, setN_same]; exact hpa
      · rw [setN_other _ _ e]; exact hpd l (by omega) hl
    · have hcg : endL S.c key F.L (setN D 0 (a, ny, wd)) h = boxI a (laneV S.c ((0 : Nat) : Int) key false ny 1 wd (pfS 1 (F.L 0)) (pvS 1 (F.L 0)) (F.L 0)) :: dnL S.c key F.L D 0 (h - 1 - 0) := by
        unfold endL
        congr 1
        exact dnL_congr _ _ fun l hl => ⟨rfl, setN_other _ _ (by omega)⟩
      rw [hcg]
      have h9 := hE.perm (L' := (boxI fb (fdC S.c key nx 1 g h ((0 : Nat) : Int)) :: boxI g ps :: (boxI a (laneV S.c ((0 : Nat) : Int) key false ny 1 wd (pfS 1 (F.L 0)) (pvS 1 (F.L 0)) (F.L 0)) :: dnL S.c key F.L D 0 (h - 1 - 0) ++ LT S R)) ++ [B1, B2, boxI b1 [mvL 181 a], boxI b2 [mvL 189 fb]]) (perm_of fun z => by
        simp only [LT, List.count_cons, List.count_append, List.cons_append, List.count_nil]
        omega)
      exact h9.sub (List.sublist_append_left _ _)
theorem end_facts (hps : ∀ l, l < h → ps[l]? = some (.pointer (some ⟨(D l).1, 0, none⟩))) (hE : Env w0 (boxI fb (fdC c key nx 1 g h 0) :: boxI g ps :: (endL c key L D h ++ X)) w) {l : Nat} (hl : l < h) :
    Blk 0 w fb (fdC c key nx 1 g h 0) ∧ w.cell? ⟨g, l, none⟩ = some (.pointer (some ⟨(D l).1, 0, none⟩)) ∧ Blk 0 w (D l).1 (laneV c l key false (D l).2.1 1 (D l).2.2 (pfS 1 (L l)) (pvS 1 (L l)) (L l)) :=
  ⟨hE.get 0 rfl, (hE.rule 1 rfl l).trans (hps l hl), hE.mem (List.mem_cons_of_mem _ (List.mem_cons_of_mem _ (List.mem_append_left _ (endL_mem hl))))⟩
theorem endFound (hh : h ≤ 1000) (hps : ∀ l, l < h → ps[l]? = some (.pointer (some ⟨(D l).1, 0, none⟩))) (hE : Env w0 (boxI fb (fdC c key nx 1 g h 0) :: boxI g ps :: (endL c key L D h ++ X)) w) {l : Nat} (hl : l < h) :
    Calls Tryz.prog 55 #[.pointer (some ⟨fb, 0, none⟩), .int .i64 (l : Int)] w fun o w' => o = .returned (.bool (L l).fd) ∧ w' = w := by
  obtain ⟨h1, h2, h3⟩ := end_facts hps hE hl
  exact foundAt_any _ (lane_f l hl hh _ h1 h2) (found_g h3)
theorem endFound0 (hh : h ≤ 1000) (hh1 : 1 ≤ h) (hps : ∀ l, l < h → ps[l]? = some (.pointer (some ⟨(D l).1, 0, none⟩))) (hE : Env w0 (boxI fb (fdC c key nx 1 g h 0) :: boxI g ps :: (endL c key L D h ++ X)) w) :
    Calls Tryz.prog 50 #[.pointer (some ⟨fb, 0, none⟩)] w fun o w' => o = .returned (.bool (L 0).fd) ∧ w' = w := found_any _ (endFound hh hps hE (l := 0) hh1)
theorem endAt (hh : h ≤ 1000) (hps : ∀ l, l < h → ps[l]? = some (.pointer (some ⟨(D l).1, 0, none⟩))) (hE : Env w0 (boxI fb (fdC c key nx 1 g h 0) :: boxI g ps :: (endL c key L D h ++ X)) w) {l : Nat} (hl : l < h) :
    Calls Tryz.prog 53 #[.pointer (some ⟨fb, 0, none⟩), .int .i64 (l : Int)] w fun o w' => o = .returned (.agg #[.int .i64 (L l).p.1, .int .i64 (L l).p.2.1, .int .i64 (L l).p.2.2, .int .i64 0]) ∧ Below w.heap.size w w' := by
  refine atF_any (lp := some ⟨(D l).1, 0, none⟩) _ _ _ _ (fun v hb => ?_) (fun v hb => ?_)
  · obtain ⟨h1, h2, -⟩ := end_facts hps (hE.over hb) hl
    exact lane_f l hl hh _ h1 h2
  · obtain ⟨-, -, h3⟩ := end_facts hps (hE.over hb) hl
    exact at_g h3
theorem endInto (hh : h ≤ 1000) (hps : ∀ l, l < h → ps[l]? = some (.pointer (some ⟨(D l).1, 0, none⟩))) (hE : Env w0 (boxI fb (fdC c key nx 1 g h 0) :: boxI g ps :: (endL c key L D h ++ X)) w) {l : Nat} (hl : l < h) :
    Calls Tryz.prog 54 #[.pointer (some ⟨fb, 0, none⟩), .int .i64 (l : Int)] w fun o w' => o = .returned (.agg #[.int .u64 (L l).W, .int .i64 0, .bool false]) ∧ Below w.heap.size w w' := by
  refine intoF_any (lp := some ⟨(D l).1, 0, none⟩) _ _ _ (fun v hb => ?_) (fun v hb => ?_)
  · obtain ⟨h1, h2, -⟩ := end_facts hps (hE.over hb) hl
    exact lane_f l hl hh _ h1 h2
  · obtain ⟨-, -, h3⟩ := end_facts hps (hE.over hb) hl
    exact into_g h3
theorem endOut (hh : h ≤ 1000) (hh1 : 1 ≤ h) (hps : ∀ l, l < h → ps[l]? = some (.pointer (some ⟨(D l).1, 0, none⟩))) (hE : Env w0 (boxI fb (fdC c key nx 1 g h 0) :: boxI g ps :: (endL c key L D h ++ X)) w) :
    Calls Tryz.prog 52 #[.pointer (some ⟨fb, 0, none⟩)] w fun o w' => o = .returned (.agg #[.int .u64 (L 0).X, .int .i64 0, .bool false]) ∧ Below w.heap.size w w' := by
  refine outF_any (lp := some ⟨(D 0).1, 0, none⟩) _ _ _ (fun v hb => ?_) (fun v hb => ?_)
  · obtain ⟨h1, h2, -⟩ := end_facts hps (hE.over hb) (l := 0) hh1
    exact lane_f 0 hh1 hh _ h1 h2
  · obtain ⟨-, -, h3⟩ := end_facts hps (hE.over hb) (l := 0) hh1
    exact out_g h3
theorem endWho (hh : h ≤ 1000) (hh1 : 1 ≤ h) (hps : ∀ l, l < h → ps[l]? = some (.pointer (some ⟨(D l).1, 0, none⟩))) (hE : Env w0 (boxI fb (fdC c key nx 1 g h 0) :: boxI g ps :: (endL c key L D h ++ X)) w) :
    Calls Tryz.prog 51 #[.pointer (some ⟨fb, 0, none⟩)] w fun o w' => o = .returned (.agg #[.int .i64 (L 0).C, .int .i64 0]) ∧ Below w.heap.size w w' := by
  refine whoF_any (lp := some ⟨(D 0).1, 0, none⟩) _ _ (fun v hb => ?_) (fun v hb => ?_)
  · obtain ⟨h1, h2, -⟩ := end_facts hps (hE.over hb) (l := 0) hh1
    exact lane_f 0 hh1 hh _ h1 h2
  · obtain ⟨-, -, h3⟩ := end_facts hps (hE.over hb) (l := 0) hh1
    exact who_g h3
theorem endFoundNo (k : Int) (hk : k < 0 ∨ (h : Int) ≤ k) (hE : Env w0 (boxI fb (fdC c key nx 1 g h 0) :: X) w) :
    Calls Tryz.prog 55 #[.pointer (some ⟨fb, 0, none⟩), .int .i64 k] w fun o w' => o = .returned (.bool false) ∧ w' = w := foundAt_any _ (laneNo_f k hk (hE.get 0 rfl)) (foundNil_l _)
theorem endAtNo (k : Int) (hk : k < 0 ∨ (h : Int) ≤ k) (hE : Env w0 (boxI fb (fdC c key nx 1 g h 0) :: X) w) :
    Calls Tryz.prog 53 #[.pointer (some ⟨fb, 0, none⟩), .int .i64 k] w fun o w' => o = .returned (.agg #[.int .i64 0, .int .i64 0, .int .i64 0, .int .i64 0]) ∧ Below w.heap.size w w' := atF_any _ _ _ _ (fun _ hb => laneNo_f k hk ((hE.over hb).get 0 rfl)) (fun _ _ => atNil_l _)
theorem endIntoNo (k : Int) (hk : k < 0 ∨ (h : Int) ≤ k) (hE : Env w0 (boxI fb (fdC c key nx 1 g h 0) :: X) w) :
    Calls Tryz.prog 54 #[.pointer (some ⟨fb, 0, none⟩), .int .i64 k] w fun o w' => o = .returned (.agg #[.int .u64 0, .int .i64 0, .bool false]) ∧ Below w.heap.size w w' := intoF_any _ _ _ (fun _ hb => laneNo_f k hk ((hE.over hb).get 0 rfl)) (fun _ _ => intoNil_l _)
end
end Go.Proofs.YtnnjanaclgjneaaGreatDoor

/- The plain world: it starts; it is awake. -/
namespace Go.Proofs.YtnnjanaclgjneaaGreatDoor
open Go.RowKit Go.Maps
set_option maxRecDepth 100000

/-- The deferred recover, where nothing panicked. -/
theorem caught_none (w : World) : CallsD Tryz.prog 107 #[] .returning w fun e u' w' => u' = .returning ∧ e = .returned (.tuple #[]) ∧ w' = w := by
  refine callsD_of_wpS Tryz.func107 rfl fun c₀ cs hu => ?_
  apply wpS_region
  cases c₀
  simp_all [wpOpsS, go_sem, recoverD, Tryz.ntmps107, Exit.thenS, bodyPostS, results, Tryz.results107]

theorem method_store (k p : Nat) (w : World) : (method (k + 1) 26 (.pointer (some ⟨p, 0, none⟩)) "Store").run Tryz.prog w = .ok (94, .pointer (some ⟨p, 0, none⟩)) w := by kernel_rfl

section
variable {w0 w : World} {L : List Item} {p c n : Nat} {F : Nat → Prop} {f : Plc → Int} {q : Cnt}
set_option maxHeartbeats 1600000 in
theorem start_w (i j : Nat) (hij : j ≠ i) (hn : n < maxLen) (hE : Env w0 L w) (hi : L[i]? = some (wbox p c)) (hj : L[j]? = some (cellI c F f q n)) :
    Calls Tryz.prog 58 #[.iface 26 (.pointer (some ⟨p, 0, none⟩))] w fun e w' => e = .returned (.tuple #[]) ∧ ∃ F', Env w0 (L.set j (cellI c F' (upd f (1, 0, 0) 1) { q with s := wrap64 (q.s + 1) } (n + 1))) w' := by
  have hmf : ∀ (fn : Fn) (first cap : Array Value) (w : World), (Instr.makeFunc fn first cap).run Tryz.prog w = .ok (.func fn first cap) w := fun _ _ _ _ => rfl
  go_enter_defers Tryz.func58, Tryz.ntmps58
  go_wp2_with fail
  refine Ord.wp_chain [6] (fun _ => True) (fun k w' => ∃ F', Env w0 (if k = 0 then L else L.set j (cellI c F' (upd f (1, 0, 0) 1) { q with s := wrap64 (q.s + 1) } (n + 1))) w') (by kernel_rfl) (by kernel_rfl) (by kernel_rfl) trivial ⟨F, hE.drew⟩ (fun hT => ?_)
  have hT9 := Lib.hid hT
  clear hT
  repeat (first
    | (refine Ord.ch_value (v := ?_) hT9.out (by decide) (by rfl) ?_ ?_; rotate_left; (focus (intro w5 hS; skip; go_simp <;> with_reducible rfl)); (try simp only [Act.put, List.setIfInBounds_toArray, List.set_cons_zero, List.set_cons_succ]))
    | (refine Ord.ch_off hT9.out (by decide) (by rfl) ?_; (try simp only [Act.put, List.setIfInBounds_toArray, List.set_cons_zero, List.set_cons_succ]))
    | (refine Ord.ch_call (v := ?_) (f := ?_) (args := ?_) hT9.out (by decide) (by rfl) ?_ ?_ ?_; rotate_left 3; (focus (intro w5 hS; skip; go_simp; constructor <;> with_reducible rfl)); (focus (intro w5 hS; (first | (with_reducible refine (epoch_any _).mono ?_; rintro e w6 ⟨rfl, hb6⟩; constructor; with_reducible rfl; exact ⟨trivial, fun k h => h.elim fun F' h => ⟨F', h.over hb6⟩⟩)))); (try simp only [Act.put, List.setIfInBounds_toArray, List.set_cons_zero, List.set_cons_succ])))
  refine Ord.ch_turn (v := .tuple #[]) 0 hT9.out rfl (by decide) (Or.inl rfl) (by rfl) ?_ ?_
  · rintro w5 hC5 ⟨F5, hA5⟩
    simp only [if_true] at hA5
    go_simp
    rw [method_store]
    simp only [Result.andThen_ok]
    go_simp
    simp only [Ord.LandsIn]
    refine (store_w 1 0 0 0 1 0 false (by unfold Wf In64; simp) (by unfold InU; simp) hn i j hij hA5 hi hj).mono ?_
    rintro e w6 ⟨rfl, F6, hE6⟩
    exact ⟨rfl, F6, hE6⟩
  (try simp only [Act.put, List.setIfInBounds_toArray, List.set_cons_zero, List.set_cons_succ])
  repeat (first
    | (refine Ord.ch_value (v := ?_) hT9.out (by decide) (by rfl) ?_ ?_; rotate_left; (focus (intro w5 hS; skip; go_simp <;> with_reducible rfl)); (try simp only [Act.put, List.setIfInBounds_toArray, List.set_cons_zero, List.set_cons_succ]))
    | (refine Ord.ch_off hT9.out (by decide) (by rfl) ?_; (try simp only [Act.put, List.setIfInBounds_toArray, List.set_cons_zero, List.set_cons_succ])))
  refine Ord.InText.nil fun w5 hS => ?_
  clear hT9
  obtain ⟨hC9, hA9⟩ := Ord.chain_end hS
  clear hS
  obtain ⟨F9, hA9⟩ := hA9
  simp only [List.length_cons, List.length_nil, Nat.zero_add, Nat.one_ne_zero, if_false] at hA9
  go_wp2
  refine leaves_cons (f := 107) (args := #[]) (by simp) (by simp [go_sem]) ?_
  refine (caught_none _).mono ?_
  rintro e u' w'' ⟨rfl, rfl, rfl⟩
  exact ⟨_, results_none rfl _ _ _, rfl, F9, hA9⟩
end
theorem start_nil (w : World) : Calls Tryz.prog 58 #[.nilIface] w fun e w' => e = .returned (.tuple #[]) ∧ w' = w := by
  go_enter_defers Tryz.func58, Tryz.ntmps58
  go_wp2
  exact ⟨_, results_none rfl _ _ _, rfl, rfl⟩
end Go.Proofs.YtnnjanaclgjneaaGreatDoor

/- Shared cells: the contracts of the accesses. -/
namespace Go.Proofs.YtnnjanaclgjneaaGreatDoor
open Go.RowKit Go.Maps
set_option maxRecDepth 100000

section
variable {w w' : World} {c n : Nat} {F : Nat → Prop} {f : Plc → Int} {q : Cnt}
end

set_option maxHeartbeats 800000 in
theorem count_any {c n : Nat} {F : Nat → Prop} {f : Plc → Int} {q : Cnt} {w : World} (hC : IsC w c F f q n) :
    Calls Tryz.prog 80 #[.pointer (some ⟨c, 0, none⟩)] w fun e w' => e = .returned (.agg #[.int .i64 q.l, .int .i64 q.s, .int .i64 q.w, .int .i64 q.f, .int .i64 q.a]) ∧ Below w.heap.size w w' := by
  obtain ⟨mp, hb, hm, hF⟩ := hC
  have r1 := cell_more hb.1 hb.rule
  unfold cv at r1
  go_enter Tryz.func80, Tryz.ntmps80
  go_wp2
  refine bodyPost_ret (v := .agg #[.int .i64 q.l, .int .i64 q.s, .int .i64 q.w, .int .i64 q.f, .int .i64 q.a]) (by simp [results, Tryz.results80, go_sem]) rfl ⟨rfl, ?_⟩
  exact (Below.refl _ _).alloc (Nat.le_refl _) _
end Go.Proofs.YtnnjanaclgjneaaGreatDoor

/- The plain world: contracts of its accesses: each is the cells' own, among whatever other things there are. -/
namespace Go.Proofs.YtnnjanaclgjneaaGreatDoor
open Go.RowKit Go.Maps
set_option maxRecDepth 100000

section
variable {w0 w : World} {L : List Item} {p c n : Nat} {F : Nat → Prop} {f : Plc → Int} {q : Cnt}

set_option maxHeartbeats 1600000 in
theorem count_w (i j : Nat) (hE : Env w0 L w) (hi : L[i]? = some (wbox p c)) (hj : L[j]? = some (cellI c F f q n)) :
    Calls Tryz.prog 27 #[.pointer (some ⟨p, 0, none⟩)] w fun e w' => e = .returned (.agg #[.int .i64 q.l, .int .i64 q.s, .int .i64 q.w, .int .i64 q.f, .int .i64 q.a]) ∧ Below w.heap.size w w' := by
  have hb := (Below.refl w.heap.size w).alloc (Nat.le_refl _) (.cells #[.int .i64 0, .int .i64 0, .int .i64 0, .int .i64 0, .int .i64 0] 70)
  replace hE := hE.box w.heap.size rfl [.int .i64 0, .int .i64 0, .int .i64 0, .int .i64 0, .int .i64 0] 70
  go_enter Tryz.func27, Tryz.ntmps27
  go_wp2_with fail
  refine (kept_any (hE.wblk (i + 1) hi)).mono ?_
  rintro e w1 ⟨rfl, rfl⟩
  go_wp2_with fail
  refine (count_any (hE.cell (j + 1) hj)).mono ?_
  rintro e w2 ⟨rfl, hb2⟩
  have hE2 := hE.over hb2
  have f5 := hE2.thaw 0 rfl
  have f0 := f5 0 (by simp)
  have f1 := f5 1 (by simp)
  have f2 := f5 2 (by simp)
  have f3 := f5 3 (by simp)
  have f4 := f5 4 (by simp)
  have r := hE2.rule 0 rfl
  have hB := hb.trans (hb2.mono hb.size)
  clear f5
  go_wp2
  have hP := hE2.put5 0 rfl (.int .i64 q.l) (.int .i64 q.s) (.int .i64 q.w) (.int .i64 q.f) (.int .i64 q.a)
  have q9 := hP.rule 0 rfl
  refine bodyPost_ret (v := .agg #[.int .i64 q.l, .int .i64 q.s, .int .i64 q.w, .int .i64 q.f, .int .i64 q.a]) (by simp [results, Tryz.results27, go_sem, q9]) rfl ⟨rfl, ?_⟩
  exact ((((hB.setCell (Nat.le_refl _) _).setCell (Nat.le_refl _) _).setCell (Nat.le_refl _) _).setCell (Nat.le_refl _) _).setCell (Nat.le_refl _) _
end
end Go.Proofs.YtnnjanaclgjneaaGreatDoor

/- Finds: the program is awake. -/
namespace Go.Proofs.YtnnjanaclgjneaaGreatDoor
open Go.RowKit Go.Maps
set_option maxRecDepth 100000

theorem skip_t (h : Int) (w : World) : Calls Tryz.prog 42 #[.int .i64 h] w fun o w' => o = .returned (.agg #[.int .i64 3, .int .i64 1000, .int .i64 0, .int .i64 h, .int .i64 1073741824]) ∧ Below w.heap.size w w' := by
  go_enter Tryz.func42, Tryz.ntmps42
  go_wp2
  exact bodyPost_ret (v := .agg #[.int .i64 3, .int .i64 1000, .int .i64 0, .int .i64 h, .int .i64 1073741824]) (by simp [results, Tryz.results42, go_sem]) rfl ⟨rfl, (Below.refl _ _).alloc (Nat.le_refl _) _⟩
/-- So many steps of a Find alone. -/
def runD (h : Nat) (key : Int) (f : Plc → Int) : Nat → Int × Fm × (Plc → Int)
  | 0 => (0, F0m 0 0, f)
  | n + 1 => downM h key (runD h key f n).2.1 (runD h key f n).2.2
def f18 : Plc → Int := upd (fun _ => 0) (1, 0, 0) 1
theorem busy18 : ∀ n, n < 5 → (runD 2 5 f18 n).1 = 0 := by decide +kernel
theorem done18 : (runD 2 5 f18 5).1 = 1 := by decide +kernel
theorem fin18 : (runD 2 5 f18 5).2.1.lv = 0 ∧ ((runD 2 5 f18 5).2.1.L 0).fd = false ∧ ((runD 2 5 f18 5).2.1.L 1).p = (4, 0, 1) ∧ ((runD 2 5 f18 5).2.1.L 0).p = (4, 0, 0) := by decide +kernel
theorem FindR.words {w0 w : World} {R : List Item} {fb h : Nat} {S : ST} {key s : Int} {F : Fm} (hR : FindR w0 R fb h key S s F w) : Words S.f := by
  obtain ⟨-, -, ⟨-, -, g, ps, l0, -, hE⟩ | ⟨-, -, g, ps, a, D, b1, b2, nx, -, -, -, -, ny, wd, B1, B2, -, hE⟩⟩ := hR
  · exact (hE.cell 5 rfl).words
  · exact (hE.cell 6 rfl).words
theorem FindR.below {w0 w : World} {R : List Item} {fb h : Nat} {S : ST} {key s : Int} {F : Fm} (hR : FindR w0 R fb h key S s F w) : Below w0.heap.size w0 w := by
  obtain ⟨-, -, ⟨-, -, g, ps, l0, -, hE⟩ | ⟨-, -, g, ps, a, D, b1, b2, nx, -, -, -, -, ny, wd, B1, B2, -, hE⟩⟩ := hR
  · exact hE.below
  · exact hE.below
theorem FindR.start {w0 w : World} {R : List Item} {fb h g : Nat} {B : Bs} {G : Nat → Prop} {f : Plc → Int} {qc : Cnt} {m : Nat} {key : Int} (hE : Env w0 (boxI fb (fdC B.c key (mvL 96 fb) 0 g h 0) :: boxI g (List.replicate h (.pointer none)) :: LT (mk18 B h G f qc m 0 0) R) w) : FindR w0 R fb h key (mk18 B h G f qc m 0 0) 0 (F0m 0 0) w :=
  ⟨rfl, rfl, .inl ⟨rfl, rfl, g, _, 0, List.length_replicate, hE⟩⟩
theorem at_placeF (v : World) (x y z d : Int) : (Instr.field 122 (.agg #[.int .i64 x, .int .i64 y, .int .i64 z, .int .i64 d]) 0).run Tryz.prog v = .ok (.agg #[.int .i64 x, .int .i64 y, .int .i64 z]) v := by kernel_rfl
set_option maxHeartbeats 6400000 in
theorem awake18 (w : World) (hg : Glo w) : Calls Tryz.prog 39 #[] w fun o w' => o = .returned (.bool true) ∧ Below w.heap.size w w' := by
  have hE := Env.start w
  have HG := Lib.hid hg
  have HC := Lib.hid (show chkI 3 1000 0 2 1073741824 = 0 by decide)
  have HC2 := Lib.hid (show chkI 1 1 0 1 2 = 0 by decide)
  clear hg
  go_enter Tryz.func39, Tryz.ntmps39
  go_wp2_with fail
  refine (new_w hE).mono ?_
  rintro o w3 ⟨p, cc, rfl, hE3, hb⟩
  clear hb hE
  go_wp2_with fail
  refine (start_w 0 1 (by decide) (by unfold maxLen; omega) hE3 rfl rfl).mono ?_
  rintro o w4 ⟨rfl, F4, hE4⟩
  simp only [List.set_cons_succ, List.set_cons_zero] at hE4
  clear hE3
  generalize ({ l := _, s := _, w := _, f := _, a := _ } : Cnt) = q4 at hE4
  go_wp2_with fail
  refine (skip_t 2 _).mono ?_
  rintro o w5 ⟨rfl, hb⟩
  replace hE4 := hE4.over hb
  clear hb
  go_wp2_with fail
  refine (newYes_c 3 1000 0 2 1073741824 HC.out hE4).mono ?_
  rintro o w6 ⟨c, q, F, rfl, hE6⟩
  clear hE4
  go_wp2_with fail
  refine (newYes_f (h := 2) 0 5 (by omega) rfl hE6).mono ?_
  rintro o w7 ⟨fb, g, rfl, hE7⟩
  clear hE6
  have hR : FindR w [] fb 2 5 (mk18 ⟨c, q, p, cc, F, 2⟩ 2 F4 f18 q4 (0 + 1) 0 0) 0 (F0m 0 0) w7 := FindR.start hE7
  clear hE7
  go_wp2_with fail
  go_loopw [3, 4] (fun sv nv wr => ∃ (j mm : Nat) (G : Nat → Prop) (qc : Cnt) (s : Int) (T : Fm) (f : Plc → Int), nv = .int .i64 j ∧ sv = .int .i64 s ∧ j ≤ 5 ∧ mm ≤ 20 + j ∧ Hid (runD 2 5 f18 j = (s, T, f)) ∧ Hid (s = 0 → FmOk 2 T) ∧ FindR w [] fb 2 5 (mk18 ⟨c, q, p, cc, F, 2⟩ 2 G f qc mm T.e T.r) s T wr) (fun _ nv _ => 20 - (intOf nv).toNat)
  case atStart => exact ⟨0, 0 + 1, F4, q4, 0, F0m 0 0, f18, rfl, rfl, by omega, by omega, Lib.hid rfl, Lib.hid (fun _ => F0m_ok _ _ _), hR⟩
  case round =>
    clear hR
    obtain ⟨j, mm, G, qc, s, T, f, rfl, rfl, hj, hmm, hrun, hok, hR⟩ := hrel
    by_cases hlt : j < 5
    · have hs : s = 0 := by
        have h1 := busy18 j hlt
        rw [hrun.out] at h1
        exact h1
      subst hs
      have hb1 : decide ((j : Int) < 20) = true := by simp; omega
      have hW : Words f := hR.words
      have hT := hok.out rfl
      have hst := down_k (by omega) (by omega) hT HG.out (by unfold maxLen; omega) hR
      have HNX : Hid (runD 2 5 f18 (j + 1) = downM 2 5 T f) := Lib.hid (by show downM 2 5 (runD 2 5 f18 j).2.1 (runD 2 5 f18 j).2.2 = _; rw [hrun.out])
      have HOK : Hid ((downM 2 5 T f).1 = 0 → FmOk 2 (downM 2 5 T f).2.1) := Lib.hid (down_ok (by omega) (by omega) hT hW.u)
      have HM : Hid (mD T mm ≤ 20 + (j + 1)) := Lib.hid (by have := mD_le T mm; omega)
      generalize downM 2 5 T f = q9 at *
      generalize qcD T f qc = qc9 at *
      generalize mD T mm = mm9 at *
      obtain ⟨s9, T9, f9⟩ := q9
      have HST := Lib.hid hst
      clear hst hR hW hT hok hrun
      go_wp2_with fail
      refine HST.out.mono ?_
      rintro o w8 ⟨rfl, G9, hR9⟩
      go_wp2_with fail
      exact ⟨⟨j + 1, mm9, G9, qc9, s9, T9, f9, by simp, rfl, by omega, HM.out, HNX, HOK, hR9⟩, by simp [intOf]; omega⟩
    · have hj5 : j = 5 := by omega
      subst hj5
      have hs : s = 1 := by
        have h1 := done18
        rw [hrun.out] at h1
        exact h1
      have hfin := fin18
      rw [hrun.out] at hfin
      subst hs
      obtain ⟨h1, h2, h3, h4⟩ := hfin
      obtain ⟨g9, ps, D, nx, hps, hE⟩ := hR.fin h1
      have HF0 : Hid (∀ v, Env w (boxI fb (fdC c 5 nx 1 g9 2 0) :: boxI g9 ps :: (endL c 5 T.L D 2 ++ LT (mk18 ⟨c, q, p, cc, F, 2⟩ 2 G f qc mm T.e T.r) [])) v → Calls Tryz.prog 50 #[.pointer (some ⟨fb, 0, none⟩)] v fun o w' => o = .returned (.bool false) ∧ w' = v) := Lib.hid fun v hv => by
        have h9 := endFound0 (by omega) (by omega) hps hv
        rwa [h2] at h9
      have HA1 : Hid (∀ v, Env w (boxI fb (fdC c 5 nx 1 g9 2 0) :: boxI g9 ps :: (endL c 5 T.L D 2 ++ LT (mk18 ⟨c, q, p, cc, F, 2⟩ 2 G f qc mm T.e T.r) [])) v → Calls Tryz.prog 53 #[.pointer (some ⟨fb, 0, none⟩), .int .i64 1] v fun o w' => o = .returned (.agg #[.int .i64 4, .int .i64 0, .int .i64 1, .int .i64 0]) ∧ Below v.heap.size v w') := Lib.hid fun v hv => by
        have h9 := endAt (by omega) hps hv (l := 1) (by omega)
        rwa [h3] at h9
      have HA0 : Hid (∀ v, Env w (boxI fb (fdC c 5 nx 1 g9 2 0) :: boxI g9 ps :: (endL c 5 T.L D 2 ++ LT (mk18 ⟨c, q, p, cc, F, 2⟩ 2 G f qc mm T.e T.r) [])) v → Calls Tryz.prog 53 #[.pointer (some ⟨fb, 0, none⟩), .int .i64 0] v fun o w' => o = .returned (.agg #[.int .i64 4, .int .i64 0, .int .i64 0, .int .i64 0]) ∧ Below v.heap.size v w') := Lib.hid fun v hv => by
        have h9 := endAt (by omega) hps hv (l := 0) (by omega)
        rwa [h4] at h9
      have HA2 : Hid (∀ v, Env w (boxI fb (fdC c 5 nx 1 g9 2 0) :: boxI g9 ps :: (endL c 5 T.L D 2 ++ LT (mk18 ⟨c, q, p, cc, F, 2⟩ 2 G f qc mm T.e T.r) [])) v → Calls Tryz.prog 53 #[.pointer (some ⟨fb, 0, none⟩), .int .i64 2] v fun o w' => o = .returned (.agg #[.int .i64 0, .int .i64 0, .int .i64 0, .int .i64 0]) ∧ Below v.heap.size v w') := Lib.hid fun v hv => endAtNo 2 (.inr (by omega)) hv
      have hap := at_placeF
      clear hok hrun h1 h2 h3 h4
      obtain ⟨XL, hXL⟩ : ∃ XL, boxI fb (fdC c 5 nx 1 g9 2 0) :: boxI g9 ps :: (endL c 5 T.L D 2 ++ LT (mk18 ⟨c, q, p, cc, F, 2⟩ 2 G f qc mm T.e T.r) []) = XL := ⟨_, rfl⟩
      replace hE : Env w XL wr := by rw [← hXL]; exact hE
      rw [hXL] at HF0 HA1 HA0 HA2
      clear hXL hps
      go_wp2_with (first
        | (with_reducible refine (HF0.out _ hE).mono ?_; rintro o w8 ⟨rfl, rfl⟩)
        | (with_reducible refine (HA1.out _ hE).mono ?_; rintro o w8 ⟨rfl, hb⟩; replace hE := hE.over hb; clear hb)
        | (with_reducible refine (HA0.out _ hE).mono ?_; rintro o w8 ⟨rfl, hb⟩; replace hE := hE.over hb; clear hb)
        | (with_reducible refine (HA2.out _ hE).mono ?_; rintro o w8 ⟨rfl, hb⟩; replace hE := hE.over hb; clear hb)
        | (with_reducible refine (root_any _ _).mono ?_; rintro o w8 ⟨rfl, hb⟩; replace hE := hE.over hb; clear hb))
      refine (newYes_c 1 1 0 1 2 HC2.out hE).mono ?_
      rintro o w9 ⟨c9, q9, F9, rfl, hE9⟩
      go_wp2_with fail
      refine (newNo_f 0 1 1 (by decide) rfl hE9).mono ?_
      rintro o w10 ⟨rfl, hE10⟩
      go_wp2_with fail
      go_ret
      exact ⟨rfl, hE10.below⟩
end Go.Proofs.YtnnjanaclgjneaaGreatDoor

/- The contract of sorted: slots that can be, each once. -/
namespace Go.Proofs.YtnnjanaclgjneaaGreatDoor
open Go.RowKit Go.Maps
set_option maxRecDepth 100000

section
variable {w0 w : World} {L : List Item}
/-- Where a row lies that holds something. -/
theorem Env.atN (h : Env w0 L w) (i : Nat) {A : Option Addr} {n cap : Nat} {e : TypeId} {l : List Nd} (hn : n = l.length) (hi : L[i]? = some (rowKI encN 4 (.slice A n cap) e l)) (h0 : 0 < n) : ∃ g, A = some ⟨g, 0, none⟩ := by
  subst hn
  rcases (h.rowK i hi).2 with ⟨-, h9⟩ | ⟨g, _, _, hv, _⟩
  · omega
  · simp only [Value.slice.injEq] at hv
    exact ⟨g, hv.1⟩
theorem Env.cellN (h : Env w0 L w) (i : Nat) {g n cap : Nat} {e : TypeId} {l : List Nd} (hn : n = l.length) (hi : L[i]? = some (rowKI encN 4 (.slice (some ⟨g, 0, none⟩) n cap) e l)) {j : Nat} (hj : j < l.length) {x : Nd} (hx : l.getD j default = x) :
    w.cell? ⟨g, j * 4, none⟩ = some (.int .i64 x.s) ∧ w.cell? ⟨g, j * 4 + 1, none⟩ = some (.int .u64 x.key) ∧ w.cell? ⟨g, j * 4 + 2, none⟩ = some (.int .u64 x.val) ∧ w.cell? ⟨g, j * 4 + 3, none⟩ = some (.bool x.mb) := by
  rcases h.cellsK encN_len i hn hi with h0 | ⟨g', off', h9, -, hc⟩
  · rw [h0] at hj; exact absurd hj (by simp)
  · cases h9
    have := at4N (hc j hj)
    rw [hx, Nat.zero_add] at this
    exact this

end
end Go.Proofs.YtnnjanaclgjneaaGreatDoor

/- TowerShort: of a skip list without marks a Find makes just the loads that the law reckons. -/
namespace Go.Proofs.YtnnjanaclgjneaaGreatDoor
open Go.RowKit Go.Maps
set_option maxRecDepth 100000

theorem drop_cons {l : List Nd} {j : Nat} (hj : j < l.length) {y : Nd} (hy : l.getD j default = y) : l.drop j = y :: l.drop (j + 1) := by
  rw [List.drop_eq_getElem_cons hj, ← hy]
  simp [hj]
theorem chk18 : ∀ H : Nat, H < 17 → 1 ≤ H → chkI 3 1000 0 (H : Int) 1073741824 = 0 := by decide
theorem qcD_load {F : Fm} {f : Plc → Int} {q : Cnt} (h : F.on = true → (F.L F.lv).pc ≠ 5) : qcD F f q = { q with l := wrap64 (q.l + 1) } := by
  unfold qcD laneQ
  by_cases hon : F.on = true
  · rw [if_pos hon, if_neg (h hon)]
  · rw [if_neg hon]
theorem mD_load {F : Fm} {m : Nat} (h : F.on = true → (F.L F.lv).pc ≠ 5) : mD F m = m := by
  unfold mD
  by_cases hon : F.on = true
  · rw [if_pos hon, if_neg (h hon)]
  · rw [if_neg hon]
set_option maxHeartbeats 12800000 in
theorem short_t (W : World) (hg : Glo W) (xs : List NtI) (A : Option Addr) (cap : Nat) (hl0 : xs.length ≤ 2 ^ 63 - 1) (h0 key : Int) (hk : InU key)
    (hok : ∀ r ∈ xs, OkNtI r) (hrow : RowX encNtI 4 W A xs) :
    Calls Tryz.prog 10 #[.slice A xs.length cap, .int .i64 h0, .int .u64 key] W fun e w' => e = .returned (.bool true) ∧ Below W.heap.size W w' := by
  have HG := Lib.hid hg
  have HOK := Lib.hid hok
  have HROW := Lib.hid hrow
  have HKEY := Lib.hid hk
  have hl : xs.length ≤ 9223372036854775807 := by omega
  obtain ⟨hq, hh, hh0, hh1⟩ := cut_u1 h0 16 (by decide) (by decide)
  obtain ⟨H, rfl⟩ : ∃ H : Nat, hq = (H : Int) := ⟨hq.toNat, by omega⟩
  have hH : 1 ≤ H ∧ H ≤ 16 := by omega
  have HH := Lib.hid hH
  have hE := Env.start W
  clear hg hok hrow hl0 hk hh0 hh1 hH
  go_enter Tryz.func10, Tryz.ntmps10
  go_wp2_with fail
  refine (awake18 _ HG.out).mono ?_
  rintro o w1 ⟨rfl, hb⟩
  replace hE := hE.over hb
  clear hb
  go_wp2_with fail
  refine (nodes18_t A cap xs hl H HH.out HOK.out HROW.out hE).mono ?_
  rintro o w2 ⟨g, c, ns, rfl, hn30, hsrt, hE2⟩
  obtain ⟨N, hN⟩ : ∃ N, ns.length = N := ⟨_, rfl⟩
  rw [hN] at hE2 hn30 ⊢
  have HN := Lib.hid hN
  have HSRT := Lib.hid hsrt
  clear hE hsrt hN hl
  go_wp2_with fail
  go_loopw [9] (fun iv wr => ∃ (j : Nat) (ms : List Nt), iv = .int .i64 j ∧ j ≤ N ∧ Hid (ms.length = N ∧ SortT H ms ∧ ∀ n ∈ ms.take j, n.marks = 0) ∧ Env W [rowKI encT 4 (.slice g N c) 128 ms] wr) (fun iv _ => N - (intOf iv).toNat)
  case atStart => exact ⟨0, ns, rfl, Nat.zero_le _, Lib.hid ⟨HN.out, HSRT.out, by simp⟩, hE2⟩
  case round =>
    clear hE2 HSRT HN
    obtain ⟨j, ms, rfl, hj, hms, hE⟩ := hrel
    by_cases hlt : j < N
    · have hb1 : decide ((j : Int) < (N : Int)) = true := by simp; omega
      have hlt1 : (j : Int) < (N : Int) := by omega
      obtain ⟨b, rfl⟩ := hE.atT 0 hms.out.1.symm rfl (by omega)
      have hown := hE.rowK 0 rfl
      rw [hms.out.1] at hown
      have hb5 : b < wr.heap.size := (hown.lt b rfl).2
      have zW : ∀ i, wr.frozen? ⟨b, i, none⟩ = false := fun i => hown.frozenAt i
      obtain ⟨y, hy⟩ : ∃ y, ms.getD j default = y := ⟨_, rfl⟩
      obtain ⟨b0, b1, b2, b3⟩ := hE.cellT 0 hms.out.1.symm rfl (by rw [hms.out.1]; exact hlt) hy
      clear hown hy
      go_wp2_with fail
      have h1 := hE.marksT 0 hms.out.1.symm rfl (j := j) (by rw [hms.out.1]; exact hlt) 0
      refine ⟨⟨j + 1, offT ms j, by simp, by omega, Lib.hid ⟨by rw [offT_length]; exact hms.out.1, hms.out.2.1.off j, offT_take ms j (by rw [hms.out.1]; exact hlt) hms.out.2.2⟩, h1⟩, by simp [intOf]; omega⟩
    · have hjN : j = N := by omega
      subst hjN
      have hb1 : decide ((j : Int) < (j : Int)) = false := by simp
      have HM : Hid (SortT H ms ∧ ∀ n ∈ ms, n.marks = 0) := Lib.hid ⟨hms.out.2.1, fun n hn => hms.out.2.2 n (by rw [← hms.out.1, List.take_length]; exact hn)⟩
      have hml := hms.out.1
      clear hms hj hlt
      subst hml
      have HN30 := Lib.hid hn30
      clear hn30
      go_wp2_with fail
      refine (laid18_t H HH.out ms g c HN30.out HM.out.1.ok hE).mono ?_
      rintro o w3 ⟨p, cc, n, m, G, FU, rfl, hn, hE3⟩
      have HSK := Lib.hid (lay_sk HM.out.1 HM.out.2 HH.out.1)
      have HW := Lib.hid (layH_words HM.out.1.ok H (by have := HH.out; omega))
      obtain ⟨f, hf⟩ : ∃ f, getL (layH ms H) = f := ⟨_, rfl⟩
      rw [hf] at HSK HW hE3
      have HN := Lib.hid hn
      clear hE hf hn
      go_wp2_with fail
      refine (skip_t H _).mono ?_
      rintro o w4 ⟨rfl, hb⟩
      replace hE3 := hE3.over hb
      clear hb
      go_wp2_with fail
      refine (newYes_c 3 1000 0 H 1073741824 (chk18 H (by have := HH.out; omega) HH.out.1) hE3).mono ?_
      rintro o w5 ⟨cr, q, F, rfl, hE5⟩
      clear hE3
      go_wp2_with fail
      refine (newYes_f (h := H) 0 key (by have := HH.out; omega) rfl hE5).mono ?_
      rintro o w6 ⟨fb, gb, rfl, hE6⟩
      clear hE5
      go_wp2_with fail
      refine (count_w 4 5 hE6 rfl rfl).mono ?_
      rintro o w7 ⟨rfl, hb⟩
      have hE7 := (hE6.over hb).box w7.heap.size rfl [.int .i64 0, .int .i64 (n : Int), .int .i64 0, .int .i64 0, .int .i64 0] 70
      clear hE6 hb
      go_upto_region 13 with fail
      generalize World.alloc _ _ = w8 at *
      generalize w7.heap.size = FR at *
      obtain ⟨lev, hlev⟩ : ∃ lev, lvT ms = lev := ⟨_, rfl⟩
      obtain ⟨tot, htot⟩ : ∃ t, costT lev key (H - 1) none + 1 = t := ⟨_, rfl⟩
      have HLV := Lib.hid hlev
      have HTOT := Lib.hid htot
      rw [hlev] at HSK
      have HTL : Hid (tot ≤ 2000) := Lib.hid (by
        have h9 := costT_le (lev := lev) key (fun k => by rw [← hlev]; have := lvT_length ms k; have := HN30.out; omega) (H - 1) none
        have := HH.out
        omega)
      clear hlev htot
      obtain ⟨ROW, hROW⟩ : ∃ x, rowKI encT 4 (.slice g ms.length c) 128 ms = x := ⟨_, rfl⟩
      rw [hROW] at hE7
      have HROWE := Lib.hid hROW
      clear hROW
      have hR : FindR W [refI m FU (layH ms H), ROW, boxI FR [.int .i64 0, .int .i64 (n : Int), .int .i64 0, .int .i64 0, .int .i64 0]] fb H key (mk18 ⟨cr, q, p, cc, F, 2⟩ H G f ⟨0, (n : Int), 0, 0, 0⟩ n 0 0) 0 (F0m 0 0) w8 := FindR.start (hE7.perm (List.perm_append_comm (l₁ := [_])))
      clear hE7
      obtain ⟨RR, hRR⟩ : ∃ RR, [refI m FU (layH ms H), ROW, boxI FR [.int .i64 0, .int .i64 (n : Int), .int .i64 0, .int .i64 0, .int .i64 0]] = RR := ⟨_, rfl⟩
      rw [hRR] at hR
      have HRR := Lib.hid hRR
      clear hRR
      go_loopw [13] (fun nv wr => ∃ (j mu : Nat) (G : Nat → Prop) (T : Fm), nv = .int .i64 j ∧ Hid (j + mu = tot) ∧ Hid (FmOk H T) ∧ Hid (FiT lev H key T f mu) ∧ FindR W RR fb H key (mk18 ⟨cr, q, p, cc, F, 2⟩ H G f ⟨(j : Int), (n : Int), 0, 0, 0⟩ n T.e T.r) 0 T wr) (fun nv _ => 5000 - (intOf nv).toNat)
      case atStart => exact ⟨0, tot, G, F0m 0 0, rfl, Lib.hid (by omega), Lib.hid (F0m_ok _ _ _), Lib.hid (.inl ⟨rfl, HTOT.out.symm⟩), hR⟩
      case round =>
        clear hR
        obtain ⟨j, mu, G, T, rfl, hjm, hfo, hft, hR⟩ := hrel
        have hj5 : j < 5000 := by have := hjm.out; have := HTL.out; omega
        have hb2 : decide ((j : Int) < 5000) = true := by simp; omega
        obtain ⟨hp5, hmem, hst⟩ := fit_step HH.out.1 HSK.out hft.out
        have hdn := down_k HH.out.1 (by have := HH.out; omega) hfo.out HG.out (by have := HN.out; unfold maxLen; omega) hR
        rw [qcD_load hp5, mD_load hp5, hmem] at hdn
        rcases hst with ⟨h1, mu', hft', hmu⟩ | ⟨h1, hmu⟩
        · have hok := down_ok (key := key) HH.out.1 (by have := HH.out; omega) hfo.out HW.out.u h1
          rw [h1] at hdn
          have HDN := Lib.hid hdn
          have HOK := Lib.hid hok
          have HFT := Lib.hid hft'
          have HJM : Hid (j + 1 + mu' = tot) := Lib.hid (by have := hjm.out; omega)
          generalize (downM H key T f).2.1 = T9 at *
          have HWJ : Hid (wrap64 ((j : Int) + 1) = ((j + 1 : Nat) : Int)) := Lib.hid (by rw [w64 _ (by omega)]; omega)
          clear hp5 hmem hdn h1 hft' hmu hok hR hfo hft hjm
          go_wp2_with fail
          refine HDN.out.mono ?_
          rintro o w9 ⟨rfl, G9, hR9⟩
          replace hR9 : FindR W RR fb H key (mk18 ⟨cr, q, p, cc, F, 2⟩ H G9 f ⟨wrap64 ((j : Int) + 1), (n : Int), 0, 0, 0⟩ n T9.e T9.r) 0 T9 w9 := hR9
          rw [HWJ.out] at hR9
          clear HDN
          go_wp2_with fail
          exact ⟨⟨j + 1, mu', G9, T9, by simp, HJM, HOK, HFT, hR9⟩, by simp [intOf]; omega⟩
        · have hend := down_end h1
          rw [h1] at hdn
          have HDN := Lib.hid hdn
          generalize (downM H key T f).2.1 = T9 at *
          have HL0 := Lib.hid hend.2
          have HJT : Hid (wrap64 ((j : Int) + 1) = (tot : Int)) := Lib.hid (by have := hjm.out; rw [w64 _ (by omega)]; omega)
          clear hp5 hmem hdn h1 hend hmu hR hfo hft hjm
          go_wp2_with fail
          refine HDN.out.mono ?_
          rintro o w9 ⟨rfl, G9, hR9⟩
          replace hR9 : FindR W RR fb H key (mk18 ⟨cr, q, p, cc, F, 2⟩ H G9 f ⟨wrap64 ((j : Int) + 1), (n : Int), 0, 0, 0⟩ n T9.e T9.r) 1 T9 w9 := hR9
          rw [HJT.out] at hR9
          obtain ⟨g9, ps9, D9, nx9, -, hE9⟩ := hR9.fin HL0.out
          rw [← HRR.out, ← HROWE.out] at hE9
          have hEx := hE9.perm (L' := [rowKI encT 4 (.slice g ms.length c) 128 ms, boxI FR [.int .i64 0, .int .i64 (n : Int), .int .i64 0, .int .i64 0, .int .i64 0], wbox p cc, cellI cc G9 f ⟨(tot : Int), (n : Int), 0, 0, 0⟩ n] ++ (boxI fb (fdC cr key nx9 1 g9 H 0) :: boxI g9 ps9 :: (endL cr key T9.L D9 H ++ [coreI cr 3 1000 0 H 1073741824 T9.e T9.r 0 0 q, queueI q F [] 2, refI m FU (layH ms H)]))) (perm_of fun z => by
            simp only [LT, mk18, List.count_cons, List.count_append, List.cons_append, List.nil_append, List.count_nil]
            omega)
          have hE := hEx.sub (List.sublist_append_left _ _)
          clear HDN hR9 hE9 hEx
          go_wp2_with fail
          have HWH : Hid (wrap64 ((H : Int) - 1) = (H : Int) - 1) := Lib.hid (by have := HH.out; rw [w64 _ (by omega)])
          go_loopw [15, 16, 17, 18] (fun sv dv bv kv wr => ∃ (kk st : Nat) (d : Option Nd), kv = .int .i64 ((kk : Int) - 1) ∧ kk ≤ H ∧ sv = .int .i64 (st : Int) ∧ dv = .int .u64 (dkey d) ∧ bv = .bool d.isSome ∧ Hid (st + lowT lev key kk d = tot) ∧ Env W (rowKI encT 4 (.slice g ms.length c) 128 ms :: boxI FR [.int .i64 0, .int .i64 (n : Int), .int .i64 0, .int .i64 0, .int .i64 0] :: wbox p cc :: [cellI cc G9 f ⟨(tot : Int), (n : Int), 0, 0, 0⟩ n]) wr) (fun _ _ _ kv _ => (intOf kv + 1).toNat)
          case atStart => exact ⟨H, 1, none, by rw [HWH.out], Nat.le_refl _, rfl, rfl, rfl, Lib.hid (by
            have h1 := HTOT.out
            obtain ⟨t, ht⟩ : ∃ t, H = t + 1 := ⟨H - 1, by have := HH.out; omega⟩
            subst ht
            show 1 + costT lev key t none = tot
            rw [← h1, Nat.add_sub_cancel]
            omega), hE⟩
          case round =>
            clear hE
            obtain ⟨kk, st, d, hkv, hkk, rfl, rfl, rfl, heq, hE⟩ := hrel
            rcases Nat.eq_zero_or_pos kk with h0 | h0
            · subst h0
              subst hkv
              have hb3 : decide (((0 : Nat) : Int) - 1 ≥ 0) = false := rfl
              have hb4 : decide ((-1 : Int) ≥ 0) = false := rfl
              have hst : st = tot := heq.out
              subst hst
              have HWT : Hid (wrap64 (st : Int) = (st : Int)) := Lib.hid (by have := HTL.out; exact w64 _ (by omega))
              go_wp2_with fail
              refine (count_w 2 3 hE rfl rfl).mono ?_
              rintro o w10 ⟨rfl, hb⟩
              have hE5 := (hE.over hb).box w10.heap.size rfl [.int .i64 (st : Int), .int .i64 (n : Int), .int .i64 0, .int .i64 0, .int .i64 0] 70
              clear hE hb
              have r0 := hE5.rule 0 rfl
              have r2 := hE5.rule 2 rfl
              have hwt := HWT.out
              go_wp2_with fail
              go_ret
              exact ⟨rfl, hE5.below⟩
            · obtain ⟨t, rfl⟩ : ∃ t, kk = t + 1 := ⟨kk - 1, by omega⟩
              rw [show (((t + 1 : Nat) : Int) - 1) = (t : Int) by omega] at hkv
              subst hkv
              have hb3 : decide ((t : Int) ≥ 0) = true := by rw [decide_eq_true_iff]; omega
              have hstl : st ≤ 2000 := by have := heq.out; have := HTL.out; omega
              have hw2 : wrap64 ((st : Int) + 2) = ((st + 2 : Nat) : Int) := by rw [w64 _ (by omega)]; omega
              have HEQ : Hid (st + 2 + 4 * cntT key (restT (lev t) d) + lowT lev key t (nxtT key d (restT (lev t) d)) = tot) := Lib.hid (by
                have h1 := heq.out
                have h2 : lowT lev key (t + 1) d = costT lev key t d := rfl
                rw [h2, costT_eq] at h1
                omega)
              have HT : Hid (t < H) := Lib.hid (by omega)
              have HLVT := Lib.hid (congrFun HLV.out t)
              have HWT : Hid (wrap64 ((t : Int) - 1) = (t : Int) - 1) := Lib.hid (by have := HH.out; rw [w64 _ (by omega)])
              clear heq hkk h0
              go_upto_region 22 with fail
              clear hw2
              rw [show ((st : Int) + 2) = ((st + 2 : Nat) : Int) by omega]
              obtain ⟨dk, hdk⟩ : ∃ dk, dkey d = dk := ⟨_, rfl⟩
              obtain ⟨ds, hds⟩ : ∃ ds, d.isSome = ds := ⟨_, rfl⟩
              rw [hdk, hds]
              have HDK := Lib.hid hdk
              have HDS := Lib.hid hds
              clear hdk hds
              generalize hst2 : st + 2 = st2 at *
              have hst2l : st2 ≤ 2002 := by omega
              clear hst2 hstl
              go_wp2_with fail
              refine (level_t t (by have := HT.out; have := HH.out; omega) ms g c HN30.out (fun n hn => (HM.out.1.ok n hn).2.2.2) hE).mono ?_
              rintro o w10 ⟨g2, c2, rfl, hE5⟩
              rw [HLVT.out] at hE5 ⊢
              obtain ⟨lt, hlt⟩ : ∃ lt, lev t = lt := ⟨_, rfl⟩
              rw [hlt] at hE5 HEQ ⊢
              have hKE : ∀ n ∈ lt, InU n.key := fun n hn => by
                rw [← hlt, ← HLVT.out] at hn
                exact (lvT_ok HM.out.1.ok t n hn).2.1
              have HKE := Lib.hid hKE
              have HL30 : Hid (lt.length ≤ 30) := Lib.hid (by rw [← hlt, ← HLVT.out]; have := lvT_length ms t; have := HN30.out; omega)
              clear hE hKE hlt
              go_wp2_with fail
              go_loopw [15, 17, 20, 22] (fun sv bv nv iv wr => ∃ (i st : Nat) (di : Option Nd), iv = .int .i64 i ∧ i ≤ lt.length ∧ sv = .int .i64 (st : Int) ∧ bv = .bool di.isSome ∧ nv = .int .u64 (dkey di) ∧ Hid (st + 4 * cntT key (restT (lt.drop i) d) + lowT lev key t (nxtT key di (restT (lt.drop i) d)) = tot) ∧ Env W (rowKI encN 4 (.slice g2 lt.length c2) 132 lt :: rowKI encT 4 (.slice g ms.length c) 128 ms :: boxI FR [.int .i64 0, .int .i64 (n : Int), .int .i64 0, .int .i64 0, .int .i64 0] :: wbox p cc :: [cellI cc G9 f ⟨(tot : Int), (n : Int), 0, 0, 0⟩ n]) wr) (fun _ _ _ iv _ => lt.length - (intOf iv).toNat)
              case atStart => exact ⟨0, st2, d, rfl, Nat.zero_le _, rfl, by rw [HDS.out], by rw [HDK.out], HEQ, hE5⟩
              case round =>
                clear hE5 HEQ hst2l
                obtain ⟨i, st3, di, rfl, hi, rfl, rfl, rfl, heq, hE⟩ := hrel
                have hst3 : st3 ≤ 2000 := by have := heq.out; have := HTL.out; omega
                have ht16 : t ≤ 16 := by have := HT.out; have := HH.out; omega
                have hl30 : lt.length ≤ 30 := HL30.out
                by_cases hil : i < lt.length
                · have hb5 : decide ((i : Int) < (lt.length : Int)) = true := by simp; omega
                  have hil1 : (i : Int) < (lt.length : Int) := by omega
                  obtain ⟨b, rfl⟩ := hE.atN 0 rfl rfl (by omega)
                  obtain ⟨y, hy⟩ : ∃ y, lt.getD i default = y := ⟨_, rfl⟩
                  obtain ⟨b0, b1, b2, b3⟩ := hE.cellN 0 rfl rfl hil hy
                  have hdr := drop_cons hil hy
                  have heq2 := heq.out
                  rw [hdr] at heq2
                  clear hdr hy heq
                  by_cases hskip : ∃ nd, d = some nd ∧ y.key ≤ nd.key
                  · obtain ⟨nd, hd, hle⟩ := hskip
                    have hds1 : ds = true := by rw [← HDS.out, hd]; rfl
                    subst hds1
                    have hb6 : decide (y.key ≤ dk) = true := decide_eq_true (by rw [← HDK.out, hd]; exact hle)
                    rw [hd, restT_skip hle, ← hd] at heq2
                    have HQ := Lib.hid heq2
                    clear heq2 hle hd
                    obtain ⟨ys, yk, yv, ym⟩ := y
                    dsimp only at b0 b1 b2 b3 hb6
                    go_wp2_with fail
                    exact ⟨⟨i + 1, st3, di, by simp, by omega, rfl, rfl, rfl, HQ, hE⟩, by simp [intOf]; omega⟩
                  · have htk : ∀ nd, d = some nd → nd.key < y.key := fun nd he => by
                      rcases Int.lt_or_le nd.key y.key with h9 | h9
                      · exact h9
                      · exact absurd ⟨nd, he, h9⟩ hskip
                    rw [restT_take htk] at heq2
                    have hb6 : ds = true → decide (y.key ≤ dk) = false := fun h9 => decide_eq_false (by
                      rcases hd : d with _ | nd
                      · rw [← HDS.out, hd] at h9; exact absurd h9 (by decide)
                      · have := htk nd hd
                        rw [← HDK.out, hd]
                        show ¬ y.key ≤ nd.key
                        omega)
                    clear hskip htk
                    by_cases hge : y.key < key
                    · have HQ : Hid (st3 + 4 + 4 * cntT key (restT (lt.drop (i + 1)) d) + lowT lev key t (nxtT key (some y) (restT (lt.drop (i + 1)) d)) = tot) := Lib.hid (by
                        rw [cntT, if_pos hge, nxtT, if_pos hge] at heq2
                        omega)
                      have hb8 : decide (y.key ≥ key) = false := by simp; omega
                      have hb9 : decide (key ≤ y.key) = false := by simp; omega
                      clear heq2 hge
                      cases ds
                      · clear hb6
                        go_wp2_with fail
                        exact ⟨⟨i + 1, st3 + 4, some y, by simp, by omega, by simp, rfl, rfl, HQ, hE⟩, by simp [intOf]; omega⟩
                      · have hb7 := hb6 rfl
                        clear hb6
                        go_wp2_with fail
                        exact ⟨⟨i + 1, st3 + 4, some y, by simp, by omega, by simp, rfl, rfl, HQ, hE⟩, by simp [intOf]; omega⟩
                    · have HQ : Hid (st3 + 4 + lowT lev key t di = tot) := Lib.hid (by
                        rw [cntT, if_neg hge, nxtT, if_neg hge] at heq2
                        omega)
                      have hb8 : decide (y.key ≥ key) = true := by simp; omega
                      have hb9 : decide (key ≤ y.key) = true := by simp; omega
                      clear heq2 hge
                      cases ds
                      · clear hb6
                        go_wp2_with fail
                        exact ⟨⟨t, st3 + 4, di, rfl, by have h8 := HT.out; omega, by simp, rfl, rfl, HQ, hE.sub (.cons _ (List.Sublist.refl _))⟩, by simp [intOf]; try omega⟩
                      · have hb7 := hb6 rfl
                        clear hb6
                        go_wp2_with fail
                        exact ⟨⟨t, st3 + 4, di, rfl, by have h8 := HT.out; omega, by simp, rfl, rfl, HQ, hE.sub (.cons _ (List.Sublist.refl _))⟩, by simp [intOf]; try omega⟩
                · have hin : i = lt.length := by omega
                  subst hin
                  have hb5 : decide ((lt.length : Int) < (lt.length : Int)) = false := by simp
                  have HFIN : Hid (st3 + lowT lev key t di = tot) := Lib.hid (by
                    have h9 := heq.out
                    rw [List.drop_length] at h9
                    cases d <;> simpa [restT, cntT, nxtT] using h9)
                  clear hi hil heq
                  go_wp2_with fail
                  exact ⟨⟨t, st3, di, rfl, by have h8 := HT.out; omega, rfl, rfl, rfl, HFIN, hE.sub (.cons _ (List.Sublist.refl _))⟩, by simp [intOf]; try omega⟩
end Go.Proofs.YtnnjanaclgjneaaGreatDoor
