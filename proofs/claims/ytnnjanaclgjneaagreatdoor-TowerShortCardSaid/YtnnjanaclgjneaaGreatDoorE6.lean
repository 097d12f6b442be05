/- What is proved on the way to the statement, part 6 of 10: contracts of the functions, among other things in memory. -/
import Derived.Test.YtnnjanaclgjneaaGreatDoorE5
import Derived.Deep.AppendLies
import Derived.OneCell
import Derived.LoopIn

/- Lanes and searches: New, NewSearch, what they tell; the checkpoint; Step of a search over the model. -/
namespace Go.Proofs.YtnnjanaclgjneaaGreatDoor
open Go.RowKit Go.Maps
set_option maxRecDepth 100000

/-- A search's cells. -/
def srC (c : Nat) (k key : Int) (vs : Bool) (lp : Value) : List Value := [.pointer (some ⟨c, 0, none⟩), .int .i64 k, .int .u64 key, .bool vs, lp]

section
variable {w0 w : World} {L : List Item}
set_option maxHeartbeats 1600000 in
theorem newSearch_l (c : Nat) (k key : Int) (vs : Bool) (hE : Env w0 L w) :
    Calls Tryz.prog 145 #[.pointer (some ⟨c, 0, none⟩), .int .i64 k, .int .u64 key, .bool vs] w fun o w' => ∃ a, o = .returned (.pointer (some ⟨a, 0, none⟩)) ∧ Env w0 (boxI a (srC c k key vs (.pointer none)) :: L) w' := by
  have hE2 := hE.box w.heap.size rfl (srC c k key vs (.pointer none)) 280
  clear hE
  go_enter Tryz.func145, Tryz.ntmps145
  go_wp2_with fail
  go_ret
  exact ⟨_, rfl, hE2⟩
theorem newSearchNil_l (k key : Int) (vs : Bool) (w : World) :
    Calls Tryz.prog 145 #[.pointer none, .int .i64 k, .int .u64 key, .bool vs] w fun o w' => o = .returned (.pointer none) ∧ w' = w := by
  go_enter Tryz.func145, Tryz.ntmps145
  go_wp2
  go_ret
  exact ⟨rfl, rfl⟩
end

section
variable {w : World} {a c : Nat} {lv key : Int} {vs : Bool} {nx : Value} {st x y z W C X wd : Int} {pf : Bool} {pv : Int}
theorem lane_g {k : Int} {lp : Option Addr} (hb : Blk 0 w a (srC c k key vs (.pointer lp))) : Calls Tryz.prog 190 #[.pointer (some ⟨a, 0, none⟩)] w fun o w' => o = .returned (.pointer lp) ∧ w' = w := by
  have r1 := hb.rule
  unfold srC at r1
  go_enter Tryz.func190, Tryz.ntmps190
  go_wp2
  go_ret
  exact ⟨rfl, rfl⟩
end

section
variable {w0 w : World} {R : List Item} {sb : Nat} {S : ST} {k key : Int} {vs : Bool} {lp : Value}
set_option maxHeartbeats 3200000 in
theorem check_s (hE : Env w0 (boxI sb (srC S.c k key vs lp) :: LT S R) w) :
    Calls Tryz.prog 180 #[.pointer (some ⟨sb, 0, none⟩), .iface 26 (.pointer (some ⟨S.p, 0, none⟩))] w fun o w' => o = .returned (.int .i64 0) ∧ ∃ a, Env w0 (boxI a (laneC S.c 0 key vs (mvL 216 a) 0 4 0 k 0 0 0 0 false 0) :: boxI sb (srC S.c k key vs (.pointer (some ⟨a, 0, none⟩))) :: LT { S with ce := epI (S.f (1, 0, 0)), qc := { S.qc with l := wrap64 (S.qc.l + 1) } } R) w' := by
  have hc := check_w _ (rfl : S.f (1, 0, 0) = S.f (1, 0, 0)) 1 3 4 (by decide) (by decide) hE rfl rfl rfl
  simp only [List.set_cons_succ, List.set_cons_zero] at hc
  have HC := Lib.hid hc
  clear hc
  have r := hE.rule 0 rfl
  unfold srC at r
  go_enter Tryz.func180, Tryz.ntmps180
  go_wp2_with fail
  refine HC.out.mono ?_
  rintro o w1 ⟨rfl, hE1⟩
  replace hE1 : Env w0 (boxI sb (srC S.c k key vs lp) :: LT { S with ce := epI (S.f (1, 0, 0)), qc := { S.qc with l := wrap64 (S.qc.l + 1) } } R) w1 := hE1
  clear HC hE r
  generalize hS1 : ({ S with ce := epI (S.f (1, 0, 0)), qc := { S.qc with l := wrap64 (S.qc.l + 1) } } : ST) = S1 at *
  have HS1 := Lib.hid hS1
  clear hS1
  go_wp2_with fail
  refine Ord3.wp_chain [?_, ?_, ?_, ?_, ?_, ?_, ?_, ?_, ?_, ?_, ?_, ?_, ?_, ?_, ?_, ?_, ?_, ?_, ?_, ?_, ?_, ?_, ?_] [19, 22] (fun w' => ∃ l9, Blk 0 w' sb (srC S.c k key vs l9)) (Ord3.Stage fun κs => [Env w0 (boxI sb (srC S.c k key vs lp) :: LT S1 R), fun w' => ∃ a, κs.getD 0 undef = .pointer (some ⟨a, 0, none⟩) ∧ Env w0 (boxI a (laneC S.c 0 key vs (mvL 216 a) 0 4 0 k 0 0 0 0 false 0) :: boxI sb (srC S.c k key vs lp) :: LT S1 R) w', fun w' => ∃ a, Env w0 (boxI a (laneC S.c 0 key vs (mvL 216 a) 0 4 0 k 0 0 0 0 false 0) :: boxI sb (srC S.c k key vs (.pointer (some ⟨a, 0, none⟩))) :: LT S1 R) w']) (by kernel_rfl) (by kernel_rfl) (by kernel_rfl) ⟨lp, hE1.drew.get 0 rfl⟩ ⟨_, rfl, hE1.drew⟩ (fun hT => ?_)
  rotate_left 23
  have hT9 := Lib.hid hT
  clear hT
  repeat (first
    | (focus (refine Ord3.in_value (v := ?_) hT9.out (by decide) ?_ (by rfl) ?_ ?_; rotate_left 2; (focus (intro w5 hS; obtain ⟨l9, hS9⟩ := hS; have r1 := Blk.rule hS9; unfold srC at r1; go_simp <;> with_reducible rfl)); rotate_right; (focus rfl); (try simp only [Act.put, List.setIfInBounds_toArray, List.set_cons_zero, List.set_cons_succ])))
    | (focus (refine Ord3.in_off hT9.out (by decide) ?_ (by rfl) ?_; (focus rfl); (try simp only [Act.put, List.setIfInBounds_toArray, List.set_cons_zero, List.set_cons_succ])))
    | (focus (refine Ord3.in_call (v := ?_) (f := ?_) (args := ?_) hT9.out (by decide) ?_ (by rfl) ?_ ?_ ?_; rotate_left 4; (focus (intro w5 hS; obtain ⟨l9, hS9⟩ := hS; have r1 := Blk.rule hS9; unfold srC at r1; go_simp; constructor <;> with_reducible rfl)); (focus (intro w5 hS; (first | (with_reducible refine (root_any _ _).mono ?_; rintro o w6 ⟨rfl, hb6⟩; constructor; with_reducible rfl; exact ⟨hS.elim fun l9 h => ⟨l9, h.under hb6⟩, fun us h => Ord3.Stage.three h (fun h => h.over hb6) (fun h => h.elim fun a h => ⟨a, h.1, h.2.over hb6⟩) (fun h => h.elim fun a h => ⟨a, h.over hb6⟩)⟩)))); rotate_right; (focus rfl); (try simp only [Act.put, List.setIfInBounds_toArray, List.set_cons_zero, List.set_cons_succ]))))
  refine Ord3.in_turn (fun u => ∃ q, u = .pointer (some ⟨q, 0, none⟩)) _ ⟨0, rfl⟩ hT9.out rfl (by decide) (by rfl) ?_ (Or.inl rfl) (by rfl) ?_ ?_
  · rfl
  · rintro w7 hC7 ⟨P7, hP7, hA7⟩
    cases hP7
    go_simp
    simp only [Ord3.Lands]
    refine (new_l S.c 4 0 k 0 key vs hA7).mono ?_
    rintro o w8 ⟨a8, rfl, hE8⟩
    exact ⟨_, rfl, ⟨a8, rfl⟩, ⟨lp, hE8.get 1 rfl⟩, _, rfl, a8, rfl, hE8⟩
  rintro _ ⟨a9, rfl⟩
  (try simp only [Act.put, List.setIfInBounds_toArray, List.set_cons_zero, List.set_cons_succ])
  repeat (first
    | (focus (refine Ord3.in_value (v := ?_) hT9.out (by decide) ?_ (by rfl) ?_ ?_; rotate_left 2; (focus (intro w5 hS; obtain ⟨l9, hS9⟩ := hS; have r1 := Blk.rule hS9; unfold srC at r1; go_simp <;> with_reducible rfl)); rotate_right; (focus rfl); (try simp only [Act.put, List.setIfInBounds_toArray, List.set_cons_zero, List.set_cons_succ])))
    | (focus (refine Ord3.in_off hT9.out (by decide) ?_ (by rfl) ?_; (focus rfl); (try simp only [Act.put, List.setIfInBounds_toArray, List.set_cons_zero, List.set_cons_succ]))))
  refine Ord3.in_turn (fun u => u = undef) _ rfl hT9.out rfl (by decide) (by rfl) ?_ (Or.inr ⟨_, 19, [], rfl, by kernel_rfl, by kernel_rfl, rfl⟩) (by rfl) ?_ ?_
  · rfl
  · rintro w7 hC7 ⟨P7, hP7, hA7⟩
    cases hP7
    obtain ⟨a8, he, hA7⟩ := hA7
    cases he
    have r := hA7.rule 1 rfl
    unfold srC at r
    have g := hA7.thaw 1 rfl 4 (by simp [srC])
    go_simp
    simp only [Ord3.Lands]
    have h9 := hA7.put 1 rfl (j := 4) (by simp [srC]) (.pointer (some ⟨a9, 0, none⟩))
    exact ⟨trivial, ⟨_, h9.get 1 rfl⟩, _, rfl, a9, h9⟩
  rintro _ rfl
  (try simp only [Act.put, List.setIfInBounds_toArray, List.set_cons_zero, List.set_cons_succ])
  refine Ord3.in_nil rfl ?_
  rintro w9 hC9 ⟨P9, hP9, hA9⟩
  cases hP9
  obtain ⟨a8, hA9⟩ := hA9
  clear hT9 hC9 hE1
  go_wp2_with fail
  go_ret
  have h1 := HS1.out
  subst h1
  exact ⟨rfl, a8, hA9⟩
end
end Go.Proofs.YtnnjanaclgjneaaGreatDoor

/- Searches: Step over the model. -/
namespace Go.Proofs.YtnnjanaclgjneaaGreatDoor
open Go.RowKit Go.Maps
set_option maxRecDepth 100000

/-- What a search keeps. -/
def SmOk (T : Sm) : Prop := T.on = true → LmOk T.L ∧ Wf T.L.p
theorem search_ok {k key : Int} {vs : Bool} {T : Sm} {f : Plc → Int} (hk : In64 k) (hT : SmOk T) (hW : ∀ x, InU (f x)) (h0 : (searchM k key vs T f).1 = 0) : SmOk (searchM k key vs T f).2.1 := by
  intro hon
  by_cases h : T.on = true
  · have hM : searchM k key vs T f = (if (laneM 0 key vs T.e T.L f).1 = 1 then 1 else 0, { on := decide ((laneM 0 key vs T.e T.L f).1 ≠ 2), L := (laneM 0 key vs T.e T.L f).2.1, e := T.e, r := rollM T.e T.L f T.r }, (laneM 0 key vs T.e T.L f).2.2) := by unfold searchM; rw [if_pos h]
    rw [hM] at h0 hon ⊢
    obtain ⟨h1, h2⟩ := hT h
    have h3 : (laneM 0 key vs T.e T.L f).1 = 0 := by
      rcases lane_state 0 key vs T.e T.L f with h4 | h4 | h4
      · exact h4
      · rw [h4] at h0; exact absurd h0 (by simp)
      · rw [h4] at hon; exact absurd hon (by simp)
    exact lane_ok h1 hW h2 (by omega) h3
  · have hM : searchM k key vs T f = (0, { on := true, L := L0 (4, 0, k), e := epI (f (1, 0, 0)), r := T.r }, f) := by unfold searchM; rw [if_neg h]
    rw [hM]
    refine ⟨LmOk.start _, ?_⟩
    show Wf (4, 0, k)
    unfold In64 at hk
    unfold Wf In64
    simp
    exact hk

/-- How a search stands, and all that it needs. -/
def SrchR (w0 : World) (R : List Item) (sb : Nat) (k key : Int) (vs : Bool) (S : ST) (s : Int) (T : Sm) (w : World) : Prop :=
  S.ce = T.e ∧ S.cr = T.r ∧ ((T.on = false ∧ s = 0 ∧ (Env w0 (boxI sb (srC S.c k key vs (.pointer none)) :: LT S R) w ∨ ∃ a L, LaneR w0 (boxI sb (srC S.c k key vs (.pointer (some ⟨a, 0, none⟩))) :: R) a 0 key vs S 2 L w)) ∨ (T.on = true ∧ ∃ a, LaneR w0 (boxI sb (srC S.c k key vs (.pointer (some ⟨a, 0, none⟩))) :: R) a 0 key vs S s T.L w))
/-- All of a thread and its world behind a search's step. -/
def searchS (key : Int) (vs : Bool) (S : ST) (T : Sm) (G : Nat → Prop) : ST := if T.on then laneS 0 key vs S T.L G else { S with ce := epI (S.f (1, 0, 0)), qc := { S.qc with l := wrap64 (S.qc.l + 1) } }

section
variable {w0 w : World} {R : List Item} {sb : Nat} {S : ST} {k key : Int} {vs : Bool} {T : Sm} {lp : Value}
/-- A search's box from behind a thread's things to the front. -/
theorem Env.sfront {x : Item} (h : Env w0 (LT S (x :: R)) w) : Env w0 (x :: LT S R) w := h.perm (List.perm_middle (l₁ := [_, _, _, _]))
theorem check_r (hoff : T.on = false) (he : S.ce = T.e) (hr : S.cr = T.r) (hE : Env w0 (boxI sb (srC S.c k key vs lp) :: LT S R) w) :
    Calls Tryz.prog 180 #[.pointer (some ⟨sb, 0, none⟩), .iface 26 (.pointer (some ⟨S.p, 0, none⟩))] w fun o w' => o = .returned (.int .i64 (searchM k key vs T S.f).1) ∧ ∃ G', SrchR w0 R sb k key vs (searchS key vs S T G') (searchM k key vs T S.f).1 (searchM k key vs T S.f).2.1 w' := by
  have hM : searchM k key vs T S.f = (0, { on := true, L := L0 (4, 0, k), e := epI (S.f (1, 0, 0)), r := T.r }, S.f) := by unfold searchM; rw [hoff]; rfl
  have hS : ∀ G, searchS key vs S T G = { S with ce := epI (S.f (1, 0, 0)), qc := { S.qc with l := wrap64 (S.qc.l + 1) } } := fun G => by unfold searchS; rw [hoff]; rfl
  refine (check_s hE).mono ?_
  rintro o w1 ⟨rfl, a, hE1⟩
  rw [hM]
  refine ⟨rfl, S.G, ?_⟩
  rw [hS]
  refine ⟨rfl, hr, .inr ⟨rfl, a, mvL (fnL 0) a, 0, noI, noI, fun _ => ⟨⟨fun _ => rfl, fun h => absurd h (by simp [L0, isVal])⟩, fun h => absurd h (by simp [L0]), fun h => absurd h (by simp [L0])⟩, ?_⟩⟩
  have hE2 := hE1.perm (L' := boxI a (laneC S.c 0 key vs (mvL (fnL 0) a) 0 4 0 k 0 0 0 0 false 0) :: LT { S with ce := epI (S.f (1, 0, 0)), qc := { S.qc with l := wrap64 (S.qc.l + 1) } } (boxI sb (srC S.c k key vs (.pointer (some ⟨a, 0, none⟩))) :: R)) (List.Perm.cons _ (List.perm_middle (l₁ := [_, _, _, _])).symm)
  exact hE2.none2
set_option maxHeartbeats 3200000 in
theorem search_l (hT : SmOk T) (hg : Glo w0) (hm : S.m < maxLen) (h : SrchR w0 R sb k key vs S 0 T w) :
    Calls Tryz.prog 147 #[.pointer (some ⟨sb, 0, none⟩), .iface 26 (.pointer (some ⟨S.p, 0, none⟩))] w fun o w' => o = .returned (.int .i64 (searchM k key vs T S.f).1) ∧ ∃ G', SrchR w0 R sb k key vs (searchS key vs S T G') (searchM k key vs T S.f).1 (searchM k key vs T S.f).2.1 w' := by
  obtain ⟨he, hr, ⟨hoff, -, hE | ⟨a, L, nx, wd, B1, B2, -, hE⟩⟩ | ⟨hon, a, hR⟩⟩ := h
  · have HC := Lib.hid (check_r hoff he hr hE)
    have r := hE.rule 0 rfl
    unfold srC at r
    clear hE
    go_enter Tryz.func147, Tryz.ntmps147
    go_wp2_with fail
    refine HC.out.mono ?_
    rintro o w1 ⟨rfl, hP⟩
    go_wp2_with fail
    go_ret
    exact ⟨rfl, hP⟩
  · have hE1 : Env w0 (boxI sb (srC S.c k key vs (.pointer (some ⟨a, 0, none⟩))) :: LT S R) w := (hE.sub (.cons _ (.cons _ (.cons _ (List.Sublist.refl _))))).sfront
    have HC := Lib.hid (check_r hoff he hr hE1)
    have r := hE1.rule 0 rfl
    unfold srC at r
    have ra := hE.rule 0 rfl
    have RA := Lib.hid ra
    unfold laneV laneC at ra
    clear hE hE1
    go_enter Tryz.func147, Tryz.ntmps147
    go_wp2_with fail
    refine (state_r (o := 4) (s := 2) (show w.cell? ⟨a, 5, none⟩ = some (.int .i64 2) from RA.out 5)).mono ?_
    rintro o w0' ⟨rfl, rfl⟩
    go_wp2_with fail
    refine HC.out.mono ?_
    rintro o w1 ⟨rfl, hP⟩
    go_wp2_with fail
    go_ret
    exact ⟨rfl, hP⟩
  · obtain ⟨hL, hp⟩ := hT hon
    have hst := lane_l hL (show (0 : Int) ≤ 0 ∧ (0 : Int) ≤ 1000000 by omega) hp hg hm hR
    have hM : searchM k key vs T S.f = (if (laneM 0 key vs T.e T.L S.f).1 = 1 then 1 else 0, { on := decide ((laneM 0 key vs T.e T.L S.f).1 ≠ 2), L := (laneM 0 key vs T.e T.L S.f).2.1, e := T.e, r := rollM T.e T.L S.f T.r }, (laneM 0 key vs T.e T.L S.f).2.2) := by unfold searchM; rw [if_pos hon]
    have hS : ∀ G, searchS key vs S T G = laneS 0 key vs S T.L G := fun G => by unfold searchS; rw [if_pos hon]
    have hsl := lane_state 0 key vs S.ce T.L S.f
    obtain ⟨nx, wd, B1, B2, -, hE⟩ := hR
    have r : ∀ i, w.cell? ⟨sb, i, none⟩ = _ := hE.rule 7 rfl
    unfold srC at r
    have ra := hE.rule 0 rfl
    have RA := Lib.hid ra
    unfold laneV laneC at ra
    clear hE
    rw [hM]
    simp only [hS]
    rw [← he, ← hr]
    clear he hr
    have hce : ∀ G, (laneS 0 key vs S T.L G).ce = S.ce ∧ (laneS 0 key vs S T.L G).cr = rollM S.ce T.L S.f S.cr ∧ (laneS 0 key vs S T.L G).c = S.c := fun G => ⟨rfl, rfl, rfl⟩
    generalize hq : laneM 0 key vs S.ce T.L S.f = q at *
    obtain ⟨q1, q2, q3⟩ := q
    have HST := Lib.hid hst
    have HSL := Lib.hid hsl
    have HCE := Lib.hid hce
    clear hst hsl hq hM hS hce
    go_enter Tryz.func147, Tryz.ntmps147
    go_wp2_with fail
    refine (state_r (o := 4) (s := 0) (show w.cell? ⟨a, 5, none⟩ = some (.int .i64 0) from RA.out 5)).mono ?_
    rintro o w0' ⟨rfl, rfl⟩
    go_wp2_with fail
    refine HST.out.mono ?_
    rintro o w1 ⟨rfl, G', hR'⟩
    have HR' := Lib.hid hR'
    clear hR' HST r ra
    rcases HSL.out with h1 | h1 | h1
    · have h1' : q1 = 0 := h1
      subst h1'
      go_wp2_with fail
      go_ret
      refine ⟨rfl, G', (HCE.out G').1, (HCE.out G').2.1, .inr ⟨rfl, a, ?_⟩⟩
      exact HR'.out
    · have h1' : q1 = 1 := h1
      subst h1'
      go_wp2_with fail
      go_ret
      refine ⟨rfl, G', (HCE.out G').1, (HCE.out G').2.1, .inr ⟨rfl, a, ?_⟩⟩
      exact HR'.out
    · have h1' : q1 = 2 := h1
      subst h1'
      go_wp2_with fail
      go_ret
      refine ⟨rfl, G', (HCE.out G').1, (HCE.out G').2.1, .inl ⟨rfl, rfl, .inr ⟨a, q2, ?_⟩⟩⟩
      exact HR'.out
end
end Go.Proofs.YtnnjanaclgjneaaGreatDoor

/- Where a thread's and its world's things are. -/
namespace Go.Proofs.YtnnjanaclgjneaaGreatDoor
open Go.RowKit Go.Maps
set_option maxRecDepth 100000

/-- Where a thread's and its world's things are. -/
structure Bs where
  (c q p cc : Nat)
  (F : Nat → Prop)
  (kq : Nat)
end Go.Proofs.YtnnjanaclgjneaaGreatDoor

/- The reference's words in a row: what they are in memory; their contracts. -/
namespace Go.Proofs.YtnnjanaclgjneaaGreatDoor
open Go.RowKit Go.Maps
set_option maxRecDepth 100000

abbrev OneR := Plc × Int
def encO (e : OneR) : List Value := [.int .i64 e.1.1, .int .i64 e.1.2.1, .int .i64 e.1.2.2, .int .u64 e.2]
def flatO (l : List OneR) : List Value := l.flatMap encO
def getL : List OneR → Plc → Int
  | [], _ => 0
  | e :: l, x => if e.1 = x then e.2 else getL l x
def setL : List OneR → Plc → Int → List OneR
  | [], x, v => [(x, v)]
  | e :: l, x, v => if e.1 = x then (e.1, v) :: l else e :: setL l x v
theorem getL_set (x : Plc) (v : Int) : ∀ l : List OneR, getL (setL l x v) = upd (getL l) x v
  | [] => by funext y; simp only [setL, getL, upd]; split <;> split <;> simp_all
  | e :: l => by
    funext y
    by_cases h : e.1 = x
    · simp only [setL, if_pos h, getL, upd]
      by_cases hy : y = x
      · simp [hy, h]
      · have : ¬ e.1 = y := fun e' => hy (by rw [← e', h])
        simp [hy, this]
    · simp only [setL, if_neg h, getL, getL_set x v l]
      by_cases hy : e.1 = y
      · have : ¬ y = x := fun e' => h (by rw [hy, e'])
        simp [hy, upd, this]
      · simp [hy, upd]
theorem setL_keys (x : Plc) (v : Int) : ∀ l : List OneR, (setL l x v).map (·.1) = if x ∈ l.map (·.1) then l.map (·.1) else l.map (·.1) ++ [x]
  | [] => by simp [setL]
  | e :: l => by
    by_cases h : e.1 = x
    · simp [setL, h]
    · have ih := setL_keys x v l
      have h' : ¬ x = e.1 := fun e' => h e'.symm
      simp only [setL, if_neg h, List.map_cons, ih, List.mem_cons, h', false_or]
      split <;> simp
theorem setL_nodup {x : Plc} {v : Int} {l : List OneR} (h : (l.map (·.1)).Nodup) : ((setL l x v).map (·.1)).Nodup := by
  rw [setL_keys]
  split
  · exact h
  · rename_i hx
    exact List.nodup_append.2 ⟨h, by simp, fun a ha b hb e => hx (by simp at hb; rw [← hb, ← e]; exact ha)⟩
theorem setL_length (x : Plc) (v : Int) (l : List OneR) : (setL l x v).length ≤ l.length + 1 := by
  have := congrArg List.length (setL_keys x v l)
  simp only [List.length_map] at this
  rw [this]
  split <;> simp
theorem flatO_length (l : List OneR) : (flatO l).length = l.length * 4 := by
  induction l with
  | nil => rfl
  | cons x l ih => simp [flatO, encO] at *; omega
def dO : OneR := ((0, 0, 0), 0)
theorem flatO_get (l : List OneR) : ∀ (j c : Nat), j < l.length → c < 4 → (flatO l)[j * 4 + c]? = (encO (l.getD j dO))[c]? := by
  induction l with
  | nil => intro j c h; simp at h
  | cons x l ih =>
    intro j c hj hc
    have e : flatO (x :: l) = encO x ++ flatO l := by simp [flatO]
    cases j with
    | zero => rw [e, List.getElem?_append_left (by simp [encO]; omega)]; simp
    | succ j =>
      rw [e, List.getElem?_append_right (by simp [encO]; omega)]
      have := ih j c (by simpa using hj) hc
      have e2 : (j + 1) * 4 + c - (encO x).length = j * 4 + c := by simp [encO]; omega
      rw [e2, this]
      simp

/-- Block u is the reference's cells: the row l. -/
def IsU (w : World) (u : Nat) (F : Nat → Prop) (l : List OneR) : Prop :=
  (l.map (·.1)).Nodup ∧ ∃ v, Blk 0 w u [v] ∧ w.ownsRow 0 208 4 v l.length (flatO l) ∧ v.ownBlock ≠ some u ∧ ∀ k, F k ↔ (k = u ∨ v.ownBlock = some k)
theorem IsU.nodup {w : World} {u : Nat} {F : Nat → Prop} {l : List OneR} (h : IsU w u F l) : (l.map (·.1)).Nodup := h.1
theorem IsU.lt {w : World} {u : Nat} {F : Nat → Prop} {l : List OneR} (h : IsU w u F l) : ∀ k, F k → k < w.heap.size := by
  obtain ⟨-, v, hb, ho, hne, hF⟩ := h
  intro k hk
  rcases (hF k).1 hk with rfl | e
  · exact hb.1
  · exact ownsRow_lt ho k e
def refI (u : Nat) (F : Nat → Prop) (l : List OneR) : Item where
  F := F
  says := fun w => IsU w u F l
  loc := fun w1 w2 h hk hs => by
    obtain ⟨hnd, v, hb, ho, hne, hF⟩ := h
    exact ⟨hnd, v, hb.kept hs (hk u ((hF u).2 (.inl rfl))), ownsRow_kept ho fun k e => hk k ((hF k).2 (.inr e)), hne, hF⟩
/-- The slice, written out: what its cells hold. -/
theorem IsU.full {w : World} {u : Nat} {F : Nat → Prop} {l : List OneR} (h : IsU w u F l) : ∃ A cap, Blk 0 w u [Value.slice A l.length cap] ∧ w.ownsRow 0 208 4 (Value.slice A l.length cap) l.length (flatO l) ∧ (Value.slice A l.length cap).ownBlock ≠ some u ∧ ∀ k, F k ↔ (k = u ∨ (Value.slice A l.length cap).ownBlock = some k) := by
  obtain ⟨-, v, hb, ho, hne, hF⟩ := h
  rcases ho.2 with ⟨hv, h0⟩ | ⟨g, cap, cur, hv, rest⟩
  · have hl0 : l = [] := List.eq_nil_of_length_eq_zero h0
    subst hl0
    subst hv
    exact ⟨none, 0, hb, ho, hne, hF⟩
  · subst hv
    exact ⟨some ⟨g, 0, none⟩, cap, hb, ho, hne, hF⟩
theorem ownsRow_words {w : World} {l : List OneR} {A : Option Addr} {cap : Nat} (ho : w.ownsRow 0 208 4 (Value.slice A l.length cap) l.length (flatO l)) :
    l = [] ∨ ∃ g, A = some ⟨g, 0, none⟩ ∧ g < w.heap.size ∧ ∀ j, j < l.length → w.cell? ⟨g, j * 4, none⟩ = some (.int .i64 (l.getD j dO).1.1) ∧ w.cell? ⟨g, j * 4 + 1, none⟩ = some (.int .i64 (l.getD j dO).1.2.1) ∧
      w.cell? ⟨g, j * 4 + 2, none⟩ = some (.int .i64 (l.getD j dO).1.2.2) ∧ w.cell? ⟨g, j * 4 + 3, none⟩ = some (.int .u64 (l.getD j dO).2) := by
  rcases ho.2 with ⟨hv, h0⟩ | ⟨g, cap', cur, hv, _, hg, hn, hc, hcs, htk⟩
  · exact .inl (List.eq_nil_of_length_eq_zero h0)
  · simp only [Value.slice.injEq] at hv
    obtain ⟨rfl, -, rfl⟩ := hv
    refine .inr ⟨g, rfl, (Array.getElem?_eq_some_iff.1 hg).1, fun j hj => ?_⟩
    have each : ∀ c, c < 4 → w.cell? ⟨g, j * 4 + c, none⟩ = (encO (l.getD j dO))[c]? := fun c hc4 => by
      rw [← flatO_get l j c hj hc4, ← htk, List.getElem?_take_of_lt (by omega)]
      simp [World.cell?, hg]
    exact ⟨each 0 (by omega), each 1 (by omega), each 2 (by omega), each 3 (by omega)⟩
theorem IsU.row {w : World} {u : Nat} {F : Nat → Prop} {l : List OneR} (h : IsU w u F l) : ∃ A cap, (∀ i, w.cell? ⟨u, i, none⟩ = [Value.slice A l.length cap][i]?) ∧ u < w.heap.size ∧
    (l = [] ∨ ∃ g, A = some ⟨g, 0, none⟩ ∧ g < w.heap.size ∧ ∀ j, j < l.length → w.cell? ⟨g, j * 4, none⟩ = some (.int .i64 (l.getD j dO).1.1) ∧ w.cell? ⟨g, j * 4 + 1, none⟩ = some (.int .i64 (l.getD j dO).1.2.1) ∧
      w.cell? ⟨g, j * 4 + 2, none⟩ = some (.int .i64 (l.getD j dO).1.2.2) ∧ w.cell? ⟨g, j * 4 + 3, none⟩ = some (.int .u64 (l.getD j dO).2)) := by
  obtain ⟨A, cap, hb, ho, hne, hF⟩ := h.full
  exact ⟨A, cap, hb.rule, hb.1, ownsRow_words ho⟩

set_option maxHeartbeats 1600000 in
theorem refGet_at {u o : Nat} {vs : List Value} {A : Option Addr} {cap : Nat} {l : List OneR} {w : World} (a b d : Int) (hl : l.length ≤ 1000000) (hb : Blk 0 w u vs) (hvo : vs[o]? = some (.slice A l.length cap)) (hown : w.ownsRow 0 208 4 (.slice A l.length cap) l.length (flatO l)) :
    Calls Tryz.prog 88 #[.pointer (some ⟨u, o, none⟩), .agg #[.int .i64 a, .int .i64 b, .int .i64 d]] w fun e w' => e = .returned (.int .u64 (getL l (a, b, d))) ∧ Below w.heap.size w w' := by
  have hrow := ownsRow_words hown
  have r0 : w.cell? ⟨u, o, none⟩ = some (.slice A l.length cap) := by rw [hb.rule o, hvo]
  have hul := hb.1
  have hE := (Fr.start w).push w.heap.size rfl [.int .i64 a, .int .i64 b, .int .i64 d] 105
  have HROW := Lib.hid hrow
  have HR0 := Lib.hid r0
  clear hrow r0 hb hvo hown
  go_enter Tryz.func88, Tryz.ntmps88
  go_wp2_with fail
  go_loopw [5] (fun i wr => ∃ k : Nat, k ≤ l.length ∧ i = .int .i64 k ∧ getL l (a, b, d) = getL (l.drop k) (a, b, d) ∧ Fr w [(w.heap.size, [.int .i64 a, .int .i64 b, .int .i64 d])] wr) (fun i _ => l.length - (intOf i).toNat)
  case atStart => exact ⟨0, by omega, rfl, rfl, hE⟩
  case round =>
    obtain ⟨k, hk, rfl, hg, hEr⟩ := hrel
    clear hE
    have hB : ∀ w', Below w.heap.size w w' → w'.cell? ⟨u, o, none⟩ = some (.slice A l.length cap) := fun w' hb => by rw [hb.cell (p := ⟨u, o, none⟩) hul]; exact HR0.out
    have ru := hB _ hEr.below
    by_cases hlt : k < l.length
    · rcases HROW.out with h0 | ⟨g, rfl, hgl, hc⟩
      · rw [h0] at hlt; simp at hlt
      obtain ⟨c0, c1, c2, c3⟩ := hc k hlt
      have hdrop : l.drop k = l.getD k dO :: l.drop (k + 1) := by
        rw [List.drop_eq_getElem_cons hlt]; simp [hlt]
      rw [hdrop] at hg
      clear hdrop hc
      generalize l.getD k dO = o at *
      obtain ⟨⟨x, y, z⟩, v⟩ := o
      simp only at c0 c1 c2 c3
      have HC : Hid (∀ w', Below w.heap.size w w' → (w'.cell? ⟨g, k * 4, none⟩ = some (.int .i64 x) ∧ w'.cell? ⟨g, k * 4 + 1, none⟩ = some (.int .i64 y) ∧ w'.cell? ⟨g, k * 4 + 2, none⟩ = some (.int .i64 z) ∧ w'.cell? ⟨g, k * 4 + 3, none⟩ = some (.int .u64 v))) := Lib.hid fun w' hb => by
        refine ⟨?_, ?_, ?_, ?_⟩
        · rw [hb.cell (p := ⟨g, k * 4, none⟩) hgl]; exact c0
        · rw [hb.cell (p := ⟨g, k * 4 + 1, none⟩) hgl]; exact c1
        · rw [hb.cell (p := ⟨g, k * 4 + 2, none⟩) hgl]; exact c2
        · rw [hb.cell (p := ⟨g, k * 4 + 3, none⟩) hgl]; exact c3
      clear c0 c1 c2 c3
      have HG := Lib.hid hg
      have HB := Lib.hid hB
      clear hg hB
      go_wp2_with fail
      refine Ord.wp_chain [] (fun w' => Fr w [(w.heap.size, [.int .i64 a, .int .i64 b, .int .i64 d])] w') (fun _ _ => True) (by kernel_rfl) (by kernel_rfl) (by kernel_rfl) hEr.drew trivial (fun hT => ?_)
      have hT9 := Lib.hid hT
      clear hT
      repeat (first
        | (refine Ord.ch_value (v := ?_) hT9.out (by decide) (by rfl) ?_ ?_; rotate_left; (focus (intro w5 hS; have r := hS.rule 0 rfl; have r1 := HB.out _ hS.below; obtain ⟨c0, c1, c2, c3⟩ := HC.out _ hS.below; go_simp <;> with_reducible rfl)); (try simp only [Act.put, List.setIfInBounds_toArray, List.set_cons_zero, List.set_cons_succ]))
        | (refine Ord.ch_off hT9.out (by decide) (by rfl) ?_; (try simp only [Act.put, List.setIfInBounds_toArray, List.set_cons_zero, List.set_cons_succ])))
      refine Ord.ch_value (v := .bool (decide ((x, y, z) = (a, b, d)))) hT9.out (by decide) (by rfl) ?_ ?_
      · intro w5 hS
        clear hS HC HB HG HROW HR0
        by_cases e1 : x = a <;> by_cases e2 : y = b <;> by_cases e3 : z = d <;> simp [e1, e2, e3] <;> go_simp
      (try simp only [Act.put, List.setIfInBounds_toArray, List.set_cons_zero, List.set_cons_succ])
      refine Ord.InText.nil fun w5 hS => ?_
      clear hT9
      obtain ⟨hEr, hC⟩ := Ord.chain_end hS
      clear hS
      clear hC
      have r := hEr.rule 0 rfl
      have r1 := HB.out _ hEr.below
      obtain ⟨c0, c1, c2, c3⟩ := HC.out _ hEr.below
      by_cases hp : (x, y, z) = (a, b, d)
      · rw [decide_eq_true hp]
        go_wp2_with fail
        go_ret
        exact ⟨by rw [HG.out]; simp [getL, hp], hEr.below⟩
      · rw [decide_eq_false hp]
        go_wp2_with fail
        exact ⟨⟨k + 1, by omega, rfl, by rw [HG.out]; simp [getL, hp], hEr⟩, by simp [intOf]; omega⟩
    · go_wp2_with fail
      have : k = l.length := by omega
      subst this
      go_ret
      exact ⟨by rw [hg]; simp [getL], hEr.below⟩
theorem refGet_any {u : Nat} {F : Nat → Prop} {l : List OneR} {w : World} (a b d : Int) (hl : l.length ≤ 1000000) (hU : IsU w u F l) :
    Calls Tryz.prog 88 #[.pointer (some ⟨u, 0, none⟩), .agg #[.int .i64 a, .int .i64 b, .int .i64 d]] w fun e w' => e = .returned (.int .u64 (getL l (a, b, d))) ∧ Below w.heap.size w w' := by
  obtain ⟨A, cap, hb, ho, _, _⟩ := hU.full
  exact refGet_at a b d hl hb rfl ho
end Go.Proofs.YtnnjanaclgjneaaGreatDoor

/- The reference's words in a row: Set. -/
namespace Go.Proofs.YtnnjanaclgjneaaGreatDoor
open Go.RowKit Go.Maps
set_option maxRecDepth 100000

theorem infoOne : (Tryz.prog.info? 208).map (fun i => (i.zero, i.size, i.bytes)) = some (some (.agg #[.int .i64 0, .int .i64 0, .int .i64 0, .int .u64 0]), 4, 32) := by kernel_rfl
theorem flatO_append (l m : List OneR) : flatO (l ++ m) = flatO l ++ flatO m := by simp [flatO]
theorem flatO_put (l : List OneR) (k : Nat) (hk : k < l.length) (p : Plc) (v0 v : Int) (h : l.getD k dO = (p, v0)) : flatO (l.take k ++ (p, v) :: l.drop (k + 1)) = (flatO l).set (k * 4 + 3) (.int .u64 v) := by
  have e : l = l.take k ++ (p, v0) :: l.drop (k + 1) := by
    conv => lhs; rw [← List.take_append_drop k l, List.drop_eq_getElem_cons hk]
    rw [show l[k] = (p, v0) by simpa [hk] using h]
  conv => rhs; rw [e]
  have hlen : (flatO (l.take k)).length = k * 4 := by rw [flatO_length]; simp; omega
  rw [flatO_append, flatO_append, List.set_append_right _ _ (by omega), hlen]
  congr 1
  rw [show k * 4 + 3 - k * 4 = 3 by omega]
  simp [flatO, encO]
theorem setL_skip {x : Plc} {v : Int} {l : List OneR} {k : Nat} (hk : k < l.length) {p : Plc} {v0 : Int} (h : l.getD k dO = (p, v0)) (hp : ¬ p = x) (hs : setL l x v = l.take k ++ setL (l.drop k) x v) : setL l x v = l.take (k + 1) ++ setL (l.drop (k + 1)) x v := by
  have e : l[k] = (p, v0) := by simpa [hk] using h
  rw [hs, List.drop_eq_getElem_cons hk, e, setL, if_neg hp, List.take_succ_eq_append_getElem hk, e]
  simp
theorem setL_hit {x : Plc} {v : Int} {l : List OneR} {k : Nat} (hk : k < l.length) {v0 : Int} (h : l.getD k dO = (x, v0)) (hs : setL l x v = l.take k ++ setL (l.drop k) x v) : setL l x v = l.take k ++ (x, v) :: l.drop (k + 1) := by
  have e : l[k] = (x, v0) := by simpa [hk] using h
  rw [hs, List.drop_eq_getElem_cons hk, e, setL, if_pos rfl]
/-- One of the words written: nothing but the row turns. -/
theorem row_wrote {w w' : World} {l : List OneR} {g cap k : Nat} {x : Plc} {v0 v : Int} (ho : w.ownsRow 0 208 4 (Value.slice (some ⟨g, 0, none⟩) l.length cap) l.length (flatO l))
    (hk : k < l.length) (h : l.getD k dO = (x, v0)) (hB : Below w.heap.size w w') :
    (w'.setCell ⟨g, k * 4 + 3, none⟩ (.int .u64 v)).ownsRow 0 208 4 (Value.slice (some ⟨g, 0, none⟩) (l.take k ++ (x, v) :: l.drop (k + 1)).length cap) (l.take k ++ (x, v) :: l.drop (k + 1)).length (flatO (l.take k ++ (x, v) :: l.drop (k + 1))) ∧ Turn (fun j => j = g) w (w'.setCell ⟨g, k * 4 + 3, none⟩ (.int .u64 v)) := by
  have hgl := (ho.lt g rfl).2
  have ho' : w'.ownsRow 0 208 4 (Value.slice (some ⟨g, 0, none⟩) l.length cap) l.length (flatO l) := ownsRow_kept ho fun k e => hB.block k (by cases e; exact hgl)
  have hlen : (l.take k ++ (x, v) :: l.drop (k + 1)).length = l.length := by simp; omega
  refine ⟨?_, (Turn.of_below hB : Turn (fun j => j = g) w w').setCell (p := ⟨g, k * 4 + 3, none⟩) (fun _ => rfl) _⟩
  rw [hlen, flatO_put l k hk x v0 v h]
  exact (ho'.stored _ _).1

set_option maxHeartbeats 3200000 in
theorem refSet_at {u o : Nat} {vs : List Value} {A : Option Addr} {cap : Nat} {l : List OneR} {w : World} (a b d v : Int) (hl : l.length ≤ 1000000) (hblk : Blk 0 w u vs) (hvo : vs[o]? = some (.slice A l.length cap)) (hown : w.ownsRow 0 208 4 (Value.slice A l.length cap) l.length (flatO l)) (hsep : (Value.slice A l.length cap).ownBlock ≠ some u) :
    Calls Tryz.prog 60 #[.pointer (some ⟨u, o, none⟩), .agg #[.int .i64 a, .int .i64 b, .int .i64 d], .int .u64 v] w fun e w' => e = .returned (.tuple #[]) ∧ ∃ A' cap', Blk 0 w' u (vs.set o (.slice A' (setL l (a, b, d) v).length cap')) ∧ w'.ownsRow 0 208 4 (.slice A' (setL l (a, b, d) v).length cap') (setL l (a, b, d) v).length (flatO (setL l (a, b, d) v)) ∧
      Turn (fun k => k = u ∨ (Value.slice A l.length cap).ownBlock = some k) w w' ∧ ∀ k, (Value.slice A' (setL l (a, b, d) v).length cap').ownBlock = some k → (Value.slice A l.length cap).ownBlock = some k ∨ w.heap.size ≤ k := by
  have hrow := ownsRow_words hown
  have hol : o < vs.length := (List.getElem?_eq_some_iff.1 hvo).1
  have r0 : w.cell? ⟨u, o, none⟩ = some (.slice A l.length cap) := by rw [hblk.rule o, hvo]
  have hul := hblk.1
  have hE := (Fr.start w).push w.heap.size rfl [.int .i64 a, .int .i64 b, .int .i64 d] 105
  have HROW := Lib.hid hrow
  have HR0 := Lib.hid r0
  have HALL := Lib.hid (And.intro hblk (And.intro hown (And.intro hsep hvo)))
  clear hrow r0 hblk hown hsep hvo
  obtain ⟨i0, hi, hz0, hz1, hz2⟩ := info_parts infoOne
  go_enter Tryz.func60, Tryz.ntmps60
  go_wp2_with fail
  go_loopw [6] (fun i wr => ∃ k : Nat, k ≤ l.length ∧ i = .int .i64 k ∧ setL l (a, b, d) v = l.take k ++ setL (l.drop k) (a, b, d) v ∧ Fr w [(w.heap.size, [.int .i64 a, .int .i64 b, .int .i64 d])] wr) (fun i _ => l.length - (intOf i).toNat)
  case atStart => exact ⟨0, by omega, rfl, rfl, hE⟩
  case round =>
    obtain ⟨k, hk, rfl, hg, hEr⟩ := hrel
    clear hE
    have hB : ∀ w', Below w.heap.size w w' → w'.cell? ⟨u, o, none⟩ = some (.slice A l.length cap) := fun w' hb => by rw [hb.cell (p := ⟨u, o, none⟩) hul]; exact HR0.out
    have ru := hB _ hEr.below
    have HG := Lib.hid hg
    have HB := Lib.hid hB
    clear hg hB
    by_cases hlt : k < l.length
    · rcases HROW.out with h0 | ⟨g, rfl, hgl, hc⟩
      · rw [h0] at hlt; simp at hlt
      obtain ⟨c0, c1, c2, c3⟩ := hc k hlt
      clear hc
      have hgk := Lib.hid (rfl : l.getD k dO = l.getD k dO)
      generalize ho : l.getD k dO = o at c0 c1 c2 c3
      obtain ⟨⟨x, y, z⟩, v0⟩ := o
      simp only at c0 c1 c2 c3
      have HC : Hid (∀ w', Below w.heap.size w w' → (w'.cell? ⟨g, k * 4, none⟩ = some (.int .i64 x) ∧ w'.cell? ⟨g, k * 4 + 1, none⟩ = some (.int .i64 y) ∧ w'.cell? ⟨g, k * 4 + 2, none⟩ = some (.int .i64 z) ∧ w'.cell? ⟨g, k * 4 + 3, none⟩ = some (.int .u64 v0))) := Lib.hid fun w' hb => by
        refine ⟨?_, ?_, ?_, ?_⟩
        · rw [hb.cell (p := ⟨g, k * 4, none⟩) hgl]; exact c0
        · rw [hb.cell (p := ⟨g, k * 4 + 1, none⟩) hgl]; exact c1
        · rw [hb.cell (p := ⟨g, k * 4 + 2, none⟩) hgl]; exact c2
        · rw [hb.cell (p := ⟨g, k * 4 + 3, none⟩) hgl]; exact c3
      have HO := Lib.hid ho
      clear c0 c1 c2 c3 ho hgk
      go_wp2_with fail
      refine Ord.wp_chain [] (fun w' => Fr w [(w.heap.size, [.int .i64 a, .int .i64 b, .int .i64 d])] w') (fun _ _ => True) (by kernel_rfl) (by kernel_rfl) (by kernel_rfl) hEr.drew trivial (fun hT => ?_)
      have hT9 := Lib.hid hT
      clear hT
      repeat (first
        | (refine Ord.ch_value (v := ?_) hT9.out (by decide) (by rfl) ?_ ?_; rotate_left; (focus (intro w5 hS; have r := hS.rule 0 rfl; have r1 := HB.out _ hS.below; obtain ⟨c0, c1, c2, c3⟩ := HC.out _ hS.below; go_simp <;> with_reducible rfl)); (try simp only [Act.put, List.setIfInBounds_toArray, List.set_cons_zero, List.set_cons_succ]))
        | (refine Ord.ch_off hT9.out (by decide) (by rfl) ?_; (try simp only [Act.put, List.setIfInBounds_toArray, List.set_cons_zero, List.set_cons_succ])))
      refine Ord.ch_value (v := .bool (decide ((x, y, z) = (a, b, d)))) hT9.out (by decide) (by rfl) ?_ ?_
      · intro w5 hS
        clear hS HC HB HG HROW HR0 HALL HO
        by_cases e1 : x = a <;> by_cases e2 : y = b <;> by_cases e3 : z = d <;> simp [e1, e2, e3] <;> go_simp
      (try simp only [Act.put, List.setIfInBounds_toArray, List.set_cons_zero, List.set_cons_succ])
      refine Ord.InText.nil fun w5 hS => ?_
      clear hT9
      obtain ⟨hEr, hC⟩ := Ord.chain_end hS
      clear hS
      clear hC
      have r := hEr.rule 0 rfl
      have r1 := HB.out _ hEr.below
      obtain ⟨c0, c1, c2, c3⟩ := HC.out _ hEr.below
      by_cases hp : (x, y, z) = (a, b, d)
      · rw [decide_eq_true hp]
        have hgl5 : g < w5.heap.size := Nat.lt_of_lt_of_le hgl hEr.below.size
        have hz : w5.frozen? ⟨g, k * 4 + 3, none⟩ = false := (ownsRow_kept HALL.out.2.1 fun k e => hEr.below.block k ((HALL.out.2.1.lt k e).2)).frozenAt _
        go_wp2_with fail
        refine bodyPost_ret (results_none rfl _ _ _) rfl ?_
        have hgd := HO.out
        rw [hp] at hgd
        obtain ⟨h1, h2⟩ := row_wrote (v := v) HALL.out.2.1 hlt hgd hEr.below
        have hgu : u ≠ g := fun e => HALL.out.2.2.1 (by simp [Value.ownBlock, e])
        have hlen : (setL l (a, b, d) v).length = l.length := by rw [setL_hit hlt hgd HG.out]; simp; omega
        have hb1 : Blk 0 w5 u vs := HALL.out.1.kept hEr.below.size (hEr.below.block u HALL.out.1.1)
        refine ⟨rfl, some ⟨g, 0, none⟩, cap, ?_, by rw [setL_hit hlt hgd HG.out]; exact h1, h2.mono fun k _ e => .inr (by simp [Value.ownBlock, e]), fun k e => .inl (by simpa [Value.ownBlock] using e)⟩
        have evs : vs.set o (.slice (some ⟨g, 0, none⟩) (setL l (a, b, d) v).length cap) = vs := by
          apply List.ext_getElem?
          intro j
          rw [List.getElem?_set]
          split
          · rename_i e; subst e; rw [HALL.out.2.2.2, hlen]
          · rfl
        rw [evs]
        exact hb1.kept (by simp) (Below.heap_setCell _ _ _ _ hgu)
      · rw [decide_eq_false hp]
        go_wp2_with fail
        exact ⟨⟨k + 1, by omega, rfl, setL_skip hlt HO.out hp HG.out, hEr⟩, by simp [intOf]; omega⟩
    · go_wp2_with fail
      have : k = l.length := by omega
      subst this
      obtain ⟨hblk, hown, hsep, hvo⟩ := HALL.out
      have hsz := hEr.below.size
      have hblk1 : Blk 0 wr u vs := hblk.kept hsz (hEr.below.block u hul)
      have hown1 : wr.ownsRow 0 208 4 (Value.slice A l.length cap) l.length (flatO l) := ownsRow_kept hown fun k e => hEr.below.block k ((hown.lt k e).2)
      have happ := run_append_lies (P := Tryz.prog) (wr.drew.alloc (.cells #[.int .i64 a, .int .i64 b, .int .i64 d, .int .u64 v] 208)) 137 137 0 208 i0 (.agg #[.int .i64 0, .int .i64 0, .int .i64 0, .int .u64 0]) 4 32 Tryz.underlying137 hi hz0 hz1 hz2 rfl (by decide)
        (Value.slice A l.length cap) l.length (flatO l) (hown1.drew.alloc _) ⟨wr.heap.size, 0, none⟩ 1 1 [.int .i64 a, .int .i64 b, .int .i64 d, .int .u64 v] rfl (cells_new _ _ _) (by simp [Value.oneCell']) (by omega) (by simp [maxLen]; omega) (by omega) (by simp) _ rfl
      obtain ⟨g, cap', W2, hrun, hown2, hgrow, hg2, hg2l⟩ := happ
      have hW1 := Below.alloc (Below.refl wr.heap.size wr.drew) (show wr.heap.size ≤ wr.drew.heap.size from Nat.le_refl _) (.cells #[.int .i64 a, .int .i64 b, .int .i64 d, .int .u64 v] 208)
      have hne2 : ∀ k, k < w.heap.size + 1 → some k ≠ (Value.slice A l.length cap).ownBlock → W2.heap[k]? = wr.heap[k]? := fun k hk hn => by
        have h1 := hEr.lt 0 rfl
        have h2 := hgrow.block k (by simp; omega) hn
        exact h2.trans (hW1.block k (by omega))
      have hblk2 : Blk 0 W2 u vs := hblk1.kept (by have := hgrow.size; simp at this; omega) (hne2 u (by omega) (fun e => hsep e.symm))
      have hgu : g ≠ u := fun e => by
        rcases hg2 with h | h
        · exact hsep (by rw [h, e])
        · rw [e] at h; simp at h; omega
      have hEd : Fr w [(w.heap.size, [.int .i64 a, .int .i64 b, .int .i64 d])] wr.drew := hEr.drew
      have hbx := hEr.2 _ (List.mem_singleton.2 rfl)
      have hB1 : Blk w.heap.size (wr.drew.alloc (.cells #[.int .i64 a, .int .i64 b, .int .i64 d, .int .u64 v] 208)) w.heap.size [.int .i64 a, .int .i64 b, .int .i64 d] := hbx.drew.more _
      have hB2 : Blk w.heap.size W2 w.heap.size [.int .i64 a, .int .i64 b, .int .i64 d] := hbx.kept (by have := hgrow.size; simp at this; omega) (hne2 _ (by omega) fun e => by
        have := (hown.lt _ e.symm).2
        omega)
      have hB3 : Blk w.heap.size (W2.setCell ⟨u, o, none⟩ (.slice (some ⟨g, 0, none⟩) (l.length + 1) cap')) w.heap.size [.int .i64 a, .int .i64 b, .int .i64 d] := hB2.kept (by simp) (Below.heap_setCell _ _ _ _ (by simp; omega))
      have HW : Hid ((∀ i, wr.drew.cell? ⟨w.heap.size, i, none⟩ = [Value.int .i64 a, .int .i64 b, .int .i64 d][i]?) ∧ (wr.drew.cell? ⟨u, o, none⟩ = some (.slice A l.length cap)) ∧ ((wr.drew.alloc (.cells #[.int .i64 a, .int .i64 b, .int .i64 d, .int .u64 v] 208)).cell? ⟨u, o, none⟩ = some (.slice A l.length cap))) := Lib.hid ⟨hbx.rule, by rw [hblk1.drew.rule o, hvo], by rw [(hblk1.drew.more _).rule o, hvo]⟩
      have HB1 := Lib.hid hB1.rule
      have HB2 : Hid ((∀ i, W2.cell? ⟨w.heap.size, i, none⟩ = [Value.int .i64 a, .int .i64 b, .int .i64 d][i]?) ∧ W2.cell? ⟨u, o, none⟩ = some (.slice A l.length cap) ∧ W2.frozen? ⟨u, o, none⟩ = false ∧ u < W2.heap.size) := Lib.hid ⟨hB2.rule, by rw [hblk2.rule o, hvo], hblk2.thaw o hol, hblk2.1⟩
      have HB3 := Lib.hid hB3.rule
      have HRUN := Lib.hid hrun
      have HEND := Lib.hid (And.intro hown2 (And.intro hgrow (And.intro hg2 (And.intro hg2l (And.intro hblk2 (And.intro hgu (And.intro hsz (And.intro hEr.below (And.intro hvo hW1)))))))))
      clear hB1 hB2 hB3 hrun hown2 hgrow hg2 hg2l hblk2 hgu hsz hblk1 hown1 hbx hEd hne2 hblk hown hsep hvo hW1 ru
      go_wp2_with fail
      refine Ord.wp_chain2 [8, 9, 12] (fun w' => ∀ i, w'.cell? ⟨w.heap.size, i, none⟩ = [Value.int .i64 a, .int .i64 b, .int .i64 d][i]?) (fun j w' => [wr.drew, wr.drew.alloc (.cells #[.int .i64 a, .int .i64 b, .int .i64 d, .int .u64 v] 208), W2, W2.setCell ⟨u, o, none⟩ (.slice (some ⟨g, 0, none⟩) (l.length + 1) cap')][j]? = some w') (by kernel_rfl) (by kernel_rfl) (by kernel_rfl) HW.out.1 rfl (fun hT => ?_)
      have hT9 := Lib.hid hT
      clear hT
      repeat (refine Ord.ch2_value (v := ?_) hT9.out (by decide) (by rfl) ?_ ?_; rotate_left; (focus (intro w5 hS; skip; go_simp <;> with_reducible rfl)); (try simp only [Act.put, List.setIfInBounds_toArray, List.set_cons_zero, List.set_cons_succ]))
      refine Ord.ch2_early 1 hT9.out (by decide) (by rfl) (by kernel_rfl) (by decide) (by rfl) (v := .slice A l.length cap) ?_ ?_
      · intro w5 j hj hS hA
        have r1 : w5.cell? ⟨u, o, none⟩ = some (.slice A l.length cap) := by
          rcases j with _ | _ | j
          · cases hA; exact HW.out.2.1
          · cases hA; exact HW.out.2.2
          · omega
        go_simp <;> with_reducible rfl
      (try simp only [Act.put, List.setIfInBounds_toArray, List.set_cons_zero, List.set_cons_succ])
      repeat (refine Ord.ch2_value (v := ?_) hT9.out (by decide) (by rfl) ?_ ?_; rotate_left; (focus (intro w5 hS; skip; go_simp <;> with_reducible rfl)); (try simp only [Act.put, List.setIfInBounds_toArray, List.set_cons_zero, List.set_cons_succ]))
      refine Ord.ch2_turn 0 hT9.out (by rfl) (by decide) (Or.inl rfl) (by rfl) (v := .slice (some ⟨wr.heap.size, 0, none⟩) 1 1) ?_ ?_
      · intro w5 hS hA
        cases hA
        go_simp
        simp only [Ord.LandsIn]
        exact ⟨trivial, HB1.out, trivial⟩
      (try simp only [Act.put, List.setIfInBounds_toArray, List.set_cons_zero, List.set_cons_succ])
      refine Ord.ch2_turn 1 hT9.out (by rfl) (by decide) (Or.inr ⟨_, rfl, by kernel_rfl⟩) (by rfl) (v := .slice (some ⟨g, 0, none⟩) (l.length + 1) cap') ?_ ?_
      · intro w5 hS hA
        cases hA
        refine append_lands rfl HRUN.out (by rfl) (by rfl) ⟨HB2.out.1, rfl⟩
      (try simp only [Act.put, List.setIfInBounds_toArray, List.set_cons_zero, List.set_cons_succ])
      repeat (refine Ord.ch2_value (v := ?_) hT9.out (by decide) (by rfl) ?_ ?_; rotate_left; (focus (intro w5 hS; skip; go_simp <;> with_reducible rfl)); (try simp only [Act.put, List.setIfInBounds_toArray, List.set_cons_zero, List.set_cons_succ]))
      refine Ord.ch2_turn 2 hT9.out (by rfl) (by decide) (Or.inr ⟨_, rfl, by kernel_rfl⟩) (by rfl) (v := undef) ?_ ?_
      · intro w5 hS hA
        cases hA
        obtain ⟨-, r1, z1, hcl⟩ := HB2.out
        go_simp
        exact ⟨rfl, HB3.out, rfl⟩
      (try simp only [Act.put, List.setIfInBounds_toArray, List.set_cons_zero, List.set_cons_succ])
      refine Ord.InText.nil fun w5 hS => ?_
      clear hT9
      obtain ⟨hC, hA⟩ := Ord.chain2_end hS
      clear hS
      cases hA
      go_wp2_with fail
      go_end0
      obtain ⟨hown2, hgrow, hg2, hg2l, hblk2, hgu, hsz, hbel, hvo, hW1⟩ := HEND.out
      have e2 : setL l (a, b, d) v = l ++ [((a, b, d), v)] := by simpa [setL] using HG.out
      rw [e2, flatO_append, List.length_append]
      refine ⟨rfl, some ⟨g, 0, none⟩, cap', hblk2.set hol _, ownsRow_setCell_other hown2 (by simp [Value.ownBlock, hgu]) _, ?_, fun k e => ?_⟩
      · exact (((((Turn.of_below hbel : Turn (fun k => k = u ∨ (Value.slice A l.length cap).ownBlock = some k) w wr).drew).alloc _).grown hgrow (fun k hk e => .inr e)).setCell (p := ⟨u, o, none⟩) (fun _ => .inl rfl) _)
      · rcases hg2 with h | h
        · exact .inl (by rw [h]; simpa [Value.ownBlock] using e)
        · right
          have : k = g := by simpa [Value.ownBlock, eq_comm] using e
          rw [this, h]; simp; omega
theorem refSet_any {u : Nat} {F : Nat → Prop} {l : List OneR} {w : World} (a b d v : Int) (hl : l.length ≤ 1000000) (hU : IsU w u F l) :
    Calls Tryz.prog 60 #[.pointer (some ⟨u, 0, none⟩), .agg #[.int .i64 a, .int .i64 b, .int .i64 d], .int .u64 v] w fun e w' => e = .returned (.tuple #[]) ∧ ∃ F', IsU w' u F' (setL l (a, b, d) v) ∧ Step F F' w w' := by
  obtain ⟨A, cap, hblk, hown, hsep, hF⟩ := hU.full
  refine (refSet_at a b d v hl hblk rfl hown hsep).mono ?_
  rintro e w' ⟨he, A', cap', h1, h2, h3, h4⟩
  have hu : u < w.heap.size := hblk.1
  refine ⟨he, fun k => k = u ∨ (Value.slice A' (setL l (a, b, d) v).length cap').ownBlock = some k, ⟨setL_nodup hU.nodup, _, h1, h2, fun e => ?_, fun k => Iff.rfl⟩, h3.mono fun k _ e => (hF k).2 e, fun k hk => ?_⟩
  · rcases h4 u e with h | h
    · exact hsep h
    · omega
  · rcases hk with rfl | hk
    · exact .inl ((hF _).2 (.inl rfl))
    · rcases h4 k hk with h | h
      · exact .inl ((hF _).2 (.inr h))
      · exact .inr h
theorem IsU.over {w w' : World} {u : Nat} {F : Nat → Prop} {l : List OneR} (h : IsU w u F l) (hb : Below w.heap.size w w') : IsU w' u F l := (refI u F l).loc w w' h (fun k hk => hb.block k (h.lt k hk)) hb.size
end Go.Proofs.YtnnjanaclgjneaaGreatDoor

/- The reference's cells among other things. -/
namespace Go.Proofs.YtnnjanaclgjneaaGreatDoor
open Go.RowKit Go.Maps
set_option maxRecDepth 100000

section
variable {w0 w w' : World} {L : List Item} {u : Nat} {F F' : Nat → Prop} {l l' : List OneR}
theorem Env.ref (h : Env w0 L w) (i : Nat) (hi : L[i]? = some (refI u F l)) : IsU w u F l := h.get i hi
theorem Env.turnU (h : Env w0 L w) (i : Nat) (hi : L[i]? = some (refI u F l)) (hU : IsU w' u F' l') (hs : Step F F' w w') : Env w0 (L.set i (refI u F' l')) w' := h.step i (refI u F' l') hi hs hU hU.lt
end
structure LOk (l : List OneR) (N : Nat) : Prop where
  nodup : (l.map (·.1)).Nodup
  len : l.length ≤ N
theorem LOk.set {l : List OneR} {N : Nat} (h : LOk l N) (x : Plc) (v : Int) : LOk (setL l x v) (N + 1) := ⟨setL_nodup h.1, by have := setL_length x v l; have := h.2; omega⟩
theorem LOk.more {l : List OneR} {N : Nat} (h : LOk l N) : LOk l (N + 1) := ⟨h.1, by have := h.2; omega⟩
section
variable {w0 w w' : World} {L L' : List Item}
theorem Env.newU (h : Env w0 L w) (n : Nat) (hn : w.heap.size = n) (t : TypeId) : Env w0 (refI n (fun k => k = n) [] :: L) (w.alloc (.cells #[.slice none 0 0] t)) := by
  subst hn
  refine h.add (refI w.heap.size (fun k => k = w.heap.size) []) ((Below.refl _ _).alloc (Nat.le_refl _) _) ⟨List.nodup_nil, .slice none 0 0, Blk.new 0 w _ t, ⟨rfl, .inl ⟨rfl, rfl⟩⟩, by simp [Value.ownBlock], fun k => by simp [Value.ownBlock]⟩ fun k hk => ?_
  have hk : k = w.heap.size := hk
  subst hk; simp
theorem Env.addU {u : Nat} {F : Nat → Prop} {l : List OneR} (h : Env w0 L w) (hU : IsU w' u F l) (hF : ∀ k, F k → w.heap.size ≤ k) (hb : Below w.heap.size w w') : Env w0 (refI u F l :: L) w' :=
  h.add (refI u F l) hb hU fun k hk => ⟨hF k hk, hU.lt k hk⟩
end
end Go.Proofs.YtnnjanaclgjneaaGreatDoor

/- Contracts of layer 2: the reference's functions. -/
namespace Go.Proofs.YtnnjanaclgjneaaGreatDoor
open Go.RowKit
set_option maxRecDepth 100000

set_option maxHeartbeats 800000 in
theorem refLinkIs_any (m : Bool) (s v : Int) (w : World) :
    Calls Tryz.prog 160 #[.agg #[.bool m, .int .i64 s, .int .i64 v]] w fun e w' => e = .returned (.bool (isL s v)) ∧ Below w.heap.size w w' := by
  by_cases h1 : 0 ≤ s
  · by_cases h2 : s < 8388608
    · by_cases h3 : 0 ≤ v
      · go_enter Tryz.func160, Tryz.ntmps160
        go_wp2
        go_ret
        exact ⟨ret_bool (by rw [Bool.eq_iff_iff]; simp [isL]; omega), (Below.refl _ _).alloc (Nat.le_refl _) _⟩
      · have hd : decide (0 ≤ v) = false := by simpa using h3
        go_enter Tryz.func160, Tryz.ntmps160
        go_wp2
        go_ret
        exact ⟨ret_bool (by simp [isL]; omega), (Below.refl _ _).alloc (Nat.le_refl _) _⟩
    · have hd : decide (s < 8388608) = false := by simpa using h2
      go_enter Tryz.func160, Tryz.ntmps160
      go_wp2
      go_ret
      exact ⟨ret_bool (by simp [isL]; omega), (Below.refl _ _).alloc (Nat.le_refl _) _⟩
  · have hd : decide (0 ≤ s) = false := by simpa using h1
    go_enter Tryz.func160, Tryz.ntmps160
    go_wp2
    go_ret
    exact ⟨ret_bool (by simp [isL]; omega), (Below.refl _ _).alloc (Nat.le_refl _) _⟩

set_option maxHeartbeats 800000 in
theorem refWord_any (m : Bool) (s v : Int) (w : World) :
    Calls Tryz.prog 115 #[.agg #[.bool m, .int .i64 s, .int .i64 v]] w fun e w' => e = .returned (.int .u64 (wordI m s v)) ∧ Below w.heap.size w w' := by
  cases h : isL s v
  · have H := Lib.hid h
    clear h
    go_enter Tryz.func115, Tryz.ntmps115
    go_wp2_with fail
    refine (refLinkIs_any m s v _).mono ?_
    rintro e w1 ⟨rfl, hb⟩
    rw [H.out]
    go_wp2_with fail
    go_ret
    exact ⟨ret_int (wordI_no H.out).symm, ((Below.refl _ _).alloc (Nat.le_refl _) _).trans (hb.mono (by simp))⟩
  · have hp := isL_parts h
    have H := Lib.hid h
    clear h
    obtain ⟨k0, k1, k2, k3⟩ := hp
    go_enter Tryz.func115, Tryz.ntmps115
    go_wp2_with fail
    refine (refLinkIs_any m s v _).mono ?_
    rintro e w1 ⟨rfl, hb⟩
    obtain ⟨d0, d1, d2, hB, hs⟩ := hold3 (n := w.heap.size) (w := w) (x := .bool m) (y := .int .i64 s) (z := .int .i64 v) (by simp) (by simp) (by simp) ((Below.refl _ _).alloc (Nat.le_refl _) _) (by simp) hb
    clear hb
    rw [H.out]
    cases m
    · have HW := Lib.hid (wordI_yes (m := false) H.out)
      go_wp2_with fail
      go_ret
      exact ⟨ret_int (by rw [HW.out]; simp [bitI]; omega), hB⟩
    · have HW := Lib.hid (wordI_yes (m := true) H.out)
      go_wp2_with fail
      go_ret
      exact ⟨ret_int (by rw [HW.out]; simp [bitI]; omega), hB⟩

set_option maxHeartbeats 800000 in
theorem refOf_any (x : Int) (w : World) (h0 : 0 ≤ x) (h1 : x ≤ 18446744073709551615) :
    Calls Tryz.prog 159 #[.int .u64 x] w fun e w' => e = .returned (.agg #[.bool (markB x), .int .i64 (slotI x), .int .i64 (verI x)]) ∧ Below w.heap.size w w' := by
  obtain ⟨s0, s1⟩ := slotI_in x
  obtain ⟨v0, v1⟩ := verI_in x
  go_enter Tryz.func159, Tryz.ntmps159
  go_wp2_with fail
  exact bodyPost_ret (v := .agg #[.bool (markB x), .int .i64 (slotI x), .int .i64 (verI x)]) (by simp [results, Tryz.results159, go_sem, markB, slotI, verI]) rfl ⟨rfl, (Below.refl _ _).alloc (Nat.le_refl _) _⟩
end Go.Proofs.YtnnjanaclgjneaaGreatDoor

/- The reference's thread: contracts. -/
namespace Go.Proofs.YtnnjanaclgjneaaGreatDoor
open Go.RowKit Go.Maps
set_option maxRecDepth 100000

/-- The reference's cells. -/
def urv (k s b h l e : Int) (A : Option Addr) (n c : Nat) (N hs r : Int) : List Value := [.int .i64 k, .int .i64 s, .int .i64 b, .int .i64 h, .int .i64 l, .int .i64 e, .slice A n c, .int .i64 N, .int .i64 hs, .int .i64 r]
theorem epI_in {x : Int} (hx : InU x) : 0 ≤ epI x ∧ epI x ≤ 9223372036854775807 := by
  unfold InU at hx
  unfold epI
  split <;> omega

theorem epoch13_any (w : World) : Calls Tryz.prog 61 #[] w fun e w' => e = .returned (.agg #[.int .i64 1, .int .i64 0, .int .i64 0]) ∧ Below w.heap.size w w' := by
  go_enter Tryz.func61, Tryz.ntmps61
  go_wp2
  exact bodyPost_ret (v := .agg #[.int .i64 1, .int .i64 0, .int .i64 0]) (by simp [results, Tryz.results61, go_sem]) rfl ⟨rfl, (Below.refl _ _).alloc (Nat.le_refl _) _⟩
end Go.Proofs.YtnnjanaclgjneaaGreatDoor

/- The reference's thread: contracts. -/
namespace Go.Proofs.YtnnjanaclgjneaaGreatDoor
open Go.RowKit Go.Maps
set_option maxRecDepth 100000

set_option maxHeartbeats 800000 in
theorem rmarked_any (x : Int) (w : World) (hx : InU x) :
    Calls Tryz.prog 185 #[.int .u64 x] w fun o w' => o = .returned (.bool (markB x)) ∧ Below w.heap.size w w' := by
  unfold InU at hx
  have hfm : ∀ (v : World) (m : Bool) (s b : Int), (Instr.field 219 (.agg #[.bool m, .int .i64 s, .int .i64 b]) 0).run Tryz.prog v = .ok (.bool m) v := fun v m s b => by kernel_rfl
  go_enter Tryz.func185, Tryz.ntmps185
  go_wp2_with fail
  refine (refOf_any x _ hx.1 hx.2).mono ?_
  rintro o w1 ⟨rfl, hb⟩
  go_wp2_with fail
  go_ret
  exact ⟨rfl, hb⟩
section
variable {w : World} {u n c : Nat} {A : Option Addr} {k s b h l e N hs r : Int}
set_option maxHeartbeats 800000 in
theorem rto_c (a : Int) (hb : Blk 0 w u (urv k s b h l e A n c N hs r)) :
    Calls Tryz.prog 136 #[.pointer (some ⟨u, 0, none⟩), .int .i64 a] w fun o w' => o = .returned (.int .u64 (wordI false a e)) ∧ Below w.heap.size w w' := by
  have r1 := hb.rule
  unfold urv at r1
  clear hb
  go_enter Tryz.func136, Tryz.ntmps136
  go_wp2_with fail
  refine (refWord_any false a e _).mono ?_
  rintro o w1 ⟨rfl, hb⟩
  go_wp2_with fail
  go_ret
  exact ⟨rfl, hb⟩
set_option maxHeartbeats 800000 in
theorem rmark_c (x a : Int) (hx : InU x) (hb : Blk 0 w u (urv k s b h l e A n c N hs r)) :
    Calls Tryz.prog 149 #[.pointer (some ⟨u, 0, none⟩), .int .u64 x, .int .i64 a] w fun o w' => o = .returned (.int .u64 (markedW x a e)) ∧ Below w.heap.size w w' := by
  cases hB : markB x
  · have hm : markedW x a e = wordI true a e := by simp [markedW, hB]
    have HB := Lib.hid hB
    have HM := Lib.hid hm
    have HX := Lib.hid hx
    clear hB hm hx
    go_enter Tryz.func149, Tryz.ntmps149
    go_wp2_with fail
    refine (rmarked_any x _ HX.out).mono ?_
    rintro o w1 ⟨rfl, hb1⟩
    rw [HB.out]
    have r1 := (hb.under hb1).rule
    unfold urv at r1
    clear hb
    go_wp2_with fail
    refine (refWord_any true a e _).mono ?_
    rintro o w2 ⟨rfl, hb2⟩
    go_wp2_with fail
    go_ret
    exact ⟨ret_int HM.out.symm, hb1.trans (hb2.mono hb1.size)⟩
  · have hm : markedW x a e = x := by simp [markedW, hB]
    have HB := Lib.hid hB
    have HM := Lib.hid hm
    have HX := Lib.hid hx
    clear hB hm hx hb
    go_enter Tryz.func149, Tryz.ntmps149
    go_wp2_with fail
    refine (rmarked_any x _ HX.out).mono ?_
    rintro o w1 ⟨rfl, hb1⟩
    rw [HB.out]
    go_wp2_with fail
    go_ret
    exact ⟨ret_int HM.out.symm, hb1⟩
end
end Go.Proofs.YtnnjanaclgjneaaGreatDoor

/- The reference's Cell, Slot. -/
namespace Go.Proofs.YtnnjanaclgjneaaGreatDoor
open Go.RowKit Go.Maps
set_option maxRecDepth 100000

set_option maxHeartbeats 400000 in
theorem cell13_any (y z : Int) (w : World) : Calls Tryz.prog 114 #[.int .i64 y, .int .i64 z] w fun e w' => e = .returned (.agg #[.int .i64 5, .int .i64 y, .int .i64 z]) ∧ Below w.heap.size w w' := by
  go_enter Tryz.func114, Tryz.ntmps114
  go_wp2
  exact bodyPost_ret (v := .agg #[.int .i64 5, .int .i64 y, .int .i64 z]) (by simp [results, Tryz.results114, go_sem]) rfl ⟨rfl, (Below.refl _ _).alloc (Nat.le_refl _) _⟩
end Go.Proofs.YtnnjanaclgjneaaGreatDoor

/- The reference's Lay: a memory with a list. -/
namespace Go.Proofs.YtnnjanaclgjneaaGreatDoor
open Go.RowKit Go.Maps
set_option maxRecDepth 100000

/-- A slot that stands in a list. -/
structure Nd where
  (s key val : Int)
  (mb : Bool)
instance : Inhabited Nd := ⟨⟨0, 0, 0, false⟩⟩
def encN (n : Nd) : List Value := [.int .i64 n.s, .int .u64 n.key, .int .u64 n.val, .bool n.mb]
theorem at4N {w : World} {b o : Nat} {n : Nd} (h : CellsAt w b o (encN n)) : w.cell? ⟨b, o, none⟩ = some (.int .i64 n.s) ∧ w.cell? ⟨b, o + 1, none⟩ = some (.int .u64 n.key) ∧ w.cell? ⟨b, o + 2, none⟩ = some (.int .u64 n.val) ∧ w.cell? ⟨b, o + 3, none⟩ = some (.bool n.mb) :=
  ⟨h 0 _ rfl, h 1 _ rfl, h 2 _ rfl, h 3 _ rfl⟩
/-- A link's word, with a mark or without. -/
def lnk (mk : Bool) (s e : Int) : Int := if mk then markedW (wordI false s e) s e else wordI false s e
/-- The memory with such a list, from a place on. -/
def layL (lv e : Int) : List Nd → Plc → Bool → List OneR → List OneR
  | [], p, mk, l => setL l p (lnk mk 0 e)
  | n :: r, p, mk, l => layL lv e r (5, n.s, 7 + lv) n.mb (setL (setL (setL l p (lnk mk n.s e)) (5, n.s, 3) n.key) (5, n.s, 4) n.val)

section
variable {w0 w : World} {R : List Item} {m : Nat} {FU : Nat → Prop} {ml : List OneR}
set_option maxHeartbeats 6400000 in
theorem lay_t (k lv e : Int) (A : Option Addr) (cap : Nat) (ns : List Nd) (hlv : 0 ≤ lv ∧ lv ≤ 1000) (he : 0 ≤ e ∧ e ≤ 1000000) (hn : ns.length ≤ 1000) (hl : ml.length ≤ 100000)
    (Hrow : ∀ F l v, Env w0 (refI m F l :: R) v → RowX encN 4 v A ns) (hE : Env w0 (refI m FU ml :: R) w) :
    Calls Tryz.prog 93 #[.pointer (some ⟨m, 0, none⟩), .int .i64 k, .int .i64 lv, .int .i64 e, .slice A ns.length cap] w fun o w' => o = .returned (.tuple #[]) ∧ ∃ F', Env w0 (refI m F' (layL lv e ns (4, 0, k) false (setL ml (1, 0, 0) e)) :: R) w' := by
  obtain ⟨U, hU⟩ : ∃ U, w.heap.size = U := ⟨_, rfl⟩
  replace hE := hE.box U hU (urv 0 0 0 0 0 e none 0 0 0 0 0) 98
  have hwe : IntKind.u64.wrap e = e := by rw [IntKind.wrap_u64]; omega
  have hw7 : wrap64 (7 + lv) = 7 + lv := w64 _ (by omega)
  have HROW := Lib.hid Hrow
  have HLL := Lib.hid hl
  have HNN := Lib.hid hn
  have HL1 : Hid ((setL ml (1, 0, 0) e).length ≤ 100001) := Lib.hid (by have := setL_length (1, 0, 0) e ml; omega)
  obtain ⟨ml1, hml1⟩ : ∃ l, setL ml (1, 0, 0) e = l := ⟨_, rfl⟩
  have HML1 := Lib.hid hml1
  rw [hml1] at HL1 ⊢
  obtain ⟨fin, hfin⟩ : ∃ fin, layL lv e ns (4, 0, k) false ml1 = fin := ⟨_, rfl⟩
  rw [hfin]
  have HFIN := Lib.hid hfin
  clear Hrow hl hml1 hfin
  go_enter Tryz.func93, Tryz.ntmps93
  go_wp2_with fail
  refine (epoch13_any _).mono ?_
  rintro o w1 ⟨rfl, hb⟩
  replace hE := hE.over hb
  clear hb
  go_wp2_with fail
  refine (refSet_any 1 0 0 e (by have := HLL.out; omega) (hE.ref 1 rfl)).mono ?_
  rintro o w2 ⟨rfl, F2, hU2, hs2⟩
  rw [HML1.out] at hU2
  replace hE := hE.turnU 1 rfl hU2 hs2
  simp only [List.set_cons_succ, List.set_cons_zero] at hE
  clear hU2 hs2
  obtain ⟨P, hP⟩ : ∃ P, w2.heap.size = P := ⟨_, rfl⟩
  replace hE := hE.box P hP [.int .i64 4, .int .i64 0, .int .i64 k] 105
  clear HLL hU
  go_wp2_with fail
  clear hP
  go_loopw [12, 13] (fun mv iv wr => ∃ (j : Nat) (mk : Bool) (x y z : Int) (l : List OneR) (F : Nat → Prop), mv = .bool mk ∧ iv = .int .i64 j ∧ j ≤ ns.length + 1 ∧ Hid (l.length ≤ 100001 + 3 * j) ∧ Hid (if j ≤ ns.length then layL lv e (ns.drop j) (x, y, z) mk l = fin else l = fin) ∧ Env w0 (boxI P [.int .i64 x, .int .i64 y, .int .i64 z] :: boxI U (urv 0 0 0 0 0 e none 0 0 0 0 0) :: refI m F l :: R) wr) (fun _ iv _ => ns.length + 1 - (intOf iv).toNat)
  case atStart => exact ⟨0, false, 4, 0, k, ml1, F2, rfl, rfl, Nat.zero_le _, Lib.hid (by have := HL1.out; omega), Lib.hid (by rw [if_pos (Nat.zero_le _)]; exact HFIN.out), hE⟩
  case round =>
    clear hE HL1 HFIN
    obtain ⟨j, mk, x, y, z, l, F, rfl, rfl, hj, hll, hf, hE⟩ := hrel
    by_cases hle : j ≤ ns.length
    · have hb0 : decide ((j : Int) ≤ (ns.length : Int)) = true := by simp; omega
      replace hf : Hid (layL lv e (ns.drop j) (x, y, z) mk l = fin) := Lib.hid (by have := hf.out; rwa [if_pos hle] at this)
      have hHL : l.length ≤ 1000000 - 3 := by have := hll.out; have := HNN.out; omega
      have HHL := Lib.hid hHL
      clear hHL
      by_cases hlt : j < ns.length
      · have hb1 : decide ((j : Int) < (ns.length : Int)) = true := by simp; omega
        have hlt1 : (j : Int) < (ns.length : Int) := by omega
        obtain ⟨g, off, hA⟩ : ∃ g off, A = some ⟨g, off, none⟩ := by
          rcases HROW.out _ _ _ (hE.sub (.cons _ (.cons _ (List.Sublist.refl _)))) with h0 | ⟨g, off, h, -⟩
          · rw [h0] at hlt; simp at hlt
          · exact ⟨g, off, h⟩
        obtain ⟨n, hn9⟩ : ∃ n, ns.getD j default = n := ⟨_, rfl⟩
        have HC : Hid (∀ x y z F l v, Env w0 (boxI P [.int .i64 x, .int .i64 y, .int .i64 z] :: boxI U (urv 0 0 0 0 0 e none 0 0 0 0 0) :: refI m F l :: R) v → v.cell? ⟨g, off + j * 4, none⟩ = some (.int .i64 n.s) ∧ v.cell? ⟨g, off + j * 4 + 1, none⟩ = some (.int .u64 n.key) ∧ v.cell? ⟨g, off + j * 4 + 2, none⟩ = some (.int .u64 n.val) ∧ v.cell? ⟨g, off + j * 4 + 3, none⟩ = some (.bool n.mb)) := Lib.hid fun x y z F l v hv => by
          rcases HROW.out _ _ _ (hv.sub (.cons _ (.cons _ (List.Sublist.refl _)))) with h0 | ⟨g', off', h, -, hc⟩
          · rw [h0] at hlt; simp at hlt
          · rw [hA] at h
            cases h
            have := at4N (hc j hlt)
            rwa [hn9] at this
        have hdrop : ns.drop j = n :: ns.drop (j + 1) := by
          rw [List.drop_eq_getElem_cons hlt, ← hn9]
          simp [hlt]
        have hf2 : Hid (layL lv e (ns.drop (j + 1)) (5, n.s, 7 + lv) n.mb (setL (setL (setL l (x, y, z) (lnk mk n.s e)) (5, n.s, 3) n.key) (5, n.s, 4) n.val) = fin) := Lib.hid (by have := hf.out; rw [hdrop] at this; exact this)
        obtain ⟨s, key, val, nm⟩ := n
        dsimp only at HC hf2
        clear hdrop hn9 hf
        subst hA
        obtain ⟨c0, c1, c2, c3⟩ := HC.out _ _ _ _ _ _ hE
        cases mk
        · skip
          go_wp2_with fail
          refine (rto_c s (hE.get 1 rfl)).mono ?_
          rintro o w3 ⟨rfl, hb⟩
          replace hE := hE.over hb
          clear hb c0 c1 c2 c3
          have r0 := hE.rule 0 rfl
          go_wp2_with fail
          refine (refSet_any x y z (lnk false s e) (by have := HHL.out; omega) (hE.ref 2 rfl)).mono ?_
          rintro o w5 ⟨rfl, F5, hU5, hs5⟩
          replace hE := hE.turnU 2 rfl hU5 hs5
          simp only [List.set_cons_succ, List.set_cons_zero] at hE
          clear hU5 hs5 r0
          go_wp2_with fail
          refine (cell13_any s (7 + lv) _).mono ?_
          rintro o w6 ⟨rfl, hb⟩
          replace hE := hE.over hb
          clear hb
          have r0 := hE.rule 0 rfl
          have g0 := hE.thaw 0 rfl 0 (by simp)
          have g1 := hE.thaw 0 rfl 1 (by simp)
          have g2 := hE.thaw 0 rfl 2 (by simp)
          have hE7 := hE.put3 0 rfl (.int .i64 5) (.int .i64 s) (.int .i64 (7 + lv))
          simp only [List.set_cons_zero] at hE7
          obtain ⟨c0, c1, c2, c3⟩ := HC.out _ _ _ _ _ _ hE7
          go_wp2_with fail
          clear r0 g0 g1 g2 c0 c1 c2 c3 hE
          have HL5 : Hid ((setL l (x, y, z) (lnk false s e)).length ≤ 1000000 - 2) := Lib.hid (by have := setL_length (x, y, z) (lnk false s e) l; have := HHL.out; omega)
          have HL6 : Hid ((setL l (x, y, z) (lnk false s e)).length ≤ l.length + 1) := Lib.hid (setL_length _ _ _)
          generalize setL l (x, y, z) (lnk false s e) = l5 at *
          generalize World.setCell _ _ _ = w7 at *
          refine Ord.wp_chain [8] (fun v => ∃ F l, Env w0 (boxI P [.int .i64 5, .int .i64 s, .int .i64 (7 + lv)] :: boxI U (urv 0 0 0 0 0 e none 0 0 0 0 0) :: refI m F l :: R) v) (fun k w' => ∃ F, Env w0 (boxI P [.int .i64 5, .int .i64 s, .int .i64 (7 + lv)] :: boxI U (urv 0 0 0 0 0 e none 0 0 0 0 0) :: refI m F (if k = 0 then l5 else setL l5 (5, s, 3) key) :: R) w') (by kernel_rfl) (by kernel_rfl) (by kernel_rfl) ⟨_, _, (hE7).drew⟩ ⟨_, (hE7).drew⟩ (fun hT => ?_)
          have hT9 := Lib.hid hT
          clear hT
          repeat (first
            | (refine Ord.ch_value (v := ?_) hT9.out (by decide) (by rfl) ?_ ?_; rotate_left; (focus (intro w5 hS; obtain ⟨F8, l7, hS8⟩ := hS; obtain ⟨c0, c1, c2, c3⟩ := HC.out _ _ _ _ _ _ hS8; go_simp <;> with_reducible rfl)); (try simp only [Act.put, List.setIfInBounds_toArray, List.set_cons_zero, List.set_cons_succ]))
            | (refine Ord.ch_off hT9.out (by decide) (by rfl) ?_; (try simp only [Act.put, List.setIfInBounds_toArray, List.set_cons_zero, List.set_cons_succ]))
            | (refine Ord.ch_call (v := ?_) (f := ?_) (args := ?_) hT9.out (by decide) (by rfl) ?_ ?_ ?_; rotate_left 3; (focus (intro w5 hS; obtain ⟨F8, l7, hS8⟩ := hS; obtain ⟨c0, c1, c2, c3⟩ := HC.out _ _ _ _ _ _ hS8; go_simp; constructor <;> with_reducible rfl)); (focus (intro w5 hS; (first | (with_reducible refine (cell13_any _ _ _).mono ?_; rintro o w6 ⟨rfl, hb6⟩; constructor; with_reducible rfl; exact ⟨hS.elim fun F h => h.elim fun l h => ⟨F, l, h.over hb6⟩, fun k h => h.elim fun F h => ⟨F, h.over hb6⟩⟩)))); (try simp only [Act.put, List.setIfInBounds_toArray, List.set_cons_zero, List.set_cons_succ])))
          refine Ord.ch_turn (v := .tuple #[]) 0 hT9.out rfl (by decide) (Or.inl rfl) (by rfl) ?_ ?_
          · rintro w5 hC5 ⟨F5, hA5⟩
            simp only [if_true] at hA5
            obtain ⟨c0, c1, c2, c3⟩ := HC.out _ _ _ _ _ _ hA5
            go_simp
            simp only [Ord.LandsIn]
            refine (refSet_any 5 s 3 key (by have := (HL5).out; omega) (hA5.ref 2 rfl)).mono ?_
            rintro o w6 ⟨rfl, F6, hU6, hs6⟩
            have hE6 := hA5.turnU 2 rfl hU6 hs6
            simp only [List.set_cons_succ, List.set_cons_zero] at hE6
            exact ⟨rfl, ⟨_, _, hE6⟩, F6, hE6⟩
          (try simp only [Act.put, List.setIfInBounds_toArray, List.set_cons_zero, List.set_cons_succ])
          refine Ord.InText.nil fun w5 hS => ?_
          clear hT9
          obtain ⟨hC9, hA9⟩ := Ord.chain_end hS
          clear hS
          clear hC9
          simp only [List.length_cons, List.length_nil, Nat.zero_add, Nat.one_ne_zero, if_false] at hA9
          obtain ⟨F8, hE8⟩ := hA9
          clear hE7
          have HL8 : Hid ((setL l5 (5, s, 3) key).length ≤ 1000000 - 1) := Lib.hid (by have := setL_length (5, s, 3) key l5; have := HL5.out; omega)
          have HL9 : Hid ((setL l5 (5, s, 3) key).length ≤ l.length + 2) := Lib.hid (by have := setL_length (5, s, 3) key l5; have := HL6.out; omega)
          generalize setL l5 (5, s, 3) key = l8 at *
          go_wp2_with fail
          refine Ord.wp_chain [8] (fun v => ∃ F l, Env w0 (boxI P [.int .i64 5, .int .i64 s, .int .i64 (7 + lv)] :: boxI U (urv 0 0 0 0 0 e none 0 0 0 0 0) :: refI m F l :: R) v) (fun k w' => ∃ F, Env w0 (boxI P [.int .i64 5, .int .i64 s, .int .i64 (7 + lv)] :: boxI U (urv 0 0 0 0 0 e none 0 0 0 0 0) :: refI m F (if k = 0 then l8 else setL l8 (5, s, 4) val) :: R) w') (by kernel_rfl) (by kernel_rfl) (by kernel_rfl) ⟨_, _, (hE8).drew⟩ ⟨_, (hE8).drew⟩ (fun hT => ?_)
          have hT9 := Lib.hid hT
          clear hT
          repeat (first
            | (refine Ord.ch_value (v := ?_) hT9.out (by decide) (by rfl) ?_ ?_; rotate_left; (focus (intro w5 hS; obtain ⟨F8, l7, hS8⟩ := hS; obtain ⟨c0, c1, c2, c3⟩ := HC.out _ _ _ _ _ _ hS8; go_simp <;> with_reducible rfl)); (try simp only [Act.put, List.setIfInBounds_toArray, List.set_cons_zero, List.set_cons_succ]))
            | (refine Ord.ch_off hT9.out (by decide) (by rfl) ?_; (try simp only [Act.put, List.setIfInBounds_toArray, List.set_cons_zero, List.set_cons_succ]))
            | (refine Ord.ch_call (v := ?_) (f := ?_) (args := ?_) hT9.out (by decide) (by rfl) ?_ ?_ ?_; rotate_left 3; (focus (intro w5 hS; obtain ⟨F8, l7, hS8⟩ := hS; obtain ⟨c0, c1, c2, c3⟩ := HC.out _ _ _ _ _ _ hS8; go_simp; constructor <;> with_reducible rfl)); (focus (intro w5 hS; (first | (with_reducible refine (cell13_any _ _ _).mono ?_; rintro o w6 ⟨rfl, hb6⟩; constructor; with_reducible rfl; exact ⟨hS.elim fun F h => h.elim fun l h => ⟨F, l, h.over hb6⟩, fun k h => h.elim fun F h => ⟨F, h.over hb6⟩⟩)))); (try simp only [Act.put, List.setIfInBounds_toArray, List.set_cons_zero, List.set_cons_succ])))
          refine Ord.ch_turn (v := .tuple #[]) 0 hT9.out rfl (by decide) (Or.inl rfl) (by rfl) ?_ ?_
          · rintro w5 hC5 ⟨F5, hA5⟩
            simp only [if_true] at hA5
            obtain ⟨c0, c1, c2, c3⟩ := HC.out _ _ _ _ _ _ hA5
            go_simp
            simp only [Ord.LandsIn]
            refine (refSet_any 5 s 4 val (by have := (HL8).out; omega) (hA5.ref 2 rfl)).mono ?_
            rintro o w6 ⟨rfl, F6, hU6, hs6⟩
            have hE6 := hA5.turnU 2 rfl hU6 hs6
            simp only [List.set_cons_succ, List.set_cons_zero] at hE6
            exact ⟨rfl, ⟨_, _, hE6⟩, F6, hE6⟩
          (try simp only [Act.put, List.setIfInBounds_toArray, List.set_cons_zero, List.set_cons_succ])
          refine Ord.InText.nil fun w5 hS => ?_
          clear hT9
          obtain ⟨hC9, hA9⟩ := Ord.chain_end hS
          clear hS
          clear hC9
          simp only [List.length_cons, List.length_nil, Nat.zero_add, Nat.one_ne_zero, if_false] at hA9
          obtain ⟨F9, hE9⟩ := hA9
          clear hE8
          go_wp2_with fail
          exact ⟨⟨j + 1, nm, 5, s, 7 + lv, _, F9, rfl, by simp, by omega, Lib.hid (by have := setL_length (5, s, 4) val l8; have := HL9.out; have := hll.out; omega), Lib.hid (by rw [if_pos (by omega)]; exact hf2.out), hE9⟩, by simp [intOf]; omega⟩
        · skip
          go_wp2_with fail
          refine (rto_c s (hE.get 1 rfl)).mono ?_
          rintro o w3 ⟨rfl, hb⟩
          replace hE := hE.over hb
          clear hb c0 c1 c2 c3
          have r0 := hE.rule 0 rfl
          go_wp2_with fail
          refine (rmark_c (wordI false s e) s (wordI_in _ _ _) (hE.get 1 rfl)).mono ?_
          rintro o w4 ⟨rfl, hb⟩
          replace hE := hE.over hb
          clear hb r0
          have r0 := hE.rule 0 rfl
          go_wp2_with fail
          refine (refSet_any x y z (lnk true s e) (by have := HHL.out; omega) (hE.ref 2 rfl)).mono ?_
          rintro o w5 ⟨rfl, F5, hU5, hs5⟩
          replace hE := hE.turnU 2 rfl hU5 hs5
          simp only [List.set_cons_succ, List.set_cons_zero] at hE
          clear hU5 hs5 r0
          go_wp2_with fail
          refine (cell13_any s (7 + lv) _).mono ?_
          rintro o w6 ⟨rfl, hb⟩
          replace hE := hE.over hb
          clear hb
          have r0 := hE.rule 0 rfl
          have g0 := hE.thaw 0 rfl 0 (by simp)
          have g1 := hE.thaw 0 rfl 1 (by simp)
          have g2 := hE.thaw 0 rfl 2 (by simp)
          have hE7 := hE.put3 0 rfl (.int .i64 5) (.int .i64 s) (.int .i64 (7 + lv))
          simp only [List.set_cons_zero] at hE7
          obtain ⟨c0, c1, c2, c3⟩ := HC.out _ _ _ _ _ _ hE7
          go_wp2_with fail
          clear r0 g0 g1 g2 c0 c1 c2 c3 hE
          have HL5 : Hid ((setL l (x, y, z) (lnk true s e)).length ≤ 1000000 - 2) := Lib.hid (by have := setL_length (x, y, z) (lnk true s e) l; have := HHL.out; omega)
          have HL6 : Hid ((setL l (x, y, z) (lnk true s e)).length ≤ l.length + 1) := Lib.hid (setL_length _ _ _)
          generalize setL l (x, y, z) (lnk true s e) = l5 at *
          generalize World.setCell _ _ _ = w7 at *
          refine Ord.wp_chain [8] (fun v => ∃ F l, Env w0 (boxI P [.int .i64 5, .int .i64 s, .int .i64 (7 + lv)] :: boxI U (urv 0 0 0 0 0 e none 0 0 0 0 0) :: refI m F l :: R) v) (fun k w' => ∃ F, Env w0 (boxI P [.int .i64 5, .int .i64 s, .int .i64 (7 + lv)] :: boxI U (urv 0 0 0 0 0 e none 0 0 0 0 0) :: refI m F (if k = 0 then l5 else setL l5 (5, s, 3) key) :: R) w') (by kernel_rfl) (by kernel_rfl) (by kernel_rfl) ⟨_, _, (hE7).drew⟩ ⟨_, (hE7).drew⟩ (fun hT => ?_)
          have hT9 := Lib.hid hT
          clear hT
          repeat (first
            | (refine Ord.ch_value (v := ?_) hT9.out (by decide) (by rfl) ?_ ?_; rotate_left; (focus (intro w5 hS; obtain ⟨F8, l7, hS8⟩ := hS; obtain ⟨c0, c1, c2, c3⟩ := HC.out _ _ _ _ _ _ hS8; go_simp <;> with_reducible rfl)); (try simp only [Act.put, List.setIfInBounds_toArray, List.set_cons_zero, List.set_cons_succ]))
            | (refine Ord.ch_off hT9.out (by decide) (by rfl) ?_; (try simp only [Act.put, List.setIfInBounds_toArray, List.set_cons_zero, List.set_cons_succ]))
            | (refine Ord.ch_call (v := ?_) (f := ?_) (args := ?_) hT9.out (by decide) (by rfl) ?_ ?_ ?_; rotate_left 3; (focus (intro w5 hS; obtain ⟨F8, l7, hS8⟩ := hS; obtain ⟨c0, c1, c2, c3⟩ := HC.out _ _ _ _ _ _ hS8; go_simp; constructor <;> with_reducible rfl)); (focus (intro w5 hS; (first | (with_reducible refine (cell13_any _ _ _).mono ?_; rintro o w6 ⟨rfl, hb6⟩; constructor; with_reducible rfl; exact ⟨hS.elim fun F h => h.elim fun l h => ⟨F, l, h.over hb6⟩, fun k h => h.elim fun F h => ⟨F, h.over hb6⟩⟩)))); (try simp only [Act.put, List.setIfInBounds_toArray, List.set_cons_zero, List.set_cons_succ])))
          refine Ord.ch_turn (v := .tuple #[]) 0 hT9.out rfl (by decide) (Or.inl rfl) (by rfl) ?_ ?_
          · rintro w5 hC5 ⟨F5, hA5⟩
            simp only [if_true] at hA5
            obtain ⟨c0, c1, c2, c3⟩ := HC.out _ _ _ _ _ _ hA5
            go_simp
            simp only [Ord.LandsIn]
            refine (refSet_any 5 s 3 key (by have := (HL5).out; omega) (hA5.ref 2 rfl)).mono ?_
            rintro o w6 ⟨rfl, F6, hU6, hs6⟩
            have hE6 := hA5.turnU 2 rfl hU6 hs6
            simp only [List.set_cons_succ, List.set_cons_zero] at hE6
            exact ⟨rfl, ⟨_, _, hE6⟩, F6, hE6⟩
          (try simp only [Act.put, List.setIfInBounds_toArray, List.set_cons_zero, List.set_cons_succ])
          refine Ord.InText.nil fun w5 hS => ?_
          clear hT9
          obtain ⟨hC9, hA9⟩ := Ord.chain_end hS
          clear hS
          clear hC9
          simp only [List.length_cons, List.length_nil, Nat.zero_add, Nat.one_ne_zero, if_false] at hA9
          obtain ⟨F8, hE8⟩ := hA9
          clear hE7
          have HL8 : Hid ((setL l5 (5, s, 3) key).length ≤ 1000000 - 1) := Lib.hid (by have := setL_length (5, s, 3) key l5; have := HL5.out; omega)
          have HL9 : Hid ((setL l5 (5, s, 3) key).length ≤ l.length + 2) := Lib.hid (by have := setL_length (5, s, 3) key l5; have := HL6.out; omega)
          generalize setL l5 (5, s, 3) key = l8 at *
          go_wp2_with fail
          refine Ord.wp_chain [8] (fun v => ∃ F l, Env w0 (boxI P [.int .i64 5, .int .i64 s, .int .i64 (7 + lv)] :: boxI U (urv 0 0 0 0 0 e none 0 0 0 0 0) :: refI m F l :: R) v) (fun k w' => ∃ F, Env w0 (boxI P [.int .i64 5, .int .i64 s, .int .i64 (7 + lv)] :: boxI U (urv 0 0 0 0 0 e none 0 0 0 0 0) :: refI m F (if k = 0 then l8 else setL l8 (5, s, 4) val) :: R) w') (by kernel_rfl) (by kernel_rfl) (by kernel_rfl) ⟨_, _, (hE8).drew⟩ ⟨_, (hE8).drew⟩ (fun hT => ?_)
          have hT9 := Lib.hid hT
          clear hT
          repeat (first
            | (refine Ord.ch_value (v := ?_) hT9.out (by decide) (by rfl) ?_ ?_; rotate_left; (focus (intro w5 hS; obtain ⟨F8, l7, hS8⟩ := hS; obtain ⟨c0, c1, c2, c3⟩ := HC.out _ _ _ _ _ _ hS8; go_simp <;> with_reducible rfl)); (try simp only [Act.put, List.setIfInBounds_toArray, List.set_cons_zero, List.set_cons_succ]))
            | (refine Ord.ch_off hT9.out (by decide) (by rfl) ?_; (try simp only [Act.put, List.setIfInBounds_toArray, List.set_cons_zero, List.set_cons_succ]))
            | (refine Ord.ch_call (v := ?_) (f := ?_) (args := ?_) hT9.out (by decide) (by rfl) ?_ ?_ ?_; rotate_left 3; (focus (intro w5 hS; obtain ⟨F8, l7, hS8⟩ := hS; obtain ⟨c0, c1, c2, c3⟩ := HC.out _ _ _ _ _ _ hS8; go_simp; constructor <;> with_reducible rfl)); (focus (intro w5 hS; (first | (with_reducible refine (cell13_any _ _ _).mono ?_; rintro o w6 ⟨rfl, hb6⟩; constructor; with_reducible rfl; exact ⟨hS.elim fun F h => h.elim fun l h => ⟨F, l, h.over hb6⟩, fun k h => h.elim fun F h => ⟨F, h.over hb6⟩⟩)))); (try simp only [Act.put, List.setIfInBounds_toArray, List.set_cons_zero, List.set_cons_succ])))
          refine Ord.ch_turn (v := .tuple #[]) 0 hT9.out rfl (by decide) (Or.inl rfl) (by rfl) ?_ ?_
          · rintro w5 hC5 ⟨F5, hA5⟩
            simp only [if_true] at hA5
            obtain ⟨c0, c1, c2, c3⟩ := HC.out _ _ _ _ _ _ hA5
            go_simp
            simp only [Ord.LandsIn]
            refine (refSet_any 5 s 4 val (by have := (HL8).out; omega) (hA5.ref 2 rfl)).mono ?_
            rintro o w6 ⟨rfl, F6, hU6, hs6⟩
            have hE6 := hA5.turnU 2 rfl hU6 hs6
            simp only [List.set_cons_succ, List.set_cons_zero] at hE6
            exact ⟨rfl, ⟨_, _, hE6⟩, F6, hE6⟩
          (try simp only [Act.put, List.setIfInBounds_toArray, List.set_cons_zero, List.set_cons_succ])
          refine Ord.InText.nil fun w5 hS => ?_
          clear hT9
          obtain ⟨hC9, hA9⟩ := Ord.chain_end hS
          clear hS
          clear hC9
          simp only [List.length_cons, List.length_nil, Nat.zero_add, Nat.one_ne_zero, if_false] at hA9
          obtain ⟨F9, hE9⟩ := hA9
          clear hE8
          go_wp2_with fail
          exact ⟨⟨j + 1, nm, 5, s, 7 + lv, _, F9, rfl, by simp, by omega, Lib.hid (by have := setL_length (5, s, 4) val l8; have := HL9.out; have := hll.out; omega), Lib.hid (by rw [if_pos (by omega)]; exact hf2.out), hE9⟩, by simp [intOf]; omega⟩
      · have hb1 : decide ((j : Int) < (ns.length : Int)) = false := by simp; omega
        have hjn : j = ns.length := by omega
        have hf2 : Hid (setL l (x, y, z) (lnk mk 0 e) = fin) := Lib.hid (by have := hf.out; rw [hjn, List.drop_length] at this; exact this)
        clear hf hjn
        cases mk
        · skip
          go_wp2_with fail
          refine (rto_c 0 (hE.get 1 rfl)).mono ?_
          rintro o w3 ⟨rfl, hb⟩
          replace hE := hE.over hb
          clear hb
          have r0 := hE.rule 0 rfl
          go_wp2_with fail
          refine (refSet_any x y z (lnk false 0 e) (by have := HHL.out; omega) (hE.ref 2 rfl)).mono ?_
          rintro o w5 ⟨rfl, F5, hU5, hs5⟩
          replace hE := hE.turnU 2 rfl hU5 hs5
          simp only [List.set_cons_succ, List.set_cons_zero] at hE
          clear hU5 hs5 r0
          go_wp2_with fail
          exact ⟨⟨j + 1, _, x, y, z, _, F5, rfl, by simp, by omega, Lib.hid (by have := setL_length (x, y, z) (lnk false 0 e) l; have := hll.out; omega), Lib.hid (by rw [if_neg (by omega)]; exact hf2.out), hE⟩, by simp [intOf]; omega⟩
        · skip
          go_wp2_with fail
          refine (rto_c 0 (hE.get 1 rfl)).mono ?_
          rintro o w3 ⟨rfl, hb⟩
          replace hE := hE.over hb
          clear hb
          have r0 := hE.rule 0 rfl
          go_wp2_with fail
          refine (rmark_c (wordI false 0 e) 0 (wordI_in _ _ _) (hE.get 1 rfl)).mono ?_
          rintro o w4 ⟨rfl, hb⟩
          replace hE := hE.over hb
          clear hb r0
          have r0 := hE.rule 0 rfl
          go_wp2_with fail
          refine (refSet_any x y z (lnk true 0 e) (by have := HHL.out; omega) (hE.ref 2 rfl)).mono ?_
          rintro o w5 ⟨rfl, F5, hU5, hs5⟩
          replace hE := hE.turnU 2 rfl hU5 hs5
          simp only [List.set_cons_succ, List.set_cons_zero] at hE
          clear hU5 hs5 r0
          go_wp2_with fail
          exact ⟨⟨j + 1, _, x, y, z, _, F5, rfl, by simp, by omega, Lib.hid (by have := setL_length (x, y, z) (lnk true 0 e) l; have := hll.out; omega), Lib.hid (by rw [if_neg (by omega)]; exact hf2.out), hE⟩, by simp [intOf]; omega⟩
    · have hb0 : decide ((j : Int) ≤ (ns.length : Int)) = false := by simp; omega
      have hf2 : l = fin := by have := hf.out; rwa [if_neg hle] at this
      go_wp2_with fail
      go_end0
      rw [← hf2]
      exact ⟨rfl, F, hE.sub (.cons _ (.cons _ (List.Sublist.refl _)))⟩
end
end Go.Proofs.YtnnjanaclgjneaaGreatDoor

/- Lanes and searches: New, NewSearch, what they tell; the checkpoint; Step of a search over the model. -/
namespace Go.Proofs.YtnnjanaclgjneaaGreatDoor
open Go.RowKit Go.Maps
set_option maxRecDepth 100000

section
variable {w : World} {a c : Nat} {lv key : Int} {vs : Bool} {nx : Value} {st x y z W C X wd : Int} {pf : Bool} {pv : Int}
theorem val_g (hb : Blk 0 w a (laneC c lv key vs nx st x y z W C X wd pf pv)) : Calls Tryz.prog 208 #[.pointer (some ⟨a, 0, none⟩)] w fun o w' => o = .returned (.int .u64 pv) ∧ w' = w := by
  have r1 := hb.rule
  unfold laneC at r1
  go_enter Tryz.func208, Tryz.ntmps208
  go_wp2
  go_ret
  exact ⟨rfl, rfl⟩
end
end Go.Proofs.YtnnjanaclgjneaaGreatDoor

/- Searches: Step over the model, of a thread of the statements' structure; words that are laid. -/
namespace Go.Proofs.YtnnjanaclgjneaaGreatDoor
open Go.RowKit Go.Maps
set_option maxRecDepth 100000

def mkS (B : Bs) (G : Nat → Prop) (f : Plc → Int) (qc : Cnt) (m : Nat) (e r : Int) : ST := { c := B.c, q := B.q, p := B.p, cc := B.cc, ck := 2, cs := 1000, cb := 3, ch := 1, cl := 1073741824, ce := e, cr := r, hs := 0, F := B.F, ql := [], kq := B.kq, G := G, f := f, qc := qc, m := m }
/-- The world's counts, its entries behind a search's step. -/
def qcM (T : Sm) (f : Plc → Int) (q : Cnt) : Cnt := if T.on then laneQ T.L f q else { q with l := wrap64 (q.l + 1) }
def mM (T : Sm) (m : Nat) : Nat := if T.on then (if T.L.pc = 5 then m + 1 else m) else m
theorem mM_le (T : Sm) (m : Nat) : mM T m ≤ m + 1 := by unfold mM; by_cases h1 : T.on = true <;> by_cases h2 : T.L.pc = 5 <;> simp [h1, h2]
theorem searchS_mkS (B : Bs) (G : Nat → Prop) (f : Plc → Int) (qc : Cnt) (m : Nat) (k key : Int) (vs : Bool) (T : Sm) (G' : Nat → Prop) :
    searchS key vs (mkS B G f qc m T.e T.r) T G' = mkS B G' (searchM k key vs T f).2.2 (qcM T f qc) (mM T m) (searchM k key vs T f).2.1.e (searchM k key vs T f).2.1.r ∨ (T.on = false ∧ searchS key vs (mkS B G f qc m T.e T.r) T G' = mkS B G (searchM k key vs T f).2.2 (qcM T f qc) (mM T m) (searchM k key vs T f).2.1.e (searchM k key vs T f).2.1.r) := by
  by_cases h : T.on = true
  · left
    unfold searchS searchM qcM mM
    rw [if_pos h, if_pos h, if_pos h, if_pos h]
    rfl
  · right
    refine ⟨by simpa using h, ?_⟩
    unfold searchS searchM qcM mM
    rw [if_neg h, if_neg h, if_neg h, if_neg h]
    rfl
section
variable {w0 w : World} {R : List Item} {sb : Nat} {B : Bs} {G : Nat → Prop} {f : Plc → Int} {qc : Cnt} {m : Nat} {k key : Int} {vs : Bool} {T : Sm}
theorem search_k (hT : SmOk T) (hg : Glo w0) (hm : m < maxLen) (h : SrchR w0 R sb k key vs (mkS B G f qc m T.e T.r) 0 T w) :
    Calls Tryz.prog 147 #[.pointer (some ⟨sb, 0, none⟩), .iface 26 (.pointer (some ⟨B.p, 0, none⟩))] w fun o w' => o = .returned (.int .i64 (searchM k key vs T f).1) ∧ ∃ G', SrchR w0 R sb k key vs (mkS B G' (searchM k key vs T f).2.2 (qcM T f qc) (mM T m) (searchM k key vs T f).2.1.e (searchM k key vs T f).2.1.r) (searchM k key vs T f).1 (searchM k key vs T f).2.1 w' := by
  refine (search_l (S := mkS B G f qc m T.e T.r) hT hg hm h).mono ?_
  rintro o w1 ⟨rfl, G', hR⟩
  refine ⟨rfl, ?_⟩
  rcases searchS_mkS B G f qc m k key vs T G' with h1 | ⟨-, h1⟩
  · rw [h1] at hR
    exact ⟨G', hR⟩
  · rw [h1] at hR
    exact ⟨G, hR⟩
end
/-- A search ahead of its first step. -/
def T0s : Sm := { on := false, L := L0 (0, 0, 0), e := 0, r := 0 }
theorem T0s_ok : SmOk T0s := fun h => absurd h (by simp [T0s])
theorem SrchR.start {w0 w : World} {R : List Item} {sb : Nat} {B : Bs} {G : Nat → Prop} {f : Plc → Int} {qc : Cnt} {m : Nat} {k key : Int} {vs : Bool} (h : Env w0 (boxI sb (srC B.c k key vs (.pointer none)) :: LT (mkS B G f qc m 0 0) R) w) : SrchR w0 R sb k key vs (mkS B G f qc m 0 0) 0 T0s w := ⟨rfl, rfl, .inl ⟨rfl, rfl, .inl h⟩⟩
/-- A world's words. -/
theorem SrchR.words {w0 w : World} {R : List Item} {sb : Nat} {S : ST} {k key s : Int} {vs : Bool} {T : Sm} (h : SrchR w0 R sb k key vs S s T w) : Words S.f := by
  obtain ⟨-, -, ⟨-, -, hE | ⟨a, L, nx, wd, B1, B2, -, hE⟩⟩ | ⟨-, a, nx, wd, B1, B2, -, hE⟩⟩ := h
  · exact (hE.cell 4 rfl).words
  · exact (hE.cell 6 rfl).words
  · exact (hE.cell 6 rfl).words
/-- All of it but for the world's cells turns with what the thread's calls alone turn. -/
theorem Words.setL {l : List OneR} (h : Words (getL l)) {x : Plc} (hx : Wf x) {v : Int} (hv : InU v) : Words (getL (setL l x v)) := by
  rw [getL_set]
  exact h.set hx hv
theorem lnk_in (mk : Bool) (s e : Int) : InU (lnk mk s e) := by
  unfold lnk markedW
  repeat' split
  all_goals exact wordI_in _ _ _
/-- Nodes that can be. -/
def NdOk (n : Nd) : Prop := (1 ≤ n.s ∧ n.s ≤ 1000) ∧ InU n.key ∧ InU n.val
theorem words_lay {lv e : Int} (hlv : 0 ≤ lv ∧ lv ≤ 1000) : ∀ (ns : List Nd) (p : Plc) (mk : Bool) (l : List OneR), (∀ n ∈ ns, NdOk n) → Wf p → Words (getL l) → Words (getL (layL lv e ns p mk l))
  | [], p, mk, l, _, hp, hl => hl.setL hp (lnk_in _ _ _)
  | n :: r, p, mk, l, hn, hp, hl => by
    obtain ⟨h1, h2, h3⟩ := hn n (List.mem_cons_self ..)
    have hw : ∀ j : Int, 0 ≤ j ∧ j ≤ 2000 → Wf (5, n.s, j) := fun j hj => wf_part (C := n.s) (n := j) (by omega) (by omega)
    exact words_lay hlv r _ _ _ (fun m hm => hn m (List.mem_cons_of_mem _ hm)) (hw _ (by omega)) (((hl.setL hp (lnk_in _ _ _)).setL (hw 3 (by omega)) h2).setL (hw 4 (by omega)) h3)
theorem layL_length (lv e : Int) : ∀ (ns : List Nd) (p : Plc) (mk : Bool) (l : List OneR), (layL lv e ns p mk l).length ≤ l.length + 3 * ns.length + 1
  | [], p, mk, l => by have := setL_length p (lnk mk 0 e) l; simpa [layL] using this
  | n :: r, p, mk, l => by
    have h1 := layL_length lv e r (5, n.s, 7 + lv) n.mb (Go.Proofs.YtnnjanaclgjneaaGreatDoor.setL (Go.Proofs.YtnnjanaclgjneaaGreatDoor.setL (Go.Proofs.YtnnjanaclgjneaaGreatDoor.setL l p (lnk mk n.s e)) (5, n.s, 3) n.key) (5, n.s, 4) n.val)
    have h2 := setL_length (5, n.s, 4) n.val (Go.Proofs.YtnnjanaclgjneaaGreatDoor.setL (Go.Proofs.YtnnjanaclgjneaaGreatDoor.setL l p (lnk mk n.s e)) (5, n.s, 3) n.key)
    have h3 := setL_length (5, n.s, 3) n.key (Go.Proofs.YtnnjanaclgjneaaGreatDoor.setL l p (lnk mk n.s e))
    have h4 := setL_length p (lnk mk n.s e) l
    simp only [layL, List.length_cons]
    omega
end Go.Proofs.YtnnjanaclgjneaaGreatDoor
