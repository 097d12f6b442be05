/- What is proved on the way to the statement, part 10 of 13: contracts of the functions, among other things in memory. -/
import Derived.Test.YtnnjanaclgjneaaGreatDoorE9
import Derived.LoopIn
import Derived.Test.YtnnjanaclgjneaaGreatDoorChecked
import Derived.Shelf.SlMaps.Clone
import Derived.Ground.SlmcProg
import Derived.Test.YtnnjanaclgjneaaGreatDoorProg
import Derived.Maps.RangeWalk
import Derived.LoopTactic
import Derived.OwnWalkIn
import Derived.TacticsInMore
import Derived.LoopNIn
import Derived.Maps.AppendAt

/- Lanes and searches: New, NewSearch, what they tell; the checkpoint; Step of a search over the model. -/
namespace Go.Proofs.YtnnjanaclgjneaaGreatDoor
open Go.RowKit Go.Maps
set_option maxRecDepth 100000

/-- A search's cells. -/
def srC (c : Nat) (k key : Int) (vs : Bool) (lp : Value) : List Value := [.pointer (some ⟨c, 0, none⟩), .int .i64 k, .int .u64 key, .bool vs, lp]

section
variable {w0 w : World} {L : List Item}
set_option maxHeartbeats 1600000 in
theorem newSearch_l (c : Nat) (k key : Int) (vs : Bool) (hE : Env w0 L w) :
    Calls Tryz.prog 145 #[.pointer (some ⟨c, 0, none⟩), .int .i64 k, .int .u64 key, .bool vs] w fun o w' => ∃ a, o = .returned (.pointer (some ⟨a, 0, none⟩)) ∧ Env w0 (boxI a (srC c k key vs (.pointer none)) :: L) w' := by
  have hE2 := hE.box w.heap.size rfl (srC c k key vs (.pointer none)) 280
  clear hE
  go_enter Tryz.func145, Tryz.ntmps145
  go_wp2_with fail
  go_ret
  exact ⟨_, rfl, hE2⟩
theorem newSearchNil_l (k key : Int) (vs : Bool) (w : World) :
    Calls Tryz.prog 145 #[.pointer none, .int .i64 k, .int .u64 key, .bool vs] w fun o w' => o = .returned (.pointer none) ∧ w' = w := by
  go_enter Tryz.func145, Tryz.ntmps145
  go_wp2
  go_ret
  exact ⟨rfl, rfl⟩
end

section
variable {w : World} {a c : Nat} {lv key : Int} {vs : Bool} {nx : Value} {st x y z W C X wd : Int} {pf : Bool} {pv : Int}
theorem lane_g {k : Int} {lp : Option Addr} (hb : Blk 0 w a (srC c k key vs (.pointer lp))) : Calls Tryz.prog 190 #[.pointer (some ⟨a, 0, none⟩)] w fun o w' => o = .returned (.pointer lp) ∧ w' = w := by
  have r1 := hb.rule
  unfold srC at r1
  go_enter Tryz.func190, Tryz.ntmps190
  go_wp2
  go_ret
  exact ⟨rfl, rfl⟩
end

section
variable {w0 w : World} {R : List Item} {sb : Nat} {S : ST} {k key : Int} {vs : Bool} {lp : Value}
set_option maxHeartbeats 3200000 in
theorem check_s (hE : Env w0 (boxI sb (srC S.c k key vs lp) :: LT S R) w) :
    Calls Tryz.prog 180 #[.pointer (some ⟨sb, 0, none⟩), .iface 26 (.pointer (some ⟨S.p, 0, none⟩))] w fun o w' => o = .returned (.int .i64 0) ∧ ∃ a, Env w0 (boxI a (laneC S.c 0 key vs (mvL 216 a) 0 4 0 k 0 0 0 0 false 0) :: boxI sb (srC S.c k key vs (.pointer (some ⟨a, 0, none⟩))) :: LT { S with ce := epI (S.f (1, 0, 0)), qc := { S.qc with l := wrap64 (S.qc.l + 1) } } R) w' := by
  have hc := check_w _ (rfl : S.f (1, 0, 0) = S.f (1, 0, 0)) 1 3 4 (by decide) (by decide) hE rfl rfl rfl
  simp only [List.set_cons_succ, List.set_cons_zero] at hc
  have HC := Lib.hid hc
  clear hc
  have r := hE.rule 0 rfl
  unfold srC at r
  go_enter Tryz.func180, Tryz.ntmps180
  go_wp2_with fail
  refine HC.out.mono ?_
  rintro o w1 ⟨rfl, hE1⟩
  replace hE1 : Env w0 (boxI sb (srC S.c k key vs lp) :: LT { S with ce := epI (S.f (1, 0, 0)), qc := { S.qc with l := wrap64 (S.qc.l + 1) } } R) w1 := hE1
  clear HC hE r
  generalize hS1 : ({ S with ce := epI (S.f (1, 0, 0)), qc := { S.qc with l := wrap64 (S.qc.l + 1) } } : ST) = S1 at *
  have HS1 := Lib.hid hS1
  clear hS1
  go_wp2_with fail
  refine Ord3.wp_chain [?_, ?_, ?_, ?_, ?_, ?_, ?_, ?_, ?_, ?_, ?_, ?_, ?_, ?_, ?_, ?_, ?_, ?_, ?_, ?_, ?_, ?_, ?_] [19, 22] (fun w' => ∃ l9, Blk 0 w' sb (srC S.c k key vs l9)) (Ord3.Stage fun κs => [Env w0 (boxI sb (srC S.c k key vs lp) :: LT S1 R), fun w' => ∃ a, κs.getD 0 undef = .pointer (some ⟨a, 0, none⟩) ∧ Env w0 (boxI a (laneC S.c 0 key vs (mvL 216 a) 0 4 0 k 0 0 0 0 false 0) :: boxI sb (srC S.c k key vs lp) :: LT S1 R) w', fun w' => ∃ a, Env w0 (boxI a (laneC S.c 0 key vs (mvL 216 a) 0 4 0 k 0 0 0 0 false 0) :: boxI sb (srC S.c k key vs (.pointer (some ⟨a, 0, none⟩))) :: LT S1 R) w']) (by kernel_rfl) (by kernel_rfl) (by kernel_rfl) ⟨lp, hE1.drew.get 0 rfl⟩ ⟨_, rfl, hE1.drew⟩ (fun hT => ?_)
  rotate_left 23
  have hT9 := Lib.hid hT
  clear hT
  repeat (first
    | (focus (refine Ord3.in_value (v := ?_) hT9.out (by decide) ?_ (by rfl) ?_ ?_; rotate_left 2; (focus (intro w5 hS; obtain ⟨l9, hS9⟩ := hS; have r1 := Blk.rule hS9; unfold srC at r1; go_simp <;> with_reducible rfl)); rotate_right; (focus rfl); (try simp only [Act.put, List.setIfInBounds_toArray, List.set_cons_zero, List.set_cons_succ])))
    | (focus (refine Ord3.in_off hT9.out (by decide) ?_ (by rfl) ?_; (focus rfl); (try simp only [Act.put, List.setIfInBounds_toArray, List.set_cons_zero, List.set_cons_succ])))
    | (focus (refine Ord3.in_call (v := ?_) (f := ?_) (args := ?_) hT9.out (by decide) ?_ (by rfl) ?_ ?_ ?_; rotate_left 4; (focus (intro w5 hS; obtain ⟨l9, hS9⟩ := hS; have r1 := Blk.rule hS9; unfold srC at r1; go_simp; constructor <;> with_reducible rfl)); (focus (intro w5 hS; (first | (with_reducible refine (root_any _ _).mono ?_; rintro o w6 ⟨rfl, hb6⟩; constructor; with_reducible rfl; exact ⟨hS.elim fun l9 h => ⟨l9, h.under hb6⟩, fun us h => Ord3.Stage.three h (fun h => h.over hb6) (fun h => h.elim fun a h => ⟨a, h.1, h.2.over hb6⟩) (fun h => h.elim fun a h => ⟨a, h.over hb6⟩)⟩)))); rotate_right; (focus rfl); (try simp only [Act.put, List.setIfInBounds_toArray, List.set_cons_zero, List.set_cons_succ]))))
  refine Ord3.in_turn (fun u => ∃ q, u = .pointer (some ⟨q, 0, none⟩)) _ ⟨0, rfl⟩ hT9.out rfl (by decide) (by rfl) ?_ (Or.inl rfl) (by rfl) ?_ ?_
  · rfl
  · rintro w7 hC7 ⟨P7, hP7, hA7⟩
    cases hP7
    go_simp
    simp only [Ord3.Lands]
    refine (new_l S.c 4 0 k 0 key vs hA7).mono ?_
    rintro o w8 ⟨a8, rfl, hE8⟩
    exact ⟨_, rfl, ⟨a8, rfl⟩, ⟨lp, hE8.get 1 rfl⟩, _, rfl, a8, rfl, hE8⟩
  rintro _ ⟨a9, rfl⟩
  (try simp only [Act.put, List.setIfInBounds_toArray, List.set_cons_zero, List.set_cons_succ])
  repeat (first
    | (focus (refine Ord3.in_value (v := ?_) hT9.out (by decide) ?_ (by rfl) ?_ ?_; rotate_left 2; (focus (intro w5 hS; obtain ⟨l9, hS9⟩ := hS; have r1 := Blk.rule hS9; unfold srC at r1; go_simp <;> with_reducible rfl)); rotate_right; (focus rfl); (try simp only [Act.put, List.setIfInBounds_toArray, List.set_cons_zero, List.set_cons_succ])))
    | (focus (refine Ord3.in_off hT9.out (by decide) ?_ (by rfl) ?_; (focus rfl); (try simp only [Act.put, List.setIfInBounds_toArray, List.set_cons_zero, List.set_cons_succ]))))
  refine Ord3.in_turn (fun u => u = undef) _ rfl hT9.out rfl (by decide) (by rfl) ?_ (Or.inr ⟨_, 19, [], rfl, by kernel_rfl, by kernel_rfl, rfl⟩) (by rfl) ?_ ?_
  · rfl
  · rintro w7 hC7 ⟨P7, hP7, hA7⟩
    cases hP7
    obtain ⟨a8, he, hA7⟩ := hA7
    cases he
    have r := hA7.rule 1 rfl
    unfold srC at r
    have g := hA7.thaw 1 rfl 4 (by simp [srC])
    go_simp
    simp only [Ord3.Lands]
    have h9 := hA7.put 1 rfl (j := 4) (by simp [srC]) (.pointer (some ⟨a9, 0, none⟩))
    exact ⟨trivial, ⟨_, h9.get 1 rfl⟩, _, rfl, a9, h9⟩
  rintro _ rfl
  (try simp only [Act.put, List.setIfInBounds_toArray, List.set_cons_zero, List.set_cons_succ])
  refine Ord3.in_nil rfl ?_
  rintro w9 hC9 ⟨P9, hP9, hA9⟩
  cases hP9
  obtain ⟨a8, hA9⟩ := hA9
  clear hT9 hC9 hE1
  go_wp2_with fail
  go_ret
  have h1 := HS1.out
  subst h1
  exact ⟨rfl, a8, hA9⟩
end
end Go.Proofs.YtnnjanaclgjneaaGreatDoor

/- Searches: Step over the model. -/
namespace Go.Proofs.YtnnjanaclgjneaaGreatDoor
open Go.RowKit Go.Maps
set_option maxRecDepth 100000

/-- What a search keeps. -/
def SmOk (T : Sm) : Prop := T.on = true → LmOk T.L ∧ Wf T.L.p
theorem search_ok {k key : Int} {vs : Bool} {T : Sm} {f : Plc → Int} (hk : In64 k) (hT : SmOk T) (hW : ∀ x, InU (f x)) (h0 : (searchM k key vs T f).1 = 0) : SmOk (searchM k key vs T f).2.1 := by
  intro hon
  by_cases h : T.on = true
  · have hM : searchM k key vs T f = (if (laneM 0 key vs T.e T.L f).1 = 1 then 1 else 0, { on := decide ((laneM 0 key vs T.e T.L f).1 ≠ 2), L := (laneM 0 key vs T.e T.L f).2.1, e := T.e, r := rollM T.e T.L f T.r }, (laneM 0 key vs T.e T.L f).2.2) := by unfold searchM; rw [if_pos h]
    rw [hM] at h0 hon ⊢
    obtain ⟨h1, h2⟩ := hT h
    have h3 : (laneM 0 key vs T.e T.L f).1 = 0 := by
      rcases lane_state 0 key vs T.e T.L f with h4 | h4 | h4
      · exact h4
      · rw [h4] at h0; exact absurd h0 (by simp)
      · rw [h4] at hon; exact absurd hon (by simp)
    exact lane_ok h1 hW h2 (by omega) h3
  · have hM : searchM k key vs T f = (0, { on := true, L := L0 (4, 0, k), e := epI (f (1, 0, 0)), r := T.r }, f) := by unfold searchM; rw [if_neg h]
    rw [hM]
    refine ⟨LmOk.start _, ?_⟩
    show Wf (4, 0, k)
    unfold In64 at hk
    unfold Wf In64
    simp
    exact hk

/-- How a search stands, and all that it needs. -/
def SrchR (w0 : World) (R : List Item) (sb : Nat) (k key : Int) (vs : Bool) (S : ST) (s : Int) (T : Sm) (w : World) : Prop :=
  S.ce = T.e ∧ S.cr = T.r ∧ ((T.on = false ∧ s = 0 ∧ (Env w0 (boxI sb (srC S.c k key vs (.pointer none)) :: LT S R) w ∨ ∃ a L, LaneR w0 (boxI sb (srC S.c k key vs (.pointer (some ⟨a, 0, none⟩))) :: R) a 0 key vs S 2 L w)) ∨ (T.on = true ∧ ∃ a, LaneR w0 (boxI sb (srC S.c k key vs (.pointer (some ⟨a, 0, none⟩))) :: R) a 0 key vs S s T.L w))
/-- All of a thread and its world behind a search's step. -/
def searchS (key : Int) (vs : Bool) (S : ST) (T : Sm) (G : Nat → Prop) : ST := if T.on then laneS 0 key vs S T.L G else { S with ce := epI (S.f (1, 0, 0)), qc := { S.qc with l := wrap64 (S.qc.l + 1) } }

section
variable {w0 w : World} {R : List Item} {sb : Nat} {S : ST} {k key : Int} {vs : Bool} {T : Sm} {lp : Value}
/-- A search's box from behind a thread's things to the front. -/
theorem Env.sfront {x : Item} (h : Env w0 (LT S (x :: R)) w) : Env w0 (x :: LT S R) w := h.perm (List.perm_middle (l₁ := [_, _, _, _]))
theorem check_r (hoff : T.on = false) (he : S.ce = T.e) (hr : S.cr = T.r) (hE : Env w0 (boxI sb (srC S.c k key vs lp) :: LT S R) w) :
    Calls Tryz.prog 180 #[.pointer (some ⟨sb, 0, none⟩), .iface 26 (.pointer (some ⟨S.p, 0, none⟩))] w fun o w' => o = .returned (.int .i64 (searchM k key vs T S.f).1) ∧ ∃ G', SrchR w0 R sb k key vs (searchS key vs S T G') (searchM k key vs T S.f).1 (searchM k key vs T S.f).2.1 w' := by
  have hM : searchM k key vs T S.f = (0, { on := true, L := L0 (4, 0, k), e := epI (S.f (1, 0, 0)), r := T.r }, S.f) := by unfold searchM; rw [hoff]; rfl
  have hS : ∀ G, searchS key vs S T G = { S with ce := epI (S.f (1, 0, 0)), qc := { S.qc with l := wrap64 (S.qc.l + 1) } } := fun G => by unfold searchS; rw [hoff]; rfl
  refine (check_s hE).mono ?_
  rintro o w1 ⟨rfl, a, hE1⟩
  rw [hM]
  refine ⟨rfl, S.G, ?_⟩
  rw [hS]
  refine ⟨rfl, hr, .inr ⟨rfl, a, mvL (fnL 0) a, 0, noI, noI, fun _ => ⟨⟨fun _ => rfl, fun h => absurd h (by simp [L0, isVal])⟩, fun h => absurd h (by simp [L0]), fun h => absurd h (by simp [L0])⟩, ?_⟩⟩
  have hE2 := hE1.perm (L' := boxI a (laneC S.c 0 key vs (mvL (fnL 0) a) 0 4 0 k 0 0 0 0 false 0) :: LT { S with ce := epI (S.f (1, 0, 0)), qc := { S.qc with l := wrap64 (S.qc.l + 1) } } (boxI sb (srC S.c k key vs (.pointer (some ⟨a, 0, none⟩))) :: R)) (List.Perm.cons _ (List.perm_middle (l₁ := [_, _, _, _])).symm)
  exact hE2.none2
set_option maxHeartbeats 3200000 in
theorem search_l (hT : SmOk T) (hg : Glo w0) (hm : S.m < maxLen) (h : SrchR w0 R sb k key vs S 0 T w) :
    Calls Tryz.prog 147 #[.pointer (some ⟨sb, 0, none⟩), .iface 26 (.pointer (some ⟨S.p, 0, none⟩))] w fun o w' => o = .returned (.int .i64 (searchM k key vs T S.f).1) ∧ ∃ G', SrchR w0 R sb k key vs (searchS key vs S T G') (searchM k key vs T S.f).1 (searchM k key vs T S.f).2.1 w' := by
  obtain ⟨he, hr, ⟨hoff, -, hE | ⟨a, L, nx, wd, B1, B2, -, hE⟩⟩ | ⟨hon, a, hR⟩⟩ := h
  · have HC := Lib.hid (check_r hoff he hr hE)
    have r := hE.rule 0 rfl
    unfold srC at r
    clear hE
    go_enter Tryz.func147, Tryz.ntmps147
    go_wp2_with fail
    refine HC.out.mono ?_
    rintro o w1 ⟨rfl, hP⟩
    go_wp2_with fail
    go_ret
    exact ⟨rfl, hP⟩
  · have hE1 : Env w0 (boxI sb (srC S.c k key vs (.pointer (some ⟨a, 0, none⟩))) :: LT S R) w := (hE.sub (.cons _ (.cons _ (.cons _ (List.Sublist.refl _))))).sfront
    have HC := Lib.hid (check_r hoff he hr hE1)
    have r := hE1.rule 0 rfl
    unfold srC at r
    have ra := hE.rule 0 rfl
    have RA := Lib.hid ra
    unfold laneV laneC at ra
    clear hE hE1
    go_enter Tryz.func147, Tryz.ntmps147
    go_wp2_with fail
    refine (state_r (o := 4) (s := 2) (show w.cell? ⟨a, 5, none⟩ = some (.int .i64 2) from RA.out 5)).mono ?_
    rintro o w0' ⟨rfl, rfl⟩
    go_wp2_with fail
    refine HC.out.mono ?_
    rintro o w1 ⟨rfl, hP⟩
    go_wp2_with fail
    go_ret
    exact ⟨rfl, hP⟩
  · obtain ⟨hL, hp⟩ := hT hon
    have hst := lane_l hL (show (0 : Int) ≤ 0 ∧ (0 : Int) ≤ 1000000 by omega) hp hg hm hR
    have hM : searchM k key vs T S.f = (if (laneM 0 key vs T.e T.L S.f).1 = 1 then 1 else 0, { on := decide ((laneM 0 key vs T.e T.L S.f).1 ≠ 2), L := (laneM 0 key vs T.e T.L S.f).2.1, e := T.e, r := rollM T.e T.L S.f T.r }, (laneM 0 key vs T.e T.L S.f).2.2) := by unfold searchM; rw [if_pos hon]
    have hS : ∀ G, searchS key vs S T G = laneS 0 key vs S T.L G := fun G => by unfold searchS; rw [if_pos hon]
    have hsl := lane_state 0 key vs S.ce T.L S.f
    obtain ⟨nx, wd, B1, B2, -, hE⟩ := hR
    have r : ∀ i, w.cell? ⟨sb, i, none⟩ = _ := hE.rule 7 rfl
    unfold srC at r
    have ra := hE.rule 0 rfl
    have RA := Lib.hid ra
    unfold laneV laneC at ra
    clear hE
    rw [hM]
    simp only [hS]
    rw [← he, ← hr]
    clear he hr
    have hce : ∀ G, (laneS 0 key vs S T.L G).ce = S.ce ∧ (laneS 0 key vs S T.L G).cr = rollM S.ce T.L S.f S.cr ∧ (laneS 0 key vs S T.L G).c = S.c := fun G => ⟨rfl, rfl, rfl⟩
    generalize hq : laneM 0 key vs S.ce T.L S.f = q at *
    obtain ⟨q1, q2, q3⟩ := q
    have HST := Lib.hid hst
    have HSL := Lib.hid hsl
    have HCE := Lib.hid hce
    clear hst hsl hq hM hS hce
    go_enter Tryz.func147, Tryz.ntmps147
    go_wp2_with fail
    refine (state_r (o := 4) (s := 0) (show w.cell? ⟨a, 5, none⟩ = some (.int .i64 0) from RA.out 5)).mono ?_
    rintro o w0' ⟨rfl, rfl⟩
    go_wp2_with fail
    refine HST.out.mono ?_
    rintro o w1 ⟨rfl, G', hR'⟩
    have HR' := Lib.hid hR'
    clear hR' HST r ra
    rcases HSL.out with h1 | h1 | h1
    · have h1' : q1 = 0 := h1
      subst h1'
      go_wp2_with fail
      go_ret
      refine ⟨rfl, G', (HCE.out G').1, (HCE.out G').2.1, .inr ⟨rfl, a, ?_⟩⟩
      exact HR'.out
    · have h1' : q1 = 1 := h1
      subst h1'
      go_wp2_with fail
      go_ret
      refine ⟨rfl, G', (HCE.out G').1, (HCE.out G').2.1, .inr ⟨rfl, a, ?_⟩⟩
      exact HR'.out
    · have h1' : q1 = 2 := h1
      subst h1'
      go_wp2_with fail
      go_ret
      refine ⟨rfl, G', (HCE.out G').1, (HCE.out G').2.1, .inl ⟨rfl, rfl, .inr ⟨a, q2, ?_⟩⟩⟩
      exact HR'.out
end
end Go.Proofs.YtnnjanaclgjneaaGreatDoor

/- The reference's Lay: a memory with a list. -/
namespace Go.Proofs.YtnnjanaclgjneaaGreatDoor
open Go.RowKit Go.Maps
set_option maxRecDepth 100000

/-- A slot that stands in a list. -/
structure Nd where
  (s key val : Int)
  (mb : Bool)
instance : Inhabited Nd := ⟨⟨0, 0, 0, false⟩⟩
def encN (n : Nd) : List Value := [.int .i64 n.s, .int .u64 n.key, .int .u64 n.val, .bool n.mb]
theorem at4N {w : World} {b o : Nat} {n : Nd} (h : CellsAt w b o (encN n)) : w.cell? ⟨b, o, none⟩ = some (.int .i64 n.s) ∧ w.cell? ⟨b, o + 1, none⟩ = some (.int .u64 n.key) ∧ w.cell? ⟨b, o + 2, none⟩ = some (.int .u64 n.val) ∧ w.cell? ⟨b, o + 3, none⟩ = some (.bool n.mb) :=
  ⟨h 0 _ rfl, h 1 _ rfl, h 2 _ rfl, h 3 _ rfl⟩
/-- A link's word, with a mark or without. -/
def lnk (mk : Bool) (s e : Int) : Int := if mk then markedW (wordI false s e) s e else wordI false s e
/-- The memory with such a list, from a place on. -/
def layL (lv e : Int) : List Nd → Plc → Bool → List OneR → List OneR
  | [], p, mk, l => setL l p (lnk mk 0 e)
  | n :: r, p, mk, l => layL lv e r (5, n.s, 7 + lv) n.mb (setL (setL (setL l p (lnk mk n.s e)) (5, n.s, 3) n.key) (5, n.s, 4) n.val)

section
variable {w0 w : World} {R : List Item} {m : Nat} {FU : Nat → Prop} {ml : List OneR}
set_option maxHeartbeats 6400000 in
theorem lay_t (k lv e : Int) (A : Option Addr) (cap : Nat) (ns : List Nd) (hlv : 0 ≤ lv ∧ lv ≤ 1000) (he : 0 ≤ e ∧ e ≤ 1000000) (hn : ns.length ≤ 1000) (hl : ml.length ≤ 100000)
    (Hrow : ∀ F l v, Env w0 (refI m F l :: R) v → RowX encN 4 v A ns) (hE : Env w0 (refI m FU ml :: R) w) :
    Calls Tryz.prog 93 #[.pointer (some ⟨m, 0, none⟩), .int .i64 k, .int .i64 lv, .int .i64 e, .slice A ns.length cap] w fun o w' => o = .returned (.tuple #[]) ∧ ∃ F', Env w0 (refI m F' (layL lv e ns (4, 0, k) false (setL ml (1, 0, 0) e)) :: R) w' := by
  obtain ⟨U, hU⟩ : ∃ U, w.heap.size = U := ⟨_, rfl⟩
  replace hE := hE.box U hU (urv 0 0 0 0 0 e none 0 0 0 0 0) 98
  have hwe : IntKind.u64.wrap e = e := by rw [IntKind.wrap_u64]; omega
  have hw7 : wrap64 (7 + lv) = 7 + lv := w64 _ (by omega)
  have HROW := Lib.hid Hrow
  have HLL := Lib.hid hl
  have HNN := Lib.hid hn
  have HL1 : Hid ((setL ml (1, 0, 0) e).length ≤ 100001) := Lib.hid (by have := setL_length (1, 0, 0) e ml; omega)
  obtain ⟨ml1, hml1⟩ : ∃ l, setL ml (1, 0, 0) e = l := ⟨_, rfl⟩
  have HML1 := Lib.hid hml1
  rw [hml1] at HL1 ⊢
  obtain ⟨fin, hfin⟩ : ∃ fin, layL lv e ns (4, 0, k) false ml1 = fin := ⟨_, rfl⟩
  rw [hfin]
  have HFIN := Lib.hid hfin
  clear Hrow hl hml1 hfin
  go_enter Tryz.func93, Tryz.ntmps93
  go_wp2_with fail
  refine (epoch13_any _).mono ?_
  rintro o w1 ⟨rfl, hb⟩
  replace hE := hE.over hb
  clear hb
  go_wp2_with fail
  refine (refSet_any 1 0 0 e (by have := HLL.out; omega) (hE.ref 1 rfl)).mono ?_
  rintro o w2 ⟨rfl, F2, hU2, hs2⟩
  rw [HML1.out] at hU2
  replace hE := hE.turnU 1 rfl hU2 hs2
  simp only [List.set_cons_succ, List.set_cons_zero] at hE
  clear hU2 hs2
  obtain ⟨P, hP⟩ : ∃ P, w2.heap.size = P := ⟨_, rfl⟩
  replace hE := hE.box P hP [.int .i64 4, .int .i64 0, .int .i64 k] 105
  clear HLL hU
  go_wp2_with fail
  clear hP
  go_loopw [12, 13] (fun mv iv wr => ∃ (j : Nat) (mk : Bool) (x y z : Int) (l : List OneR) (F : Nat → Prop), mv = .bool mk ∧ iv = .int .i64 j ∧ j ≤ ns.length + 1 ∧ Hid (l.length ≤ 100001 + 3 * j) ∧ Hid (if j ≤ ns.length then layL lv e (ns.drop j) (x, y, z) mk l = fin else l = fin) ∧ Env w0 (boxI P [.int .i64 x, .int .i64 y, .int .i64 z] :: boxI U (urv 0 0 0 0 0 e none 0 0 0 0 0) :: refI m F l :: R) wr) (fun _ iv _ => ns.length + 1 - (intOf iv).toNat)
  case atStart => exact ⟨0, false, 4, 0, k, ml1, F2, rfl, rfl, Nat.zero_le _, Lib.hid (by have := HL1.out; omega), Lib.hid (by rw [if_pos (Nat.zero_le _)]; exact HFIN.out), hE⟩
  case round =>
    clear hE HL1 HFIN
    obtain ⟨j, mk, x, y, z, l, F, rfl, rfl, hj, hll, hf, hE⟩ := hrel
    by_cases hle : j ≤ ns.length
    · have hb0 : decide ((j : Int) ≤ (ns.length : Int)) = true := by simp; omega
      replace hf : Hid (layL lv e (ns.drop j) (x, y, z) mk l = fin) := Lib.hid (by have := hf.out; rwa [if_pos hle] at this)
      have hHL : l.length ≤ 1000000 - 3 := by have := hll.out; have := HNN.out; omega
      have HHL := Lib.hid hHL
      clear hHL
      by_cases hlt : j < ns.length
      · have hb1 : decide ((j : Int) < (ns.length : Int)) = true := by simp; omega
        have hlt1 : (j : Int) < (ns.length : Int) := by omega
        obtain ⟨g, off, hA⟩ : ∃ g off, A = some ⟨g, off, none⟩ := by
          rcases HROW.out _ _ _ (hE.sub (.cons _ (.cons _ (List.Sublist.refl _)))) with h0 | ⟨g, off, h, -⟩
          · rw [h0] at hlt; simp at hlt
          · exact ⟨g, off, h⟩
        obtain ⟨n, hn9⟩ : ∃ n, ns.getD j default = n := ⟨_, rfl⟩
        have HC : Hid (∀ x y z F l v, Env w0 (boxI P [.int .i64 x, .int .i64 y, .int .i64 z] :: boxI U (urv 0 0 0 0 0 e none 0 0 0 0 0) :: refI m F l :: R) v → v.cell? ⟨g, off + j * 4, none⟩ = some (.int .i64 n.s) ∧ v.cell? ⟨g, off + j * 4 + 1, none⟩ = some (.int .u64 n.key) ∧ v.cell? ⟨g, off + j * 4 + 2, none⟩ = some (.int .u64 n.val) ∧ v.cell? ⟨g, off + j * 4 + 3, none⟩ = some (.bool n.mb)) := Lib.hid fun x y z F l v hv => by
          rcases HROW.out _ _ _ (hv.sub (.cons _ (.cons _ (List.Sublist.refl _)))) with h0 | ⟨g', off', h, -, hc⟩
          · rw [h0] at hlt; simp at hlt
          · rw [hA] at h
            cases h
            have := at4N (hc j hlt)
            rwa [hn9] at this
        have hdrop : ns.drop j = n :: ns.drop (j + 1) := by
          rw [List.drop_eq_getElem_cons hlt, ← hn9]
          simp [hlt]
        have hf2 : Hid (layL lv e (ns.drop (j + 1)) (5, n.s, 7 + lv) n.mb (setL (setL (setL l (x, y, z) (lnk mk n.s e)) (5, n.s, 3) n.key) (5, n.s, 4) n.val) = fin) := Lib.hid (by have := hf.out; rw [hdrop] at this; exact this)
        obtain ⟨s, key, val, nm⟩ := n
        dsimp only at HC hf2
        clear hdrop hn9 hf
        subst hA
        obtain ⟨c0, c1, c2, c3⟩ := HC.out _ _ _ _ _ _ hE
        cases mk
        · skip
          go_wp2_with fail
          refine (rto_c s (hE.get 1 rfl)).mono ?_
          rintro o w3 ⟨rfl, hb⟩
          replace hE := hE.over hb
          clear hb c0 c1 c2 c3
          have r0 := hE.rule 0 rfl
          go_wp2_with fail
          refine (refSet_any x y z (lnk false s e) (by have := HHL.out; omega) (hE.ref 2 rfl)).mono ?_
          rintro o w5 ⟨rfl, F5, hU5, hs5⟩
          replace hE := hE.turnU 2 rfl hU5 hs5
          simp only [List.set_cons_succ, List.set_cons_zero] at hE
          clear hU5 hs5 r0
          go_wp2_with fail
          refine (cell13_any s (7 + lv) _).mono ?_
          rintro o w6 ⟨rfl, hb⟩
          replace hE := hE.over hb
          clear hb
          have r0 := hE.rule 0 rfl
          have g0 := hE.thaw 0 rfl 0 (by simp)
          have g1 := hE.thaw 0 rfl 1 (by simp)
          have g2 := hE.thaw 0 rfl 2 (by simp)
          have hE7 := hE.put3 0 rfl (.int .i64 5) (.int .i64 s) (.int .i64 (7 + lv))
          simp only [List.set_cons_zero] at hE7
          obtain ⟨c0, c1, c2, c3⟩ := HC.out _ _ _ _ _ _ hE7
          go_wp2_with fail
          clear r0 g0 g1 g2 c0 c1 c2 c3 hE
          have HL5 : Hid ((setL l (x, y, z) (lnk false s e)).length ≤ 1000000 - 2) := Lib.hid (by have := setL_length (x, y, z) (lnk false s e) l; have := HHL.out; omega)
          have HL6 : Hid ((setL l (x, y, z) (lnk false s e)).length ≤ l.length + 1) := Lib.hid (setL_length _ _ _)
          generalize setL l (x, y, z) (lnk false s e) = l5 at *
          generalize World.setCell _ _ _ = w7 at *
          refine Ord.wp_chain [8] (fun v => ∃ F l, Env w0 (boxI P [.int .i64 5, .int .i64 s, .int .i64 (7 + lv)] :: boxI U (urv 0 0 0 0 0 e none 0 0 0 0 0) :: refI m F l :: R) v) (fun k w' => ∃ F, Env w0 (boxI P [.int .i64 5, .int .i64 s, .int .i64 (7 + lv)] :: boxI U (urv 0 0 0 0 0 e none 0 0 0 0 0) :: refI m F (if k = 0 then l5 else setL l5 (5, s, 3) key) :: R) w') (by kernel_rfl) (by kernel_rfl) (by kernel_rfl) ⟨_, _, (hE7).drew⟩ ⟨_, (hE7).drew⟩ (fun hT => ?_)
          have hT9 := Lib.hid hT
          clear hT
          repeat (first
            | (refine Ord.ch_value (v := ?_) hT9.out (by decide) (by rfl) ?_ ?_; rotate_left; (focus (intro w5 hS; obtain ⟨F8, l7, hS8⟩ := hS; obtain ⟨c0, c1, c2, c3⟩ := HC.out _ _ _ _ _ _ hS8; go_simp <;> with_reducible rfl)); (try simp only [Act.put, List.setIfInBounds_toArray, List.set_cons_zero, List.set_cons_succ]))
            | (refine Ord.ch_off hT9.out (by decide) (by rfl) ?_; (try simp only [Act.put, List.setIfInBounds_toArray, List.set_cons_zero, List.set_cons_succ]))
            | (refine Ord.ch_call (v := ?_) (f := ?_) (args := ?_) hT9.out (by decide) (by rfl) ?_ ?_ ?_; rotate_left 3; (focus (intro w5 hS; obtain ⟨F8, l7, hS8⟩ := hS; obtain ⟨c0, c1, c2, c3⟩ := HC.out _ _ _ _ _ _ hS8; go_simp; constructor <;> with_reducible rfl)); (focus (intro w5 hS; (first | (with_reducible refine (cell13_any _ _ _).mono ?_; rintro o w6 ⟨rfl, hb6⟩; constructor; with_reducible rfl; exact ⟨hS.elim fun F h => h.elim fun l h => ⟨F, l, h.over hb6⟩, fun k h => h.elim fun F h => ⟨F, h.over hb6⟩⟩)))); (try simp only [Act.put, List.setIfInBounds_toArray, List.set_cons_zero, List.set_cons_succ])))
          refine Ord.ch_turn (v := .tuple #[]) 0 hT9.out rfl (by decide) (Or.inl rfl) (by rfl) ?_ ?_
          · rintro w5 hC5 ⟨F5, hA5⟩
            simp only [if_true] at hA5
            obtain ⟨c0, c1, c2, c3⟩ := HC.out _ _ _ _ _ _ hA5
            go_simp
            simp only [Ord.LandsIn]
            refine (refSet_any 5 s 3 key (by have := (HL5).out; omega) (hA5.ref 2 rfl)).mono ?_
            rintro o w6 ⟨rfl, F6, hU6, hs6⟩
            have hE6 := hA5.turnU 2 rfl hU6 hs6
            simp only [List.set_cons_succ, List.set_cons_zero] at hE6
            exact ⟨rfl, ⟨_, _, hE6⟩, F6, hE6⟩
          (try simp only [Act.put, List.setIfInBounds_toArray, List.set_cons_zero, List.set_cons_succ])
          refine Ord.InText.nil fun w5 hS => ?_
          clear hT9
          obtain ⟨hC9, hA9⟩ := Ord.chain_end hS
          clear hS
          clear hC9
          simp only [List.length_cons, List.length_nil, Nat.zero_add, Nat.one_ne_zero, if_false] at hA9
          obtain ⟨F8, hE8⟩ := hA9
          clear hE7
          have HL8 : Hid ((setL l5 (5, s, 3) key).length ≤ 1000000 - 1) := Lib.hid (by have := setL_length (5, s, 3) key l5; have := HL5.out; omega)
          have HL9 : Hid ((setL l5 (5, s, 3) key).length ≤ l.length + 2) := Lib.hid (by have := setL_length (5, s, 3) key l5; have := HL6.out; omega)
          generalize setL l5 (5, s, 3) key = l8 at *
          go_wp2_with fail
          refine Ord.wp_chain [8] (fun v => ∃ F l, Env w0 (boxI P [.int .i64 5, .int .i64 s, .int .i64 (7 + lv)] :: boxI U (urv 0 0 0 0 0 e none 0 0 0 0 0) :: refI m F l :: R) v) (fun k w' => ∃ F, Env w0 (boxI P [.int .i64 5, .int .i64 s, .int .i64 (7 + lv)] :: boxI U (urv 0 0 0 0 0 e none 0 0 0 0 0) :: refI m F (if k = 0 then l8 else setL l8 (5, s, 4) val) :: R) w') (by kernel_rfl) (by kernel_rfl) (by kernel_rfl) ⟨_, _, (hE8).drew⟩ ⟨_, (hE8).drew⟩ (fun hT => ?_)
          have hT9 := Lib.hid hT
          clear hT
          repeat (first
            | (refine Ord.ch_value (v := ?_) hT9.out (by decide) (by rfl) ?_ ?_; rotate_left; (focus (intro w5 hS; obtain ⟨F8, l7, hS8⟩ := hS; obtain ⟨c0, c1, c2, c3⟩ := HC.out _ _ _ _ _ _ hS8; go_simp <;> with_reducible rfl)); (try simp only [Act.put, List.setIfInBounds_toArray, List.set_cons_zero, List.set_cons_succ]))
            | (refine Ord.ch_off hT9.out (by decide) (by rfl) ?_; (try simp only [Act.put, List.setIfInBounds_toArray, List.set_cons_zero, List.set_cons_succ]))
            | (refine Ord.ch_call (v := ?_) (f := ?_) (args := ?_) hT9.out (by decide) (by rfl) ?_ ?_ ?_; rotate_left 3; (focus (intro w5 hS; obtain ⟨F8, l7, hS8⟩ := hS; obtain ⟨c0, c1, c2, c3⟩ := HC.out _ _ _ _ _ _ hS8; go_simp; constructor <;> with_reducible rfl)); (focus (intro w5 hS; (first | (with_reducible refine (cell13_any _ _ _).mono ?_; rintro o w6 ⟨rfl, hb6⟩; constructor; with_reducible rfl; exact ⟨hS.elim fun F h => h.elim fun l h => ⟨F, l, h.over hb6⟩, fun k h => h.elim fun F h => ⟨F, h.over hb6⟩⟩)))); (try simp only [Act.put, List.setIfInBounds_toArray, List.set_cons_zero, List.set_cons_succ])))
          refine Ord.ch_turn (v := .tuple #[]) 0 hT9.out rfl (by decide) (Or.inl rfl) (by rfl) ?_ ?_
          · rintro w5 hC5 ⟨F5, hA5⟩
            simp only [if_true] at hA5
            obtain ⟨c0, c1, c2, c3⟩ := HC.out _ _ _ _ _ _ hA5
            go_simp
            simp only [Ord.LandsIn]
            refine (refSet_any 5 s 4 val (by have := (HL8).out; omega) (hA5.ref 2 rfl)).mono ?_
            rintro o w6 ⟨rfl, F6, hU6, hs6⟩
            have hE6 := hA5.turnU 2 rfl hU6 hs6
            simp only [List.set_cons_succ, List.set_cons_zero] at hE6
            exact ⟨rfl, ⟨_, _, hE6⟩, F6, hE6⟩
          (try simp only [Act.put, List.setIfInBounds_toArray, List.set_cons_zero, List.set_cons_succ])
          refine Ord.InText.nil fun w5 hS => ?_
          clear hT9
          obtain ⟨hC9, hA9⟩ := Ord.chain_end hS
          clear hS
          clear hC9
          simp only [List.length_cons, List.length_nil, Nat.zero_add, Nat.one_ne_zero, if_false] at hA9
          obtain ⟨F9, hE9⟩ := hA9
          clear hE8
          go_wp2_with fail
          exact ⟨⟨j + 1, nm, 5, s, 7 + lv, _, F9, rfl, by simp, by omega, Lib.hid (by have := setL_length (5, s, 4) val l8; have := HL9.out; have := hll.out; omega), Lib.hid (by rw [if_pos (by omega)]; exact hf2.out), hE9⟩, by simp [intOf]; omega⟩
        · skip
          go_wp2_with fail
          refine (rto_c s (hE.get 1 rfl)).mono ?_
          rintro o w3 ⟨rfl, hb⟩
          replace hE := hE.over hb
          clear hb c0 c1 c2 c3
          have r0 := hE.rule 0 rfl
          go_wp2_with fail
          refine (rmark_c (wordI false s e) s (wordI_in _ _ _) (hE.get 1 rfl)).mono ?_
          rintro o w4 ⟨rfl, hb⟩
          replace hE := hE.over hb
          clear hb r0
          have r0 := hE.rule 0 rfl
          go_wp2_with fail
          refine (refSet_any x y z (lnk true s e) (by have := HHL.out; omega) (hE.ref 2 rfl)).mono ?_
          rintro o w5 ⟨rfl, F5, hU5, hs5⟩
          replace hE := hE.turnU 2 rfl hU5 hs5
          simp only [List.set_cons_succ, List.set_cons_zero] at hE
          clear hU5 hs5 r0
          go_wp2_with fail
          refine (cell13_any s (7 + lv) _).mono ?_
          rintro o w6 ⟨rfl, hb⟩
          replace hE := hE.over hb
          clear hb
          have r0 := hE.rule 0 rfl
          have g0 := hE.thaw 0 rfl 0 (by simp)
          have g1 := hE.thaw 0 rfl 1 (by simp)
          have g2 := hE.thaw 0 rfl 2 (by simp)
          have hE7 := hE.put3 0 rfl (.int .i64 5) (.int .i64 s) (.int .i64 (7 + lv))
          simp only [List.set_cons_zero] at hE7
          obtain ⟨c0, c1, c2, c3⟩ := HC.out _ _ _ _ _ _ hE7
          go_wp2_with fail
          clear r0 g0 g1 g2 c0 c1 c2 c3 hE
          have HL5 : Hid ((setL l (x, y, z) (lnk true s e)).length ≤ 1000000 - 2) := Lib.hid (by have := setL_length (x, y, z) (lnk true s e) l; have := HHL.out; omega)
          have HL6 : Hid ((setL l (x, y, z) (lnk true s e)).length ≤ l.length + 1) := Lib.hid (setL_length _ _ _)
          generalize setL l (x, y, z) (lnk true s e) = l5 at *
          generalize World.setCell _ _ _ = w7 at *
          refine Ord.wp_chain [8] (fun v => ∃ F l, Env w0 (boxI P [.int .i64 5, .int .i64 s, .int .i64 (7 + lv)] :: boxI U (urv 0 0 0 0 0 e none 0 0 0 0 0) :: refI m F l :: R) v) (fun k w' => ∃ F, Env w0 (boxI P [.int .i64 5, .int .i64 s, .int .i64 (7 + lv)] :: boxI U (urv 0 0 0 0 0 e none 0 0 0 0 0) :: refI m F (if k = 0 then l5 else setL l5 (5, s, 3) key) :: R) w') (by kernel_rfl) (by kernel_rfl) (by kernel_rfl) ⟨_, _, (hE7).drew⟩ ⟨_, (hE7).drew⟩ (fun hT => ?_)
          have hT9 := Lib.hid hT
          clear hT
          repeat (first
            | (refine Ord.ch_value (v := ?_) hT9.out (by decide) (by rfl) ?_ ?_; rotate_left; (focus (intro w5 hS; obtain ⟨F8, l7, hS8⟩ := hS; obtain ⟨c0, c1, c2, c3⟩ := HC.out _ _ _ _ _ _ hS8; go_simp <;> with_reducible rfl)); (try simp only [Act.put, List.setIfInBounds_toArray, List.set_cons_zero, List.set_cons_succ]))
            | (refine Ord.ch_off hT9.out (by decide) (by rfl) ?_; (try simp only [Act.put, List.setIfInBounds_toArray, List.set_cons_zero, List.set_cons_succ]))
            | (refine Ord.ch_call (v := ?_) (f := ?_) (args := ?_) hT9.out (by decide) (by rfl) ?_ ?_ ?_; rotate_left 3; (focus (intro w5 hS; obtain ⟨F8, l7, hS8⟩ := hS; obtain ⟨c0, c1, c2, c3⟩ := HC.out _ _ _ _ _ _ hS8; go_simp; constructor <;> with_reducible rfl)); (focus (intro w5 hS; (first | (with_reducible refine (cell13_any _ _ _).mono ?_; rintro o w6 ⟨rfl, hb6⟩; constructor; with_reducible rfl; exact ⟨hS.elim fun F h => h.elim fun l h => ⟨F, l, h.over hb6⟩, fun k h => h.elim fun F h => ⟨F, h.over hb6⟩⟩)))); (try simp only [Act.put, List.setIfInBounds_toArray, List.set_cons_zero, List.set_cons_succ])))
          refine Ord.ch_turn (v := .tuple #[]) 0 hT9.out rfl (by decide) (Or.inl rfl) (by rfl) ?_ ?_
          · rintro w5 hC5 ⟨F5, hA5⟩
            simp only [if_true] at hA5
            obtain ⟨c0, c1, c2, c3⟩ := HC.out _ _ _ _ _ _ hA5
            go_simp
            simp only [Ord.LandsIn]
            refine (refSet_any 5 s 3 key (by have := (HL5).out; omega) (hA5.ref 2 rfl)).mono ?_
            rintro o w6 ⟨rfl, F6, hU6, hs6⟩
            have hE6 := hA5.turnU 2 rfl hU6 hs6
            simp only [List.set_cons_succ, List.set_cons_zero] at hE6
            exact ⟨rfl, ⟨_, _, hE6⟩, F6, hE6⟩
          (try simp only [Act.put, List.setIfInBounds_toArray, List.set_cons_zero, List.set_cons_succ])
          refine Ord.InText.nil fun w5 hS => ?_
          clear hT9
          obtain ⟨hC9, hA9⟩ := Ord.chain_end hS
          clear hS
          clear hC9
          simp only [List.length_cons, List.length_nil, Nat.zero_add, Nat.one_ne_zero, if_false] at hA9
          obtain ⟨F8, hE8⟩ := hA9
          clear hE7
          have HL8 : Hid ((setL l5 (5, s, 3) key).length ≤ 1000000 - 1) := Lib.hid (by have := setL_length (5, s, 3) key l5; have := HL5.out; omega)
          have HL9 : Hid ((setL l5 (5, s, 3) key).length ≤ l.length + 2) := Lib.hid (by have := setL_length (5, s, 3) key l5; have := HL6.out; omega)
          generalize setL l5 (5, s, 3) key = l8 at *
          go_wp2_with fail
          refine Ord.wp_chain [8] (fun v => ∃ F l, Env w0 (boxI P [.int .i64 5, .int .i64 s, .int .i64 (7 + lv)] :: boxI U (urv 0 0 0 0 0 e none 0 0 0 0 0) :: refI m F l :: R) v) (fun k w' => ∃ F, Env w0 (boxI P [.int .i64 5, .int .i64 s, .int .i64 (7 + lv)] :: boxI U (urv 0 0 0 0 0 e none 0 0 0 0 0) :: refI m F (if k = 0 then l8 else setL l8 (5, s, 4) val) :: R) w') (by kernel_rfl) (by kernel_rfl) (by kernel_rfl) ⟨_, _, (hE8).drew⟩ ⟨_, (hE8).drew⟩ (fun hT => ?_)
          have hT9 := Lib.hid hT
          clear hT
          repeat (first
            | (refine Ord.ch_value (v := ?_) hT9.out (by decide) (by rfl) ?_ ?_; rotate_left; (focus (intro w5 hS; obtain ⟨F8, l7, hS8⟩ := hS; obtain ⟨c0, c1, c2, c3⟩ := HC.out _ _ _ _ _ _ hS8; go_simp <;> with_reducible rfl)); (try simp only [Act.put, List.setIfInBounds_toArray, List.set_cons_zero, List.set_cons_succ]))
            | (refine Ord.ch_off hT9.out (by decide) (by rfl) ?_; (try simp only [Act.put, List.setIfInBounds_toArray, List.set_cons_zero, List.set_cons_succ]))
            | (refine Ord.ch_call (v := ?_) (f := ?_) (args := ?_) hT9.out (by decide) (by rfl) ?_ ?_ ?_; rotate_left 3; (focus (intro w5 hS; obtain ⟨F8, l7, hS8⟩ := hS; obtain ⟨c0, c1, c2, c3⟩ := HC.out _ _ _ _ _ _ hS8; go_simp; constructor <;> with_reducible rfl)); (focus (intro w5 hS; (first | (with_reducible refine (cell13_any _ _ _).mono ?_; rintro o w6 ⟨rfl, hb6⟩; constructor; with_reducible rfl; exact ⟨hS.elim fun F h => h.elim fun l h => ⟨F, l, h.over hb6⟩, fun k h => h.elim fun F h => ⟨F, h.over hb6⟩⟩)))); (try simp only [Act.put, List.setIfInBounds_toArray, List.set_cons_zero, List.set_cons_succ])))
          refine Ord.ch_turn (v := .tuple #[]) 0 hT9.out rfl (by decide) (Or.inl rfl) (by rfl) ?_ ?_
          · rintro w5 hC5 ⟨F5, hA5⟩
            simp only [if_true] at hA5
            obtain ⟨c0, c1, c2, c3⟩ := HC.out _ _ _ _ _ _ hA5
            go_simp
            simp only [Ord.LandsIn]
            refine (refSet_any 5 s 4 val (by have := (HL8).out; omega) (hA5.ref 2 rfl)).mono ?_
            rintro o w6 ⟨rfl, F6, hU6, hs6⟩
            have hE6 := hA5.turnU 2 rfl hU6 hs6
            simp only [List.set_cons_succ, List.set_cons_zero] at hE6
            exact ⟨rfl, ⟨_, _, hE6⟩, F6, hE6⟩
          (try simp only [Act.put, List.setIfInBounds_toArray, List.set_cons_zero, List.set_cons_succ])
          refine Ord.InText.nil fun w5 hS => ?_
          clear hT9
          obtain ⟨hC9, hA9⟩ := Ord.chain_end hS
          clear hS
          clear hC9
          simp only [List.length_cons, List.length_nil, Nat.zero_add, Nat.one_ne_zero, if_false] at hA9
          obtain ⟨F9, hE9⟩ := hA9
          clear hE8
          go_wp2_with fail
          exact ⟨⟨j + 1, nm, 5, s, 7 + lv, _, F9, rfl, by simp, by omega, Lib.hid (by have := setL_length (5, s, 4) val l8; have := HL9.out; have := hll.out; omega), Lib.hid (by rw [if_pos (by omega)]; exact hf2.out), hE9⟩, by simp [intOf]; omega⟩
      · have hb1 : decide ((j : Int) < (ns.length : Int)) = false := by simp; omega
        have hjn : j = ns.length := by omega
        have hf2 : Hid (setL l (x, y, z) (lnk mk 0 e) = fin) := Lib.hid (by have := hf.out; rw [hjn, List.drop_length] at this; exact this)
        clear hf hjn
        cases mk
        · skip
          go_wp2_with fail
          refine (rto_c 0 (hE.get 1 rfl)).mono ?_
          rintro o w3 ⟨rfl, hb⟩
          replace hE := hE.over hb
          clear hb
          have r0 := hE.rule 0 rfl
          go_wp2_with fail
          refine (refSet_any x y z (lnk false 0 e) (by have := HHL.out; omega) (hE.ref 2 rfl)).mono ?_
          rintro o w5 ⟨rfl, F5, hU5, hs5⟩
          replace hE := hE.turnU 2 rfl hU5 hs5
          simp only [List.set_cons_succ, List.set_cons_zero] at hE
          clear hU5 hs5 r0
          go_wp2_with fail
          exact ⟨⟨j + 1, _, x, y, z, _, F5, rfl, by simp, by omega, Lib.hid (by have := setL_length (x, y, z) (lnk false 0 e) l; have := hll.out; omega), Lib.hid (by rw [if_neg (by omega)]; exact hf2.out), hE⟩, by simp [intOf]; omega⟩
        · skip
          go_wp2_with fail
          refine (rto_c 0 (hE.get 1 rfl)).mono ?_
          rintro o w3 ⟨rfl, hb⟩
          replace hE := hE.over hb
          clear hb
          have r0 := hE.rule 0 rfl
          go_wp2_with fail
          refine (rmark_c (wordI false 0 e) 0 (wordI_in _ _ _) (hE.get 1 rfl)).mono ?_
          rintro o w4 ⟨rfl, hb⟩
          replace hE := hE.over hb
          clear hb r0
          have r0 := hE.rule 0 rfl
          go_wp2_with fail
          refine (refSet_any x y z (lnk true 0 e) (by have := HHL.out; omega) (hE.ref 2 rfl)).mono ?_
          rintro o w5 ⟨rfl, F5, hU5, hs5⟩
          replace hE := hE.turnU 2 rfl hU5 hs5
          simp only [List.set_cons_succ, List.set_cons_zero] at hE
          clear hU5 hs5 r0
          go_wp2_with fail
          exact ⟨⟨j + 1, _, x, y, z, _, F5, rfl, by simp, by omega, Lib.hid (by have := setL_length (x, y, z) (lnk true 0 e) l; have := hll.out; omega), Lib.hid (by rw [if_neg (by omega)]; exact hf2.out), hE⟩, by simp [intOf]; omega⟩
    · have hb0 : decide ((j : Int) ≤ (ns.length : Int)) = false := by simp; omega
      have hf2 : l = fin := by have := hf.out; rwa [if_neg hle] at this
      go_wp2_with fail
      go_end0
      rw [← hf2]
      exact ⟨rfl, F, hE.sub (.cons _ (.cons _ (List.Sublist.refl _)))⟩
end
end Go.Proofs.YtnnjanaclgjneaaGreatDoor

/- Lanes and searches: New, NewSearch, what they tell; the checkpoint; Step of a search over the model. -/
namespace Go.Proofs.YtnnjanaclgjneaaGreatDoor
open Go.RowKit Go.Maps
set_option maxRecDepth 100000

section
variable {w : World} {a c : Nat} {lv key : Int} {vs : Bool} {nx : Value} {st x y z W C X wd : Int} {pf : Bool} {pv : Int}
theorem val_g (hb : Blk 0 w a (laneC c lv key vs nx st x y z W C X wd pf pv)) : Calls Tryz.prog 208 #[.pointer (some ⟨a, 0, none⟩)] w fun o w' => o = .returned (.int .u64 pv) ∧ w' = w := by
  have r1 := hb.rule
  unfold laneC at r1
  go_enter Tryz.func208, Tryz.ntmps208
  go_wp2
  go_ret
  exact ⟨rfl, rfl⟩
end
end Go.Proofs.YtnnjanaclgjneaaGreatDoor

/- Searches: Step over the model, of a thread of the statements' structure; words that are laid. -/
namespace Go.Proofs.YtnnjanaclgjneaaGreatDoor
open Go.RowKit Go.Maps
set_option maxRecDepth 100000

def mkS (B : Bs) (G : Nat → Prop) (f : Plc → Int) (qc : Cnt) (m : Nat) (e r : Int) : ST := { c := B.c, q := B.q, p := B.p, cc := B.cc, ck := 2, cs := 1000, cb := 3, ch := 1, cl := 1073741824, ce := e, cr := r, hs := 0, F := B.F, ql := [], kq := B.kq, G := G, f := f, qc := qc, m := m }
/-- The world's counts, its entries behind a search's step. -/
def qcM (T : Sm) (f : Plc → Int) (q : Cnt) : Cnt := if T.on then laneQ T.L f q else { q with l := wrap64 (q.l + 1) }
def mM (T : Sm) (m : Nat) : Nat := if T.on then (if T.L.pc = 5 then m + 1 else m) else m
theorem mM_le (T : Sm) (m : Nat) : mM T m ≤ m + 1 := by unfold mM; by_cases h1 : T.on = true <;> by_cases h2 : T.L.pc = 5 <;> simp [h1, h2]
theorem searchS_mkS (B : Bs) (G : Nat → Prop) (f : Plc → Int) (qc : Cnt) (m : Nat) (k key : Int) (vs : Bool) (T : Sm) (G' : Nat → Prop) :
    searchS key vs (mkS B G f qc m T.e T.r) T G' = mkS B G' (searchM k key vs T f).2.2 (qcM T f qc) (mM T m) (searchM k key vs T f).2.1.e (searchM k key vs T f).2.1.r ∨ (T.on = false ∧ searchS key vs (mkS B G f qc m T.e T.r) T G' = mkS B G (searchM k key vs T f).2.2 (qcM T f qc) (mM T m) (searchM k key vs T f).2.1.e (searchM k key vs T f).2.1.r) := by
  by_cases h : T.on = true
  · left
    unfold searchS searchM qcM mM
    rw [if_pos h, if_pos h, if_pos h, if_pos h]
    rfl
  · right
    refine ⟨by simpa using h, ?_⟩
    unfold searchS searchM qcM mM
    rw [if_neg h, if_neg h, if_neg h, if_neg h]
    rfl
section
variable {w0 w : World} {R : List Item} {sb : Nat} {B : Bs} {G : Nat → Prop} {f : Plc → Int} {qc : Cnt} {m : Nat} {k key : Int} {vs : Bool} {T : Sm}
theorem search_k (hT : SmOk T) (hg : Glo w0) (hm : m < maxLen) (h : SrchR w0 R sb k key vs (mkS B G f qc m T.e T.r) 0 T w) :
    Calls Tryz.prog 147 #[.pointer (some ⟨sb, 0, none⟩), .iface 26 (.pointer (some ⟨B.p, 0, none⟩))] w fun o w' => o = .returned (.int .i64 (searchM k key vs T f).1) ∧ ∃ G', SrchR w0 R sb k key vs (mkS B G' (searchM k key vs T f).2.2 (qcM T f qc) (mM T m) (searchM k key vs T f).2.1.e (searchM k key vs T f).2.1.r) (searchM k key vs T f).1 (searchM k key vs T f).2.1 w' := by
  refine (search_l (S := mkS B G f qc m T.e T.r) hT hg hm h).mono ?_
  rintro o w1 ⟨rfl, G', hR⟩
  refine ⟨rfl, ?_⟩
  rcases searchS_mkS B G f qc m k key vs T G' with h1 | ⟨-, h1⟩
  · rw [h1] at hR
    exact ⟨G', hR⟩
  · rw [h1] at hR
    exact ⟨G, hR⟩
end
/-- A search ahead of its first step. -/
def T0s : Sm := { on := false, L := L0 (0, 0, 0), e := 0, r := 0 }
theorem T0s_ok : SmOk T0s := fun h => absurd h (by simp [T0s])
theorem SrchR.start {w0 w : World} {R : List Item} {sb : Nat} {B : Bs} {G : Nat → Prop} {f : Plc → Int} {qc : Cnt} {m : Nat} {k key : Int} {vs : Bool} (h : Env w0 (boxI sb (srC B.c k key vs (.pointer none)) :: LT (mkS B G f qc m 0 0) R) w) : SrchR w0 R sb k key vs (mkS B G f qc m 0 0) 0 T0s w := ⟨rfl, rfl, .inl ⟨rfl, rfl, .inl h⟩⟩
/-- A world's words. -/
theorem SrchR.words {w0 w : World} {R : List Item} {sb : Nat} {S : ST} {k key s : Int} {vs : Bool} {T : Sm} (h : SrchR w0 R sb k key vs S s T w) : Words S.f := by
  obtain ⟨-, -, ⟨-, -, hE | ⟨a, L, nx, wd, B1, B2, -, hE⟩⟩ | ⟨-, a, nx, wd, B1, B2, -, hE⟩⟩ := h
  · exact (hE.cell 4 rfl).words
  · exact (hE.cell 6 rfl).words
  · exact (hE.cell 6 rfl).words
/-- All of it but for the world's cells turns with what the thread's calls alone turn. -/
theorem Words.setL {l : List OneR} (h : Words (getL l)) {x : Plc} (hx : Wf x) {v : Int} (hv : InU v) : Words (getL (setL l x v)) := by
  rw [getL_set]
  exact h.set hx hv
theorem lnk_in (mk : Bool) (s e : Int) : InU (lnk mk s e) := by
  unfold lnk markedW
  repeat' split
  all_goals exact wordI_in _ _ _
/-- Nodes that can be. -/
def NdOk (n : Nd) : Prop := (1 ≤ n.s ∧ n.s ≤ 1000) ∧ InU n.key ∧ InU n.val
theorem words_lay {lv e : Int} (hlv : 0 ≤ lv ∧ lv ≤ 1000) : ∀ (ns : List Nd) (p : Plc) (mk : Bool) (l : List OneR), (∀ n ∈ ns, NdOk n) → Wf p → Words (getL l) → Words (getL (layL lv e ns p mk l))
  | [], p, mk, l, _, hp, hl => hl.setL hp (lnk_in _ _ _)
  | n :: r, p, mk, l, hn, hp, hl => by
    obtain ⟨h1, h2, h3⟩ := hn n (List.mem_cons_self ..)
    have hw : ∀ j : Int, 0 ≤ j ∧ j ≤ 2000 → Wf (5, n.s, j) := fun j hj => wf_part (C := n.s) (n := j) (by omega) (by omega)
    exact words_lay hlv r _ _ _ (fun m hm => hn m (List.mem_cons_of_mem _ hm)) (hw _ (by omega)) (((hl.setL hp (lnk_in _ _ _)).setL (hw 3 (by omega)) h2).setL (hw 4 (by omega)) h3)
theorem layL_length (lv e : Int) : ∀ (ns : List Nd) (p : Plc) (mk : Bool) (l : List OneR), (layL lv e ns p mk l).length ≤ l.length + 3 * ns.length + 1
  | [], p, mk, l => by have := setL_length p (lnk mk 0 e) l; simpa [layL] using this
  | n :: r, p, mk, l => by
    have h1 := layL_length lv e r (5, n.s, 7 + lv) n.mb (Go.Proofs.YtnnjanaclgjneaaGreatDoor.setL (Go.Proofs.YtnnjanaclgjneaaGreatDoor.setL (Go.Proofs.YtnnjanaclgjneaaGreatDoor.setL l p (lnk mk n.s e)) (5, n.s, 3) n.key) (5, n.s, 4) n.val)
    have h2 := setL_length (5, n.s, 4) n.val (Go.Proofs.YtnnjanaclgjneaaGreatDoor.setL (Go.Proofs.YtnnjanaclgjneaaGreatDoor.setL l p (lnk mk n.s e)) (5, n.s, 3) n.key)
    have h3 := setL_length (5, n.s, 3) n.key (Go.Proofs.YtnnjanaclgjneaaGreatDoor.setL l p (lnk mk n.s e))
    have h4 := setL_length p (lnk mk n.s e) l
    simp only [layL, List.length_cons]
    omega
end Go.Proofs.YtnnjanaclgjneaaGreatDoor

/- Deeds to a memory that came in: a row of structs. -/
namespace Go.Proofs.YtnnjanaclgjneaaGreatDoor
open Go.RowKit Go.Maps
set_option maxRecDepth 100000

structure ActU where
  kd : Int
  x : Int
  y : Int
  z : Int
  v : Int
instance : Inhabited ActU := ⟨⟨0, 0, 0, 0, 0⟩⟩
def encActU (r : ActU) : List Value := [.int .i64 r.kd, .int .i64 r.x, .int .i64 r.y, .int .i64 r.z, .int .u64 r.v]
def OkActU (r : ActU) : Prop := In64 r.kd ∧ In64 r.x ∧ In64 r.y ∧ In64 r.z ∧ InU r.v
theorem flatActU : flatT Tryz.prog 6 107 = some [.num .i64, .num .i64, .num .i64, .num .i64, .num .u64] := by kernel_rfl
theorem cellsActU : Tryz.prog.cellsOf 107 = 5 := by kernel_rfl
theorem open_ActU {H : Type} {en : TypeId × Value → H} {W : World} {A : Option Addr} {len cap : Nat} {d : DataW H} {p : List MemPlace}
    (h : DataW.Trod en Tryz.prog W 0 (fun _ => true) true 89 (.slice A len cap) d p) (hlt : ∀ x ∈ p, x.block < W.heap.size) :
    ∃ xs : List ActU, xs.length = len ∧ len ≤ maxLen ∧ (∀ r ∈ xs, OkActU r) ∧ RowX encActU 5 W A xs := by
  refine open_rowX Tryz.underlying89 flatActU cellsActU (by simp) (fun w b o hall => ?_) h hlt
  obtain ⟨_, c0, x0, rfl, w0⟩ := hall 0 _ rfl
  obtain ⟨_, c1, x1, rfl, w1⟩ := hall 1 _ rfl
  obtain ⟨_, c2, x2, rfl, w2⟩ := hall 2 _ rfl
  obtain ⟨_, c3, x3, rfl, w3⟩ := hall 3 _ rfl
  obtain ⟨_, c4, x4, rfl, w4⟩ := hall 4 _ rfl
  refine ⟨⟨x0, x1, x2, x3, x4⟩, fun j v e => ?_, wf_i.1 w0, wf_i.1 w1, wf_i.1 w2, wf_i.1 w3, wf_u.1 w4⟩
  match j with
  | 0 => simp [encActU] at e; subst e; exact c0
  | 1 => simp [encActU] at e; subst e; exact c1
  | 2 => simp [encActU] at e; subst e; exact c2
  | 3 => simp [encActU] at e; subst e; exact c3
  | 4 => simp [encActU] at e; subst e; exact c4
  | j + 5 => simp [encActU] at e
theorem at_ActU {w : World} {b o : Nat} {kd x y z v : Int} (h : CellsAt w b o (encActU ⟨kd, x, y, z, v⟩)) :
    w.cell? ⟨b, o, none⟩ = some (.int .i64 kd) ∧ w.cell? ⟨b, o + 1, none⟩ = some (.int .i64 x) ∧ w.cell? ⟨b, o + 2, none⟩ = some (.int .i64 y) ∧ w.cell? ⟨b, o + 3, none⟩ = some (.int .i64 z) ∧ w.cell? ⟨b, o + 4, none⟩ = some (.int .u64 v) :=
  ⟨h 0 _ rfl, h 1 _ rfl, h 2 _ rfl, h 3 _ rfl, h 4 _ rfl⟩
end Go.Proofs.YtnnjanaclgjneaaGreatDoor

/- Deeds to a memory: words that can be; counts. -/
namespace Go.Proofs.YtnnjanaclgjneaaGreatDoor
open Go.RowKit Go.Maps
set_option maxRecDepth 100000

theorem wrapU_in (z : Int) : InU (IntKind.u64.wrap z) := by rw [IntKind.wrap_u64]; unfold InU; omega
theorem bitsU (op : BinOp) (a b : Int) : InU (bits op .u64 a b) := by unfold bits; exact wrapU_in _
/-- Whether a deed stores. -/
def stD (kd : Int) : Bool := kd == 1 || kd == 2 || kd == 3
def dQ (kd : Int) (q : Cnt) : Cnt := if stD kd then { q with s := wrap64 (q.s + 1) } else q

end Go.Proofs.YtnnjanaclgjneaaGreatDoor

/- The contract of law 18's disturb: a deed to both memories. -/
namespace Go.Proofs.YtnnjanaclgjneaaGreatDoor
open Go.RowKit Go.Maps
set_option maxRecDepth 100000

section
variable {w0 w : World} {R : List Item} {p cc m n : Nat} {G F : Nat → Prop} {qc : Cnt} {ml : List OneR}
set_option maxHeartbeats 6400000 in
theorem disturb18_t (kd x y z v : Int) (hx : Wf (x, y, z)) (hv : InU v) (hn : n < maxLen) (hml : ml.length ≤ 900000) (hE : Env w0 (wbox p cc :: cellI cc G (getL ml) qc n :: refI m F ml :: R) w) :
    Calls Tryz.prog 45 #[.pointer (some ⟨p, 0, none⟩), .pointer (some ⟨m, 0, none⟩), .agg #[.int .i64 kd, .int .i64 x, .int .i64 y, .int .i64 z, .int .u64 v]] w fun o w' => o = .returned (.tuple #[]) ∧ ∃ G' F' ml' n', ml'.length ≤ ml.length + 1 ∧ n' ≤ n + 1 ∧ Env w0 (wbox p cc :: cellI cc G' (getL ml') (dQ kd qc) n' :: refI m F' ml' :: R) w' := by
  have hE1 := hE.box w.heap.size rfl [.int .i64 kd, .int .i64 x, .int .i64 y, .int .i64 z, .int .u64 v] 107
  have HX := Lib.hid hx
  have HV := Lib.hid hv
  clear hx hv hE
  have hE2 := hE1.box (w.heap.size + 1) (by simp) [.int .i64 x, .int .i64 y, .int .i64 z] 105
  clear hE1
  by_cases h1 : kd = 1
  · subst h1
    have r0 := hE2.rule 1 rfl
    have r1 := hE2.rule 0 rfl
    go_enter Tryz.func45, Tryz.ntmps45
    go_wp2_with fail
    refine (epoch_any _).mono ?_
    rintro o w1 ⟨rfl, hb⟩
    replace hE2 := hE2.over hb
    clear hb r0 r1
    have r1 := hE2.rule 0 rfl
    have g0 := hE2.thaw 0 rfl 0 (by simp)
    have g1 := hE2.thaw 0 rfl 1 (by simp)
    have g2 := hE2.thaw 0 rfl 2 (by simp)
    replace hE2 := hE2.put3 0 rfl (.int .i64 1) (.int .i64 0) (.int .i64 0)
    simp only [List.set_cons_zero] at hE2
    go_wp2_with fail
    clear r1 g0 g1 g2
    refine (refGet_any 1 0 0 (by omega) (hE2.ref 4 rfl)).mono ?_
    rintro o w5 ⟨rfl, hb⟩
    replace hE2 := hE2.over hb
    clear hb
    have r1 := hE2.rule 0 rfl
    go_wp2_with fail
    refine (refSet_any 1 0 0 (IntKind.u64.wrap (getL ml (1, 0, 0) + 1)) (by omega) (hE2.ref 4 rfl)).mono ?_
    rintro o w2 ⟨rfl, F2, hU2, hs2⟩
    replace hE2 := hE2.turnU 4 rfl hU2 hs2
    simp only [List.set_cons_succ, List.set_cons_zero] at hE2
    clear r1 hU2 hs2
    have r1 := hE2.rule 0 rfl
    go_wp2_with fail
    refine (store_w 1 0 0 0 (IntKind.u64.wrap (getL ml (1, 0, 0) + 1)) 0 false (by unfold Wf In64; simp) (wrapU_in _) hn 2 3 (by decide) hE2 rfl rfl).mono ?_
    rintro o w3 ⟨rfl, G3, hE3⟩
    simp only [List.set_cons_succ, List.set_cons_zero] at hE3
    clear r1 hE2
    go_wp2_with fail
    go_end0
    refine ⟨rfl, G3, F2, setL ml (1, 0, 0) (IntKind.u64.wrap (getL ml (1, 0, 0) + 1)), n + 1, setL_length _ _ _, Nat.le_refl _, ?_⟩
    rw [getL_set]
    exact hE3.sub (.cons _ (.cons _ (List.Sublist.refl _)))
  · by_cases h2 : kd = 2
    · subst h2
      have r0 := hE2.rule 1 rfl
      have r1 := hE2.rule 0 rfl
      go_enter Tryz.func45, Tryz.ntmps45
      go_wp2_with fail
      refine (refSet_any x y z v (by omega) (hE2.ref 4 rfl)).mono ?_
      rintro o w2 ⟨rfl, F2, hU2, hs2⟩
      replace hE2 := hE2.turnU 4 rfl hU2 hs2
      simp only [List.set_cons_succ, List.set_cons_zero] at hE2
      clear r1 hU2 hs2
      have r1 := hE2.rule 0 rfl
      go_wp2_with fail
      refine (store_w x y z 0 v 0 false HX.out HV.out hn 2 3 (by decide) hE2 rfl rfl).mono ?_
      rintro o w3 ⟨rfl, G3, hE3⟩
      simp only [List.set_cons_succ, List.set_cons_zero] at hE3
      clear r1 hE2
      go_wp2_with fail
      go_end0
      refine ⟨rfl, G3, F2, setL ml (x, y, z) v, n + 1, setL_length _ _ _, Nat.le_refl _, ?_⟩
      rw [getL_set]
      exact hE3.sub (.cons _ (.cons _ (List.Sublist.refl _)))
    · by_cases h3 : kd = 3
      · subst h3
        have r0 := hE2.rule 1 rfl
        have r1 := hE2.rule 0 rfl
        go_enter Tryz.func45, Tryz.ntmps45
        go_wp2_with fail
        refine (refGet_any x y z (by omega) (hE2.ref 4 rfl)).mono ?_
        rintro o w1 ⟨rfl, hb⟩
        replace hE2 := hE2.over hb
        clear hb r0 r1
        have r1 := hE2.rule 0 rfl
        go_wp2_with fail
        refine (refSet_any x y z (bits .or .u64 (getL ml (x, y, z)) 9223372036854775808) (by omega) (hE2.ref 4 rfl)).mono ?_
        rintro o w2 ⟨rfl, F2, hU2, hs2⟩
        replace hE2 := hE2.turnU 4 rfl hU2 hs2
        simp only [List.set_cons_succ, List.set_cons_zero] at hE2
        clear r1 hU2 hs2
        have r1 := hE2.rule 0 rfl
        go_wp2_with fail
        refine (store_w x y z 0 (bits .or .u64 (getL ml (x, y, z)) 9223372036854775808) 0 false HX.out (bitsU _ _ _) hn 2 3 (by decide) hE2 rfl rfl).mono ?_
        rintro o w3 ⟨rfl, G3, hE3⟩
        simp only [List.set_cons_succ, List.set_cons_zero] at hE3
        clear r1 hE2
        go_wp2_with fail
        go_end0
        refine ⟨rfl, G3, F2, setL ml (x, y, z) (bits .or .u64 (getL ml (x, y, z)) 9223372036854775808), n + 1, setL_length _ _ _, Nat.le_refl _, ?_⟩
        rw [getL_set]
        exact hE3.sub (.cons _ (.cons _ (List.Sublist.refl _)))
      · have b1 : (kd == 1) = false := by simpa using h1
        have b2 : (kd == 2) = false := by simpa using h2
        have b3 : (kd == 3) = false := by simpa using h3
        have hd : dQ kd qc = qc := by unfold dQ stD; rw [b1, b2, b3]; rfl
        rw [hd]
        have r0 := hE2.rule 1 rfl
        have r1 := hE2.rule 0 rfl
        clear hd
        go_enter Tryz.func45, Tryz.ntmps45
        go_wp2_with fail
        refine bodyPost_ret (results_none rfl _ _ _) rfl ?_
        exact ⟨rfl, G, F, ml, n, by omega, by omega, hE2.sub (.cons _ (.cons _ (List.Sublist.refl _)))⟩
end
end Go.Proofs.YtnnjanaclgjneaaGreatDoor

/- Shared cells: the contracts of the accesses. -/
namespace Go.Proofs.YtnnjanaclgjneaaGreatDoor
open Go.RowKit Go.Maps
set_option maxRecDepth 100000

section
variable {w w' : World} {c n : Nat} {F : Nat → Prop} {f : Plc → Int} {q : Cnt}
end

set_option maxHeartbeats 1600000 in
theorem add_any {c n : Nat} {F : Nat → Prop} {f : Plc → Int} {q : Cnt} {w : World} (a b d v : Int) (hx : Wf (a, b, d)) (hn : n < maxLen) (hC : IsC w c F f q n) :
    Calls Tryz.prog 324 #[.pointer (some ⟨c, 0, none⟩), .agg #[.int .i64 a, .int .i64 b, .int .i64 d], .int .u64 v] w fun e w' => e = .returned (.int .u64 (f (a, b, d))) ∧ ∃ F', IsC w' c F' (upd f (a, b, d) (IntKind.u64.wrap (f (a, b, d) + v))) { q with a := wrap64 (q.a + 1) } (n + 1) ∧ Step F F' w w' := by
  have hFc := hC.at
  obtain ⟨mp, hb, hm, hF⟩ := hC
  have r0 := hb.rule
  have hcl := hb.1
  have r1 := cell_more hcl r0
  have z1 := hb.thaw 5 (by simp [cv])
  have hS0 := ticked hb hm hFc (i := 5) (v := .int .i64 (wrap64 (q.a + 1))) (q1 := { q with a := wrap64 (q.a + 1) }) (by omega) rfl [.int .i64 a, .int .i64 b, .int .i64 d] 105
  unfold cv at r0 r1
  go_enter Tryz.func324, Tryz.ntmps324
  go_wp2_with fail
  generalize (w.setCell ⟨c, 5, none⟩ (.int .i64 (wrap64 (q.a + 1)))).alloc _ = w1 at *
  clear r0 r1 z1
  refine Ord.wp_chain [] (fun w' => At F c w w.heap.size [.int .i64 a, .int .i64 b, .int .i64 d] mp { q with a := wrap64 (q.a + 1) } w' ∧ MapIs w' mp f n) (fun _ _ => True) (by kernel_rfl) (by kernel_rfl) (by kernel_rfl) ⟨hS0.1.drew, hS0.2.drew⟩ trivial (fun hT => ?_)
  have hT9 := Lib.hid hT
  clear hT
  repeat (first
    | (refine Ord.ch_value (v := ?_) hT9.out (by decide) (by rfl) ?_ ?_; rotate_left; (focus (intro w5 hS; have r := hS.1.2.1.rule; unfold cv at r; have r2 := hS.1.2.2.rule; have hl := hS.2.look hx; simp only [pv] at hl; go_simp <;> with_reducible rfl)); (try simp only [Act.put, List.setIfInBounds_toArray, List.set_cons_zero, List.set_cons_succ]))
    | (refine Ord.ch_off hT9.out (by decide) (by rfl) ?_; (try simp only [Act.put, List.setIfInBounds_toArray, List.set_cons_zero, List.set_cons_succ])))
  refine Ord.InText.nil fun w5 hS => ?_
  clear hT9
  obtain ⟨hA9, hM9⟩ := Ord.chain_end hS
  clear hS
  have r2 := hA9.1.2.2.rule
  have HX := Lib.hid hx
  have hu : InU (IntKind.u64.wrap (f (a, b, d) + v)) := by rw [IntKind.wrap_u64]; unfold InU; omega
  clear hx
  go_wp2_with fail
  refine (put_any a b d (IntKind.u64.wrap (f (a, b, d) + v)) HX.out hu hn (.of hA9.1 hA9.2 hF)).mono ?_
  rintro e w2 ⟨rfl, F', hC2, hs2⟩
  clear r2
  go_wp2
  go_ret
  exact ⟨rfl, F', hC2, (Step.mk hA9.1.1 fun k h => .inl h).trans hs2⟩

end Go.Proofs.YtnnjanaclgjneaaGreatDoor

/- The plain world: contracts of its accesses: each is the cells' own, among whatever other things there are. -/
namespace Go.Proofs.YtnnjanaclgjneaaGreatDoor
open Go.RowKit Go.Maps
set_option maxRecDepth 100000

section
variable {w0 w : World} {L : List Item} {p c n : Nat} {F : Nat → Prop} {f : Plc → Int} {q : Cnt}

set_option maxHeartbeats 1600000 in
theorem add_w (x y z d v : Int) (hx : Wf (x, y, z)) (hn : n < maxLen) (i j : Nat) (hij : j ≠ i) (hE : Env w0 L w) (hi : L[i]? = some (wbox p c)) (hj : L[j]? = some (cellI c F f q n)) :
    Calls Tryz.prog 320 #[.pointer (some ⟨p, 0, none⟩), .agg #[.int .i64 x, .int .i64 y, .int .i64 z, .int .i64 d], .int .u64 v] w fun e w' => e = .returned (.int .u64 (f (x, y, z))) ∧ ∃ F', Env w0 (L.set j (cellI c F' (upd f (x, y, z) (IntKind.u64.wrap (f (x, y, z) + v))) { q with a := wrap64 (q.a + 1) } (n + 1))) w' := by
  replace hE := (hE.box w.heap.size rfl [.int .i64 x, .int .i64 y, .int .i64 z, .int .i64 d] 122)
  have hi' : (boxI (w.heap.size) [.int .i64 x, .int .i64 y, .int .i64 z, .int .i64 d] :: L)[i + 1]? = some (wbox p c) := hi
  have hj' : (boxI (w.heap.size) [.int .i64 x, .int .i64 y, .int .i64 z, .int .i64 d] :: L)[j + 1]? = some (cellI c F f q n) := hj
  have HX := Lib.hid hx
  clear hx
  go_enter Tryz.func320, Tryz.ntmps320
  go_wp2_with fail
  generalize w.heap.size = X at *
  refine Ord.wp_chain [5] (fun w' => Blk 0 w' X [.int .i64 x, .int .i64 y, .int .i64 z, .int .i64 d] ∧ Blk 0 w' p [.pointer (some ⟨c, 0, none⟩)]) (Stage [Env w0 (boxI X [.int .i64 x, .int .i64 y, .int .i64 z, .int .i64 d] :: L), fun w' => ∃ F', Env w0 (boxI X [.int .i64 x, .int .i64 y, .int .i64 z, .int .i64 d] :: L.set j (cellI c F' (upd f (x, y, z) (IntKind.u64.wrap (f (x, y, z) + v))) { q with a := wrap64 (q.a + 1) } (n + 1))) w']) (by kernel_rfl) (by kernel_rfl) (by kernel_rfl) ⟨hE.drew.get 0 rfl, hE.drew.get (i + 1) hi'⟩ ⟨_, rfl, hE.drew⟩ (fun hT => ?_)
  have hT9 := Lib.hid hT
  clear hT
  repeat (first
    | (refine Ord.ch_value (v := ?_) hT9.out (by decide) (by rfl) ?_ ?_; rotate_left; (focus (intro w5 hS; have r0 := hS.1.rule; go_simp <;> with_reducible rfl)); (try simp only [Act.put, List.setIfInBounds_toArray, List.set_cons_zero, List.set_cons_succ]))
    | (refine Ord.ch_off hT9.out (by decide) (by rfl) ?_; (try simp only [Act.put, List.setIfInBounds_toArray, List.set_cons_zero, List.set_cons_succ]))
    | (refine Ord.ch_call (v := ?_) (f := ?_) (args := ?_) hT9.out (by decide) (by rfl) ?_ ?_ ?_; rotate_left 3; (focus (intro w5 hS; have r0 := hS.1.rule; go_simp; constructor <;> with_reducible rfl)); (focus (intro w5 hS; (first | (with_reducible refine (kept_any hS.2).mono ?_; rintro e w6 ⟨rfl, rfl⟩; constructor; with_reducible rfl; exact ⟨hS, fun _ h => h⟩)))); (try simp only [Act.put, List.setIfInBounds_toArray, List.set_cons_zero, List.set_cons_succ])))
  refine Ord.ch_turn (v := .int .u64 (f (x, y, z))) 0 hT9.out rfl (by decide) (Or.inl rfl) (by rfl) ?_ ?_
  · rintro w5 hC5 ⟨P5, hP5, hA5⟩
    cases hP5
    go_simp
    simp only [Ord.LandsIn]
    refine (add_any x y z v HX.out hn (hA5.cell (j + 1) hj')).mono ?_
    rintro e w6 ⟨rfl, F6, hC, hs⟩
    have hE6 := hA5.turn (j + 1) hj' hC hs
    exact ⟨rfl, ⟨hE6.get 0 rfl, hE6.get (i + 1) (wset (j := j + 1) (by omega) hi')⟩, _, rfl, F6, hE6⟩
  (try simp only [Act.put, List.setIfInBounds_toArray, List.set_cons_zero, List.set_cons_succ])
  repeat (first
    | (refine Ord.ch_value (v := ?_) hT9.out (by decide) (by rfl) ?_ ?_; rotate_left; (focus (intro w5 hS; skip; go_simp <;> with_reducible rfl)); (try simp only [Act.put, List.setIfInBounds_toArray, List.set_cons_zero, List.set_cons_succ]))
    | (refine Ord.ch_off hT9.out (by decide) (by rfl) ?_; (try simp only [Act.put, List.setIfInBounds_toArray, List.set_cons_zero, List.set_cons_succ])))
  refine Ord.InText.nil fun w5 hS => ?_
  clear hT9
  obtain ⟨hC9, hA9⟩ := Ord.chain_end hS
  clear hS
  obtain ⟨P9, hP9, hA9⟩ := hA9
  cases hP9
  obtain ⟨F9, hA9⟩ := hA9
  clear hC9
  go_wp2
  go_ret
  exact ⟨rfl, F9, hA9.sub (.cons _ (List.Sublist.refl _))⟩

end
end Go.Proofs.YtnnjanaclgjneaaGreatDoor

/- Contracts of layer 4: Peek, Swap. -/
namespace Go.Proofs.YtnnjanaclgjneaaGreatDoor
open Go.RowKit Go.Maps
set_option maxRecDepth 100000

set_option maxHeartbeats 800000 in
theorem peek_any {c n : Nat} {F : Nat → Prop} {f : Plc → Int} {q : Cnt} {w : World} (a b d : Int) (hx : Wf (a, b, d)) (hC : IsC w c F f q n) :
    Calls Tryz.prog 109 #[.pointer (some ⟨c, 0, none⟩), .agg #[.int .i64 a, .int .i64 b, .int .i64 d]] w fun e w' => e = .returned (.int .u64 (f (a, b, d))) ∧ Below w.heap.size w w' := by
  obtain ⟨mp, hb, hm, hF⟩ := hC
  go_enter Tryz.func109, Tryz.ntmps109
  go_wp2_with fail
  refine Ord.wp_chain [] (fun w' => (Below w.heap.size w w' ∧ Blk 0 w' c (cv mp q) ∧ Blk 0 w' w.heap.size [.int .i64 a, .int .i64 b, .int .i64 d]) ∧ MapIs w' mp f n) (fun _ _ => True) (by kernel_rfl) (by kernel_rfl) (by kernel_rfl) ⟨⟨((Below.refl _ _).alloc (Nat.le_refl _) _).drew, (hb.more _).drew, (Blk.new 0 w _ _).drew⟩, (hm.more _).drew⟩ trivial (fun hT => ?_)
  have hT9 := Lib.hid hT
  clear hT
  repeat (first
    | (refine Ord.ch_value (v := ?_) hT9.out (by decide) (by rfl) ?_ ?_; rotate_left; (focus (intro w5 hS; have r := hS.1.2.1.rule; unfold cv at r; have r2 := hS.1.2.2.rule; have hl := hS.2.look hx; simp only [pv] at hl; go_simp <;> with_reducible rfl)); (try simp only [Act.put, List.setIfInBounds_toArray, List.set_cons_zero, List.set_cons_succ]))
    | (refine Ord.ch_off hT9.out (by decide) (by rfl) ?_; (try simp only [Act.put, List.setIfInBounds_toArray, List.set_cons_zero, List.set_cons_succ])))
  refine Ord.InText.nil fun w5 hS => ?_
  clear hT9
  obtain ⟨hA9, hM9⟩ := Ord.chain_end hS
  clear hS
  go_wp2
  go_ret
  exact ⟨rfl, hA9.1.1⟩

end Go.Proofs.YtnnjanaclgjneaaGreatDoor

/- The plain world: contracts of Swap, Peek. -/
namespace Go.Proofs.YtnnjanaclgjneaaGreatDoor
open Go.RowKit Go.Maps
set_option maxRecDepth 100000

section
variable {w0 w : World} {L : List Item} {p c n : Nat} {F : Nat → Prop} {f : Plc → Int} {q : Cnt}
set_option maxHeartbeats 1600000 in
theorem peek_w (x y z : Int) (hx : Wf (x, y, z)) (i j : Nat) (hE : Env w0 L w) (hi : L[i]? = some (wbox p c)) (hj : L[j]? = some (cellI c F f q n)) :
    Calls Tryz.prog 62 #[.pointer (some ⟨p, 0, none⟩), .agg #[.int .i64 x, .int .i64 y, .int .i64 z]] w fun e w' => e = .returned (.int .u64 (f (x, y, z))) ∧ Below w.heap.size w w' := by
  have hb := (Below.refl w.heap.size w).alloc (Nat.le_refl _) (.cells #[.int .i64 x, .int .i64 y, .int .i64 z] 105)
  replace hE := hE.box w.heap.size rfl [.int .i64 x, .int .i64 y, .int .i64 z] 105
  have HX := Lib.hid hx
  clear hx
  go_enter Tryz.func62, Tryz.ntmps62
  go_wp2_with fail
  obtain ⟨X, hXw⟩ : ∃ X, X = w.heap.size := ⟨_, rfl⟩
  rw [← hXw] at hE ⊢
  have HXW := Lib.hid hXw
  clear hXw
  have hi1 : (boxI X [.int .i64 x, .int .i64 y, .int .i64 z] :: L)[i + 1]? = some (wbox p c) := hi
  have hj1 : (boxI X [.int .i64 x, .int .i64 y, .int .i64 z] :: L)[j + 1]? = some (cellI c F f q n) := hj
  refine Ord.wp_chain [] (fun w' => Env w0 (boxI X [.int .i64 x, .int .i64 y, .int .i64 z] :: L) w' ∧ Below w.heap.size w w') (fun _ _ => True) (by kernel_rfl) (by kernel_rfl) (by kernel_rfl) ⟨hE.drew, hb.drew⟩ trivial (fun hT => ?_)
  have hT9 := Lib.hid hT
  clear hT
  repeat (first
    | (refine Ord.ch_value (v := ?_) hT9.out (by decide) (by rfl) ?_ ?_; rotate_left; (focus (intro w5 hS; have r := hS.1.rule 0 rfl; go_simp <;> with_reducible rfl)); (try simp only [Act.put, List.setIfInBounds_toArray, List.set_cons_zero, List.set_cons_succ]))
    | (refine Ord.ch_off hT9.out (by decide) (by rfl) ?_; (try simp only [Act.put, List.setIfInBounds_toArray, List.set_cons_zero, List.set_cons_succ]))
    | (refine Ord.ch_call (v := ?_) (f := ?_) (args := ?_) hT9.out (by decide) (by rfl) ?_ ?_ ?_; rotate_left 3; (focus (intro w5 hS; have r := hS.1.rule 0 rfl; go_simp; constructor <;> with_reducible rfl)); (focus (intro w5 hS; (first | (with_reducible refine (kept_any (hS.1.wblk (i + 1) hi1)).mono ?_; rintro e w6 ⟨rfl, rfl⟩; constructor; with_reducible rfl; exact ⟨hS, fun _ h => h⟩) | (with_reducible refine (peek_any x y z HX.out (hS.1.cell (j + 1) hj1)).mono ?_; rintro e w6 ⟨rfl, hb6⟩; constructor; with_reducible rfl; exact ⟨⟨hS.1.over hb6, hS.2.trans (hb6.mono hS.2.size)⟩, fun _ h => h⟩)))); (try simp only [Act.put, List.setIfInBounds_toArray, List.set_cons_zero, List.set_cons_succ])))
  refine Ord.InText.nil fun w5 hS => ?_
  clear hT9
  obtain ⟨hC9, hA9⟩ := Ord.chain_end hS
  clear hS
  go_wp2
  go_ret
  exact ⟨rfl, hC9.2⟩
end
end Go.Proofs.YtnnjanaclgjneaaGreatDoor

/- Places whose words aren't 0. -/
namespace Go.Proofs.YtnnjanaclgjneaaGreatDoor

theorem pv_inj {x y : Plc} (h : pv x = pv y) : x = y := by
  obtain ⟨a, b, c⟩ := x
  obtain ⟨a', b', c'⟩ := y
  simp [pv] at h
  simp [h]
/-- ss are the places whose words aren't 0, each once. -/
def OpsF (f : Plc → Int) (ss : List Plc) : Prop := ss.Nodup ∧ ∀ x, x ∈ ss ↔ f x ≠ 0
end Go.Proofs.YtnnjanaclgjneaaGreatDoor

/-
  DERIVED: THE SHELF's CONTRACTS AT THIS DUMP, IN PLAIN WORDS (tools/lay-plain.mjs out of 'YtnnjanaclgjneaaGreatDoorShelfC.lean', which tools/lay-shelf.mjs wrote): THE SAME DECLARATIONS UNDER THE SAME NAMES: 'import', 'namespace', 'open', 'def', 'theorem' AND NOTHING ELSE: no command of the shelf's: FOR A HAND-IN. Each laying: the table of numbers ('.._ren') and one theorem, a field a fact of the dump's own or the kernel's comparison; each contract: ONE APPLICATION.
-/
namespace Go.Proofs
open Go.Shelf
def Tryz.cloneWords_ren : Go.Shelf.Ren := ⟨fun | 5 => 171 | 7 => 198 | n => n, fun | 23 => 233 | 25 => 105 | 3 => 48 | 4 => 4 | 20 => 20 | n => n, fun | n => n⟩
theorem Tryz.cloneWords : Go.Proofs.SlLaysW.n5 Tryz.prog Tryz.cloneWords_ren := {
  mixed := by kernel_rfl
  f5 := ⟨Tryz.f171.name, by decide, Tryz.func171.trans (congrArg some (by kernel_rfl))⟩
  f7 := Tryz.func198.trans (congrArg some (by kernel_rfl))
  t4 := Tryz.underlying4
  a4 := Tryz.isAgg4
  z4 := Tryz.sizeOf4
  v4 := Tryz.zeroValue4
  t20 := Tryz.underlying20
  a20 := Tryz.isAgg20
  z20 := Tryz.sizeOf20
  v20 := Tryz.zeroValue20
  t23 := Tryz.underlying233
  a23 := Tryz.isAgg233
  z23 := Tryz.sizeOf233
  v23 := Tryz.zeroValue233 }
end Go.Proofs

/- Shared cells: a copy; whether two have the same words. -/
namespace Go.Proofs.YtnnjanaclgjneaaGreatDoor
open Go.RowKit Go.Maps Go.Shelf
set_option maxRecDepth 100000

/-! ### copies -/
theorem clone_any {mp : Option Nat} {f : Plc → Int} {n : Nat} {w : World} (hM : MapIs w mp f n) :
    Calls Tryz.prog 171 #[.map mp] w fun e w' => ∃ mp', e = .returned (.map mp') ∧ MapIs w' mp' f n ∧ (∀ b, mp' = some b → w.heap.size ≤ b) ∧ Below w.heap.size w w' := by
  rcases hM with ⟨rfl, rfl⟩ | ⟨b, D, rfl, ho, hr⟩
  · refine Calls.mono (show Calls Tryz.prog 171 #[.map none] w _ from AnyW.maps_Clone_nil Tryz.cloneWords w) ?_
    rintro e w' ⟨rfl, rfl⟩
    exact ⟨none, rfl, .inl ⟨rfl, rfl⟩, fun b e => by (cases e), Below.refl _ _⟩
  · refine Calls.mono (show Calls Tryz.prog 171 #[.map (some b)] w _ from AnyW.maps_Clone_owns Tryz.cloneWords _ _ b n D w ho) ?_
    rintro e w' ⟨rfl, h1, _, h3⟩
    exact ⟨_, rfl, .inr ⟨_, D, rfl, h1, hr⟩, fun b e => by (cases e; exact Nat.le_refl _), h3⟩

set_option maxHeartbeats 800000 in
theorem copy_any {c n : Nat} {F : Nat → Prop} {f : Plc → Int} {q : Cnt} {w : World} (hC : IsC w c F f q n) :
    Calls Tryz.prog 139 #[.pointer (some ⟨c, 0, none⟩)] w fun e w' => ∃ c' F', e = .returned (.pointer (some ⟨c', 0, none⟩)) ∧ IsC w' c' F' f ⟨0, 0, 0, 0, 0⟩ n ∧ (∀ k, F' k → w.heap.size ≤ k) ∧ Below w.heap.size w w' := by
  obtain ⟨mp, hb, hm, hF⟩ := hC
  have r := hb.rule
  unfold cv at r
  have hc := clone_any hm
  clear hm
  go_enter Tryz.func139, Tryz.ntmps139
  go_wp2_with fail
  refine hc.mono ?_
  rintro e w1 ⟨mp', rfl, hM, hnew, hB⟩
  clear hc r
  go_wp2
  go_ret
  have hs := hB.size
  refine ⟨w1.heap.size, fun k => k = w1.heap.size ∨ mp' = some k, rfl, ⟨mp', Blk.new 0 w1 (cv mp' ⟨0, 0, 0, 0, 0⟩) 235, hM.more _, fun k => Iff.rfl⟩, fun k hk => ?_, hB.alloc hs _⟩
  rcases hk with rfl | e
  · exact hs
  · exact hnew k e

/-! ### how many words there are -/
theorem has_key {w : World} {b n : Nat} {D : DataW Unit} (h : w.ownsMap Tryz.prog 105 (plainElem (H := Unit) Tryz.prog 48) b n D) : ∃ es, D = .map es ∧ es.Pairwise (fun p q => p.1 ≠ q.1) ∧ ∀ p ∈ es, ∃ x, Wf x ∧ p.1 = kl x := by
  obtain ⟨es, clock, hb, Ft, hs, rfl⟩ := h
  refine ⟨_, rfl, ((WideShapes.sorted_perm _).pairwise_iff (fun {_ _} hne => Ne.symm hne)).2 (Maps.fit_apart keyPlace Ft), fun p hp => ?_⟩
  obtain ⟨x, hx, rfl⟩ := List.mem_map.1 (mem_sorted.1 hp)
  obtain ⟨y, hy⟩ := Ft.reads x hx
  rw [WideElems.rg_of hy]
  obtain ⟨z, hz, _, he⟩ := key_inv (WideElems.rd_key hy)
  exact ⟨z, hz, he⟩
theorem list_keys : ∀ (es : List (Lit × DataW Unit)), (∀ p ∈ es, ∃ x, Wf x ∧ p.1 = kl x) → ∃ ss : List Plc, ss.map kl = es.map (·.1) ∧ ∀ x ∈ ss, Wf x
  | [], _ => ⟨[], rfl, by simp⟩
  | p :: es, h => by
    obtain ⟨ss, h1, h2⟩ := list_keys es fun q hq => h q (by simp [hq])
    obtain ⟨x, hx, he⟩ := h p (by simp)
    exact ⟨x :: ss, by simp [h1, he], fun y hy => by
      rcases List.mem_cons.1 hy with rfl | hy
      · exact hx
      · exact h2 y hy⟩
/-- The number of entries. -/
def msz (mp : Option Nat) (w : World) (N : Nat) : Prop := ∀ ty, (Builtin.len_ #[233] ty #[.map mp]).run Tryz.prog w = .ok (.int .i64 (N : Nat)) w
theorem MapIs.count {w : World} {mp : Option Nat} {f : Plc → Int} {n : Nat} (h : MapIs w mp f n) : ∃ ss, OpsF f ss ∧ msz mp w ss.length := by
  rcases h with ⟨rfl, rfl⟩ | ⟨b, D, rfl, ho, hr⟩
  · exact ⟨[], ⟨List.nodup_nil, by simp⟩, fun ty => Maps.len_nil Tryz.underlying233 ty⟩
  · obtain ⟨es, rfl, hp, hk⟩ := has_key ho
    obtain ⟨ss, h1, h2⟩ := list_keys es hk
    have hlen : ss.length = es.length := by have := congrArg List.length h1; simpa using this
    refine ⟨ss, ⟨?_, fun x => ?_⟩, fun ty => ?_⟩
    · have hn : (ss.map kl).Pairwise (· ≠ ·) := by rw [h1, List.pairwise_map]; exact hp
      rw [List.pairwise_map] at hn
      exact hn.imp fun hne e => hne (by rw [e])
    · by_cases hw : Wf x
      · have h3 := hr.has' x hw
        rw [Maps.has_eq] at h3
        have h4 : (x ∈ ss) ↔ (es.any fun p => p.1.sameKey (kl x)) = true := by
          rw [List.any_eq_true]
          constructor
          · intro hx
            have : kl x ∈ es.map (·.1) := by rw [← h1]; exact List.mem_map.2 ⟨x, hx, rfl⟩
            obtain ⟨p, hp1, hp2⟩ := List.mem_map.1 this
            exact ⟨p, hp1, by rw [hp2]; exact WideAt.sameKey_self (kl_key x)⟩
          · rintro ⟨p, hp1, hp2⟩
            have : kl x ∈ ss.map kl := by rw [h1]; exact List.mem_map.2 ⟨p, hp1, WideAt.sameKey_eq hp2⟩
            obtain ⟨y, hy, he⟩ := List.mem_map.1 this
            rwa [← kl_inj (h2 y hy) hw he]
        rw [h4, h3]; simp
      · constructor
        · intro hx; exact absurd (h2 x hx) hw
        · intro hx; exact absurd (hr.words.out x hw) hx
    · rw [hlen]
      have := ho.len Tryz.underlying233 ty
      rwa [Maps.size_eq] at this

theorem all_in : ∀ (l m : List Plc), m.Nodup → (∀ x ∈ l, x ∈ m) → l.Nodup → m.length ≤ l.length → ∀ x ∈ m, x ∈ l
  | [], m, _, _, _, h, x, hx => by
    have : m = [] := List.eq_nil_of_length_eq_zero (by simpa using h)
    subst this
    cases hx
  | a :: l, m, hm, hs, hl, h, x, hx => by
    by_cases e : x = a
    · subst e; simp
    · have ham : a ∈ m := hs a (by simp)
      obtain ⟨h1, h2⟩ := List.nodup_cons.1 hl
      have := all_in l (m.erase a) (hm.erase a) (fun y hy => by
        have hya : y ≠ a := fun e => h1 (e ▸ hy)
        exact (List.mem_erase_of_ne hya).2 (hs y (by simp [hy]))) h2 (by rw [List.length_erase_of_mem ham]; simp at h; omega) x ((List.mem_erase_of_ne e).2 hx)
      simp [this]
theorem same_len {f : Plc → Int} {ss tt : List Plc} (h : OpsF f ss) (k : OpsF f tt) : ss.length = tt.length :=
  ((List.perm_ext_iff_of_nodup h.1 k.1).2 fun x => (h.2 x).trans (k.2 x).symm).length_eq
theorem same_of {f g : Plc → Int} {ss tt : List Plc} (h : OpsF f ss) (k : OpsF g tt) (hl : ss.length = tt.length) (hfg : ∀ x, f x ≠ 0 → g x = f x) : f = g := by
  have hsub : ∀ x ∈ ss, x ∈ tt := fun x hx => (k.2 x).2 (by have h1 := (h.2 x).1 hx; rw [hfg x h1]; exact h1)
  have hall := all_in ss tt k.1 hsub h.1 (by omega)
  funext x
  by_cases e : f x = 0
  · rw [e]
    by_cases e2 : g x = 0
    · exact e2.symm
    · exact absurd e ((h.2 x).1 (hall x ((k.2 x).2 e2)))
  · exact (hfg x e).symm
theorem MapIs.look2 {w : World} {mp : Option Nat} {f : Plc → Int} {n : Nat} (h : MapIs w mp f n) {x : Plc} (hx : Wf x) : (Instr.lookup 233 (.map mp) (pv x) true).run Tryz.prog w = .ok (.tuple #[.int .u64 (f x), .bool (decide (f x ≠ 0))]) w := by
  rcases h with ⟨rfl, rfl⟩ | ⟨b, D, rfl, ho, hr⟩
  · have := Maps.look_nil (w := w) true keyPlace Tryz.underlying233 (zeroWord w) (key_mk x hx)
    simpa using this
  · obtain ⟨v, ps, hrun, hv⟩ := ho.look_ok keyPlace Tryz.underlying233 (zeroWord w) (zd := wd 0) (zp := []) (plainElem_int Tryz.underlying48 (by decide)) (key_mk x hx)
    rw [hr.at' x hx] at hv
    obtain ⟨a, rfl, ha, _⟩ := plainElem_int_inv Tryz.underlying48 hv
    have : f x = a := by
      have := congrArg Prod.fst ha
      simpa [wd] using this
    rw [hrun, hr.has' x hx, this]
end Go.Proofs.YtnnjanaclgjneaaGreatDoor

/- The plain world: a copy of its cells. -/
namespace Go.Proofs.YtnnjanaclgjneaaGreatDoor
open Go.RowKit Go.Maps
set_option maxRecDepth 100000

theorem cells_w {w0 w : World} {L : List Item} {p c n : Nat} {F : Nat → Prop} {f : Plc → Int} {q : Cnt} (i j : Nat) (hE : Env w0 L w) (hi : L[i]? = some (wbox p c)) (hj : L[j]? = some (cellI c F f q n)) :
    Calls Tryz.prog 85 #[.pointer (some ⟨p, 0, none⟩)] w fun e w' => ∃ c' F', e = .returned (.pointer (some ⟨c', 0, none⟩)) ∧ Env w0 (cellI c' F' f ⟨0, 0, 0, 0, 0⟩ n :: L) w' := by
  go_enter Tryz.func85, Tryz.ntmps85
  go_wp2_with fail
  refine (kept_any (hE.wblk i hi)).mono ?_
  rintro e w1 ⟨rfl, rfl⟩
  go_wp2_with fail
  refine (copy_any (hE.cell j hj)).mono ?_
  rintro e w2 ⟨c', F', rfl, hC, hF, hb⟩
  go_wp2
  go_ret
  exact ⟨c', F', rfl, hE.made2 hC hF hb⟩
end Go.Proofs.YtnnjanaclgjneaaGreatDoor

/- The reference's places, in their order. -/
namespace Go.Proofs.YtnnjanaclgjneaaGreatDoor
open Go.RowKit Go.Maps Go.Sort
set_option maxRecDepth 100000

theorem exch {α : Type} (y0 y1 y2 x0 x1 x2 : α) (D : List α) : ∀ P : List α, ((((((P ++ y0 :: y1 :: y2 :: x0 :: x1 :: x2 :: D).set (P.length + 3) y0).set (P.length + 4) y1).set (P.length + 5) y2).set P.length x0).set (P.length + 1) x1).set (P.length + 2) x2 = P ++ x0 :: x1 :: x2 :: y0 :: y1 :: y2 :: D
  | [] => rfl
  | p :: P => by
    have ih := exch y0 y1 y2 x0 x1 x2 D P
    simp only [List.cons_append, List.length_cons, show P.length + 1 + 3 = P.length + 3 + 1 by omega, show P.length + 1 + 4 = P.length + 4 + 1 by omega, show P.length + 1 + 5 = P.length + 5 + 1 by omega, show P.length + 1 + 2 = P.length + 2 + 1 by omega, List.set_cons_succ]
    rw [ih]
def insAt (m : List Plc) (j : Nat) (x : Plc) : List Plc := m.take j ++ x :: m.drop j
theorem flatP_append (l m : List Plc) : flatP (l ++ m) = flatP l ++ flatP m := by simp [flatP]
theorem insAt_exch (m : List Plc) (j : Nat) (hj : j < m.length) (x : Plc) : ((((((flatP (insAt m (j + 1) x)).set (j * 3 + 3) (.int .i64 (m.getD j z3).1)).set (j * 3 + 4) (.int .i64 (m.getD j z3).2.1)).set (j * 3 + 5) (.int .i64 (m.getD j z3).2.2)).set (j * 3) (.int .i64 x.1)).set (j * 3 + 1) (.int .i64 x.2.1)).set (j * 3 + 2) (.int .i64 x.2.2) = flatP (insAt m j x) := by
  have hlen : (flatP (m.take j)).length = j * 3 := by rw [flatP_length]; simp; omega
  have e1 : flatP (insAt m (j + 1) x) = flatP (m.take j) ++ .int .i64 (m.getD j z3).1 :: .int .i64 (m.getD j z3).2.1 :: .int .i64 (m.getD j z3).2.2 :: .int .i64 x.1 :: .int .i64 x.2.1 :: .int .i64 x.2.2 :: flatP (m.drop (j + 1)) := by
    unfold insAt
    rw [flatP_append, List.take_succ_eq_append_getElem hj, flatP_append]
    simp [flatP, encP, hj]
  have e2 : flatP (insAt m j x) = flatP (m.take j) ++ .int .i64 x.1 :: .int .i64 x.2.1 :: .int .i64 x.2.2 :: .int .i64 (m.getD j z3).1 :: .int .i64 (m.getD j z3).2.1 :: .int .i64 (m.getD j z3).2.2 :: flatP (m.drop (j + 1)) := by
    unfold insAt
    have h0 : m.drop j = m[j] :: m.drop (j + 1) := List.drop_eq_getElem_cons hj
    have h1 : m.getD j z3 = m[j] := by simp [hj]
    rw [flatP_append, h0, h1]
    simp [flatP, encP, -List.getElem_cons_drop]
  rw [e1, e2, ← hlen]
  exact exch _ _ _ _ _ _ _ _
theorem insAt_get_self (m : List Plc) (j : Nat) (hj : j ≤ m.length) (x : Plc) : (insAt m j x).getD j z3 = x := by
  unfold insAt
  rw [List.getD_eq_getElem?_getD, List.getElem?_append_right (by simp; omega)]
  simp [Nat.min_eq_left hj]
theorem insAt_get_prev (m : List Plc) (j : Nat) (hj : j < m.length) (x : Plc) : (insAt m (j + 1) x).getD j z3 = m.getD j z3 := by
  unfold insAt
  rw [List.getD_eq_getElem?_getD, List.getElem?_append_left (by simp; omega)]
  simp [List.getElem?_take]
theorem insAt_length (m : List Plc) (j : Nat) (hj : j ≤ m.length) (x : Plc) : (insAt m j x).length = m.length + 1 := by unfold insAt; simp; omega
theorem rising_insAt {m : List Plc} {j : Nat} {x : Plc} (hm : Rising m) (hj : j ≤ m.length) (hx : x ∉ m) (hd : ∀ y ∈ m.drop j, ltOf cmpP x y = true) (hs : j = 0 ∨ ltOf cmpP x (m.getD (j - 1) z3) = false) : Rising (insAt m j x) := by
  have h1 : Rising (m.take j) := List.Pairwise.sublist (List.take_sublist _ _) hm
  have h2 : Rising (m.drop j) := List.Pairwise.sublist (List.drop_sublist _ _) hm
  have h3 : ∀ y ∈ m.take j, ltOf cmpP y x = true := by
    intro y hy
    obtain ⟨i, hi, rfl⟩ := List.getElem_of_mem hy
    have hi' : i < j := by simp at hi; omega
    rcases hs with rfl | hs
    · omega
    · have hjm : j - 1 < m.length := by omega
      have e : m.getD (j - 1) z3 = m[j - 1] := by simp [hjm]
      rw [e] at hs
      have hlt : ltOf cmpP m[j - 1] x = true := by
        rcases h : ltOf cmpP m[j - 1] x with _ | _
        · exact absurd (totP _ _ hs h) (fun e => hx (e ▸ List.getElem_mem hjm))
        · rfl
      rw [List.getElem_take]
      rcases Nat.lt_or_ge i (j - 1) with hlt2 | hge
      · exact swoP.trans _ _ _ (List.pairwise_iff_getElem.1 hm i (j - 1) (by omega) hjm hlt2) hlt
      · have : i = j - 1 := by omega
        subst this
        exact hlt
  unfold insAt Rising
  refine List.pairwise_append.2 ⟨h1, List.pairwise_cons.2 ⟨hd, h2⟩, fun a ha b hb => ?_⟩
  rcases List.mem_cons.1 hb with rfl | hb
  · exact h3 a ha
  · exact swoP.trans _ _ _ (h3 a ha) (hd b hb)
theorem mem_insAt {m : List Plc} {j : Nat} {x y : Plc} : y ∈ insAt m j x ↔ y = x ∨ y ∈ m := by
  unfold insAt
  conv => rhs; rw [← List.take_append_drop j m]
  simp only [List.mem_append, List.mem_cons]
  constructor
  · rintro (h | h | h)
    · exact .inr (.inl h)
    · exact .inl h
    · exact .inr (.inr h)
  · rintro (h | h | h)
    · exact .inr (.inl h)
    · exact .inl h
    · exact .inr (.inr h)
theorem getL_ne {l : List OneR} (h : (l.map (·.1)).Nodup) (x : Plc) : getL l x ≠ 0 ↔ ∃ v, (x, v) ∈ l ∧ v ≠ 0 := by
  induction l with
  | nil => simp [getL]
  | cons e l ih =>
    rw [List.map_cons, List.nodup_cons] at h
    have ih := ih h.2
    by_cases he : e.1 = x
    · subst he
      simp only [getL, if_true]
      constructor
      · intro hv; exact ⟨e.2, by simp, hv⟩
      · rintro ⟨v, hv, hne⟩
        rcases List.mem_cons.1 hv with e' | e'
        · rw [← e']; exact hne
        · exact absurd (List.mem_map.2 ⟨_, e', rfl⟩) h.1
    · simp only [getL, if_neg he]
      rw [ih]
      constructor
      · rintro ⟨v, hv, hne⟩; exact ⟨v, List.mem_cons_of_mem _ hv, hne⟩
      · rintro ⟨v, hv, hne⟩
        rcases List.mem_cons.1 hv with e' | e'
        · exact absurd (by rw [← e']) he
        · exact ⟨v, e', hne⟩
theorem ownsRow_rowP {w : World} {b : Nat} {v : Value} {m : List Plc} (h : w.ownsRow b 105 3 v m.length (flatP m)) : RowP w v m := by
  rcases h.2 with ⟨hv, h0⟩ | ⟨g, cap, cur, hv, _, hg, hn, hc, hcs, htk⟩
  · exact .inl ⟨List.eq_nil_of_length_eq_zero h0, hv⟩
  · refine .inr ⟨g, cap, hv, (Array.getElem?_eq_some_iff.1 hg).1, fun j hj => ?_⟩
    have each : ∀ c, c < 3 → w.cell? ⟨g, j * 3 + c, none⟩ = (encP (m.getD j z3))[c]? := fun c hc4 => by
      rw [← flatP_get m j c hj hc4, ← htk, List.getElem?_take_of_lt (by omega)]
      simp [World.cell?, hg]
    exact ⟨each 0 (by omega), each 1 (by omega), each 2 (by omega)⟩
end Go.Proofs.YtnnjanaclgjneaaGreatDoor
