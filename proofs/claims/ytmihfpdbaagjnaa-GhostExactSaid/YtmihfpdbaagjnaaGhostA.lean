/- The plain world, watched: what it is in memory; its small functions; whether a reference is stale. -/
import Derived.Test.YtmihfpdbaagjnaaWorldA
import Derived.Test.YtmihfpdbaagjnaaPlcI
import Derived.Test.YtmihfpdbaagjnaaSoulE
import Derived.Test.YtmihfpdbaagjnaaSoulC
namespace Go.Proofs.Ytmihfpdbaagjnaa
open Go.RowKit Go.Maps
set_option maxRecDepth 100000

/-- A ghost's cells. -/
def gv (p : Nat) (mp : Option Nat) (s : Nat) (st fa : Int) : List Value := [.pointer (some ⟨p, 0, none⟩), .map mp, .pointer (some ⟨s, 0, none⟩), .int .i64 st, .int .i64 fa]
/-- Whom words lead to, as a thing. -/
def leadsI (mp : Option Nat) (h : Plc → Int) (m : Nat) : Item where
  F := fun k => mp = some k
  says := fun w => LeadsIs w mp h m
  loc := fun _ _ h hk _ => h.kept fun b e => hk b e
/-- Whether a reference is stale. -/
def stB (l : List Int) (x y d : Int) : Bool := decide (x = 5) && decide (nowL l y ≠ d)
/-- How many faults there are behind a word that is written. -/
def faS (l : List Int) (x y d : Int) (b : Bool) (fa : Int) : Int := if (b || stB l x y d) = true then wrap64 (fa + 1) else fa

section
variable {w0 w w' : World} {L : List Item} {mp : Option Nat} {h h' : Plc → Int} {m m' : Nat}
theorem Env.leads (hE : Env w0 L w) (i : Nat) (hi : L[i]? = some (leadsI mp h m)) : LeadsIs w mp h m := hE.get i hi
theorem Env.turnL (hE : Env w0 L w) (i : Nat) (hi : L[i]? = some (leadsI mp h m)) (hM : LeadsIs w' mp h' m') (ht : Turn (fun k => mp = some k) w w') : Env w0 (L.set i (leadsI mp h' m')) w' :=
  hE.step i (leadsI mp h' m') hi ⟨ht, fun _ hk => .inl hk⟩ hM hM.lt
theorem Env.mapMade (hE : Env w0 L w) (i : Nat) (hi : L[i]? = some (leadsI none h m)) (n : Nat) (hn : w.heap.size = n) : Env w0 (L.set i (leadsI (some n) h m)) (w.alloc (.map #[] 0)) := by
  subst hn
  have hM := hE.leads i hi
  have e : h = fun _ => 0 := by
    rcases hM with ⟨_, e⟩ | ⟨b, D, e, _⟩
    · exact e
    · cases e
  subst e
  have hM' : LeadsIs (w.alloc (.map #[] 0)) (some w.heap.size) (fun _ => 0) m := (LeadsIs.made w).mono (Nat.zero_le _)
  exact hE.step i (leadsI (some w.heap.size) (fun _ => 0) m) hi ⟨(Turn.refl _ w).alloc _, fun k hk => by cases hk; exact .inr (Nat.le_refl _)⟩ hM' hM'.lt
theorem Env.newL (hE : Env w0 L w) : Env w0 (leadsI none (fun _ => 0) 0 :: L) w :=
  hE.add (leadsI none (fun _ => 0) 0) (Below.refl _ _) (.inl ⟨rfl, rfl⟩) fun k hk => by cases hk
end

section
variable {w0 w : World} {L : List Item} {g p s c n m : Nat} {mp : Option Nat} {S F : Nat → Prop} {h f : Plc → Int} {l : List Int} {q : Cnt} {st fa : Int}
theorem watched_any {w : World} (hb : Blk 0 w g (gv p mp s st fa)) :
    Calls Try.prog 42 #[.pointer (some ⟨g, 0, none⟩)] w fun e w' => e = .returned (.pointer (some ⟨p, 0, none⟩)) ∧ w' = w := by
  have r := hb.rule
  unfold gv at r
  go_enter Try.func42, Try.ntmps42
  go_wp2
  go_ret
  exact ⟨rfl, rfl⟩
theorem souls_any {w : World} (hb : Blk 0 w g (gv p mp s st fa)) :
    Calls Try.prog 12 #[.pointer (some ⟨g, 0, none⟩)] w fun e w' => e = .returned (.pointer (some ⟨s, 0, none⟩)) ∧ w' = w := by
  have r := hb.rule
  unfold gv at r
  go_enter Try.func12, Try.ntmps12
  go_wp2
  go_ret
  exact ⟨rfl, rfl⟩
theorem stale_any {w : World} (hb : Blk 0 w g (gv p mp s st fa)) :
    Calls Try.prog 10 #[.pointer (some ⟨g, 0, none⟩)] w fun e w' => e = .returned (.int .i64 st) ∧ w' = w := by
  have r := hb.rule
  unfold gv at r
  go_enter Try.func10, Try.ntmps10
  go_wp2
  go_ret
  exact ⟨rfl, rfl⟩
theorem faults_any {w : World} (hb : Blk 0 w g (gv p mp s st fa)) :
    Calls Try.prog 11 #[.pointer (some ⟨g, 0, none⟩)] w fun e w' => e = .returned (.int .i64 fa) ∧ w' = w := by
  have r := hb.rule
  unfold gv at r
  go_enter Try.func11, Try.ntmps11
  go_wp2
  go_ret
  exact ⟨rfl, rfl⟩
theorem Env.gblk (hE : Env w0 L w) (i : Nat) (hi : L[i]? = some (boxI g (gv p mp s st fa))) : Blk 0 w g (gv p mp s st fa) := hE.get i hi

set_option maxHeartbeats 1600000 in
theorem isStale_any (x y z d : Int) (hy : In64 y) (hl : l.length ≤ 1000000) (i j : Nat) (hE : Env w0 L w) (hg : L[i]? = some (boxI g (gv p mp s st fa))) (hs : L[j]? = some (soulI s S l)) :
    Calls Try.prog 41 #[.pointer (some ⟨g, 0, none⟩), .agg #[.int .i64 x, .int .i64 y, .int .i64 z, .int .i64 d]] w fun e w' => e = .returned (.bool (stB l x y d)) ∧ Below w.heap.size w w' := by
  have hb := (Below.refl w.heap.size w).alloc (Nat.le_refl _) (.cells #[.int .i64 x, .int .i64 y, .int .i64 z, .int .i64 d] 43)
  replace hE := hE.box w.heap.size rfl [.int .i64 x, .int .i64 y, .int .i64 z, .int .i64 d] 43
  have HY := Lib.hid hy
  clear hy
  go_enter Try.func41, Try.ntmps41
  go_wp2_with fail
  obtain ⟨X, hXw⟩ : ∃ X, X = w.heap.size := ⟨_, rfl⟩
  rw [← hXw] at hE ⊢
  have HXW := Lib.hid hXw
  clear hXw
  have hg1 : (boxI X [.int .i64 x, .int .i64 y, .int .i64 z, .int .i64 d] :: L)[i + 1]? = some (boxI g (gv p mp s st fa)) := hg
  have hs1 : (boxI X [.int .i64 x, .int .i64 y, .int .i64 z, .int .i64 d] :: L)[j + 1]? = some (soulI s S l) := hs
  by_cases h5 : x = 5
  · have e1 : stB l x y d = (nowL l y != d) := by simp [stB, h5, bne, decide_not]; rfl
    have E1 := Lib.hid e1
    clear e1
    subst h5
    refine Ord.wp_chain [] (fun w' => Env w0 (boxI X [.int .i64 5, .int .i64 y, .int .i64 z, .int .i64 d] :: L) w' ∧ Below w.heap.size w w') (fun _ _ => True) (by kernel_rfl) (by kernel_rfl) (by kernel_rfl) ⟨hE.drew, hb.drew⟩ trivial (fun hT => ?_)
    have hT9 := Lib.hid hT
    clear hT
    repeat (first
      | (refine Ord.ch_value (v := ?_) hT9.out (by decide) (by rfl) ?_ ?_; rotate_left; (focus (intro w5 hS; have r := hS.1.rule 0 rfl; have r1 := hS.1.rule (i + 1) hg1; unfold gv at r1; go_simp <;> with_reducible rfl)); (try simp only [Act.put, List.setIfInBounds_toArray, List.set_cons_zero, List.set_cons_succ]))
      | (refine Ord.ch_off hT9.out (by decide) (by rfl) ?_; (try simp only [Act.put, List.setIfInBounds_toArray, List.set_cons_zero, List.set_cons_succ]))
      | (refine Ord.ch_call (v := ?_) (f := ?_) (args := ?_) hT9.out (by decide) (by rfl) ?_ ?_ ?_; rotate_left 3; (focus (intro w5 hS; have r := hS.1.rule 0 rfl; have r1 := hS.1.rule (i + 1) hg1; unfold gv at r1; go_simp; constructor <;> with_reducible rfl)); (focus (intro w5 hS; (first | (with_reducible refine (now_any y HY.out hl (hS.1.soul (j + 1) hs1)).mono ?_; rintro e w6 ⟨rfl, rfl⟩; constructor; with_reducible rfl; exact ⟨hS, fun _ h => h⟩)))); (try simp only [Act.put, List.setIfInBounds_toArray, List.set_cons_zero, List.set_cons_succ])))
    refine Ord.InText.nil fun w5 hS => ?_
    clear hT9
    obtain ⟨hC9, hA9⟩ := Ord.chain_end hS
    clear hS
    go_wp2
    go_ret
    exact ⟨ret_bool E1.out.symm, hC9.2⟩
  · have e1 : stB l x y d = false := by simp [stB, h5]
    have E1 := Lib.hid e1
    clear e1
    have h5' : (x == 5) = false := by simpa using h5
    refine Ord.wp_chain [] (fun w' => Env w0 (boxI X [.int .i64 x, .int .i64 y, .int .i64 z, .int .i64 d] :: L) w' ∧ Below w.heap.size w w') (fun _ _ => True) (by kernel_rfl) (by kernel_rfl) (by kernel_rfl) ⟨hE.drew, hb.drew⟩ trivial (fun hT => ?_)
    have hT9 := Lib.hid hT
    clear hT
    repeat (first
      | (refine Ord.ch_value (v := ?_) hT9.out (by decide) (by rfl) ?_ ?_; rotate_left; (focus (intro w5 hS; have r := hS.1.rule 0 rfl; have r1 := hS.1.rule (i + 1) hg1; unfold gv at r1; go_simp <;> with_reducible rfl)); (try simp only [Act.put, List.setIfInBounds_toArray, List.set_cons_zero, List.set_cons_succ]))
      | (refine Ord.ch_off hT9.out (by decide) (by rfl) ?_; (try simp only [Act.put, List.setIfInBounds_toArray, List.set_cons_zero, List.set_cons_succ]))
      | (refine Ord.ch_call (v := ?_) (f := ?_) (args := ?_) hT9.out (by decide) (by rfl) ?_ ?_ ?_; rotate_left 3; (focus (intro w5 hS; have r := hS.1.rule 0 rfl; have r1 := hS.1.rule (i + 1) hg1; unfold gv at r1; go_simp; constructor <;> with_reducible rfl)); (focus (intro w5 hS; (first | fail))); (try simp only [Act.put, List.setIfInBounds_toArray, List.set_cons_zero, List.set_cons_succ])))
    refine Ord.InText.nil fun w5 hS => ?_
    clear hT9
    obtain ⟨hC9, hA9⟩ := Ord.chain_end hS
    clear hS
    go_wp2
    go_ret
    exact ⟨ret_bool E1.out.symm, hC9.2⟩
end
end Go.Proofs.Ytmihfpdbaagjnaa
