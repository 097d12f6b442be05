/- GhostErased: behind the same accesses, with births between, a watched world has the plain one's words and answers: so the law answers true, for every input. -/
import Derived.Test.YtmihfpdbaagjnaaGhostW
import Derived.Test.YtmihfpdbaagjnaaActG
import Derived.Test.YtmihfpdbaagjnaaLaw
import Derived.Test.YtmihfpdbaagjnaaRows
namespace Go.Proofs.Ytmihfpdbaagjnaa.ghostErased
open Go.ChangeShapes Go.WideShapes Go.ChangeAt Go.RowKit Go.Maps
set_option maxRecDepth 100000

set_option maxHeartbeats 12800000 in
theorem walk (xs : List ActG) (A : Option Addr) (cap : Nat) (hok : ∀ r ∈ xs, OkActG r) (hlen : xs.length ≤ 9223372036854775807) (w : World) (hr : RowX encActG 11 w A xs) :
    Calls Try.prog 5 #[.slice A xs.length cap] w fun e w' => e = .returned (.bool true) ∧ Below w.heap.size w w' := by
  have hE := Env.start w
  have HZ := Lib.hid hok
  have HR := Lib.hid hr
  clear hok hr
  have hM : ∀ k : Nat, k ≤ 1000 → k < maxLen := fun k hk => by unfold maxLen; omega
  have HM := Lib.hid hM
  clear hM
  go_enter Try.func5, Try.ntmps5
  go_wp2_with fail
  refine (awake8 _).mono ?_
  rintro e w1 ⟨rfl, hb⟩
  replace hE := hE.over hb
  clear hb
  go_wp2_with fail
  refine (new_g hE).mono ?_
  rintro e w2 ⟨g, p, s, c, rfl, hE, hb⟩
  clear hb
  go_wp2_with fail
  refine (new_w hE).mono ?_
  rintro e w3 ⟨p2, c2, rfl, hE, hb⟩
  clear hb
  go_wp2_with fail
  go_loopw [5] (fun i wr => ∃ (k n m : Nat) (mp : Option Nat) (S F1 F2 : Nat → Prop) (h f : Plc → Int) (l : List Int) (q : Cnt) (st fa : Int), k ≤ xs.length ∧ k ≤ 150 ∧ n ≤ k ∧ m ≤ k ∧ l.length ≤ k ∧ i = .int .i64 k ∧ Env w [wbox p2 c2, cellI c2 F2 f q n, boxI g (gv p mp s st fa), leadsI mp h m, soulI s S l, wbox p c, cellI c F1 f q n] wr) (fun i _ => xs.length - (intOf i).toNat)
  case atStart => exact ⟨0, 0, 0, _, _, _, _, _, _, [], ⟨0, 0, 0, 0, 0⟩, _, _, by omega, by omega, by omega, by omega, by simp, rfl, hE⟩
  case round =>
    obtain ⟨k, n, m, mp, S, F1, F2, h, f, l, q, st, fa, hk, hk1, hn, hm, hll, rfl, hEr⟩ := hrel
    clear hE
    have hl6 : l.length ≤ 1000000 := by omega
    have hl5 : l.length ≤ 100000 := by omega
    have hnm : n < maxLen := HM.out _ (by omega)
    have hmm : m < maxLen := HM.out _ (by omega)
    by_cases hlt : k < xs.length ∧ k < 150
    · obtain ⟨hlt, hlt1⟩ := hlt
      have hb1 : decide ((k : Int) < xs.length) = true := by simp; omega
      have hb2 : decide ((k : Int) < 150) = true := by simp; omega
      rcases HR.out with hz0 | ⟨blk, off, rfl, hbw, hc⟩
      · rw [hz0] at hlt; simp at hlt
      have hok : OkActG (xs.getD k default) := HZ.out _ (by simp [hlt])
      have hat := (hc k hlt).below hEr.below hbw
      clear hc
      generalize xs.getD k default = r at *
      obtain ⟨kd, x, y, z, d, ow, oi, os, vw, vi, vs⟩ := r
      obtain ⟨_, wx, wy, wz, _, how, _, hvw, hvi⟩ := hok
      simp only at wx wy wz how hvw hvi
      have HX := Lib.hid (show Wf (x, y, z) from ⟨wx, wy, wz⟩)
      have HW := Lib.hid hvw
      have HI : Hid (In64 vi) := Lib.hid hvi
      clear wx wy wz how hvw hvi
      obtain ⟨c0, c1', c2', c3, c4, c5, c6, c7, c8, c9, c10⟩ := at_ActG hat
      clear hat
      have hE := hEr.box wr.heap.size rfl [.int .i64 kd, .int .i64 x, .int .i64 y, .int .i64 z, .int .i64 d, .int .u64 ow, .int .i64 oi, .bool os, .int .u64 vw, .int .i64 vi, .bool vs] 45
      go_upto_region 9 with fail
      clear c0 c1' c2' c3 c4 c5 c6 c7 c8 c9 c10 hEr
      generalize wr.alloc _ = w4 at *
      generalize wr.heap.size = X at *
      by_cases h1 : kd = 1
      · subst h1
        have r0 := hE.rule 0 rfl
        go_wp2_with fail
        refine Ord.wp_chain [3, 8] (fun w' => Blk 0 w' X [.int .i64 1, .int .i64 x, .int .i64 y, .int .i64 z, .int .i64 d, .int .u64 ow, .int .i64 oi, .bool os, .int .u64 vw, .int .i64 vi, .bool vs]) (Stage [Env w [boxI X [.int .i64 1, .int .i64 x, .int .i64 y, .int .i64 z, .int .i64 d, .int .u64 ow, .int .i64 oi, .bool os, .int .u64 vw, .int .i64 vi, .bool vs], wbox p2 c2, cellI c2 F2 f q n, boxI g (gv p mp s st fa), leadsI mp h m, soulI s S l, wbox p c, cellI c F1 f q n], fun w' => ∃ (mp' : Option Nat) (st' fa' : Int) (h' : Plc → Int) (m' : Nat), m' ≤ k + 1 ∧ ∃ (G1 : Nat → Prop), Env w [boxI X [.int .i64 1, .int .i64 x, .int .i64 y, .int .i64 z, .int .i64 d, .int .u64 ow, .int .i64 oi, .bool os, .int .u64 vw, .int .i64 vi, .bool vs], wbox p2 c2, cellI c2 F2 f q n, boxI g (gv p mp' s st' fa'), leadsI mp' h' m', soulI s S l, wbox p c, cellI c G1 f { q with l := wrap64 (q.l + 1) } n] w', fun w' => ∃ (mp' : Option Nat) (st' fa' : Int) (h' : Plc → Int) (m' : Nat), m' ≤ k + 1 ∧ ∃ (G1 G2 : Nat → Prop), Env w [boxI X [.int .i64 1, .int .i64 x, .int .i64 y, .int .i64 z, .int .i64 d, .int .u64 ow, .int .i64 oi, .bool os, .int .u64 vw, .int .i64 vi, .bool vs], wbox p2 c2, cellI c2 G2 f { q with l := wrap64 (q.l + 1) } n, boxI g (gv p mp' s st' fa'), leadsI mp' h' m', soulI s S l, wbox p c, cellI c G1 f { q with l := wrap64 (q.l + 1) } n] w']) (by kernel_rfl) (by kernel_rfl) (by kernel_rfl) (hE.drew.get 0 rfl) ⟨_, rfl, hE.drew⟩ (fun hT => ?_)
        have hT9 := Lib.hid hT
        clear hT
        repeat (first
          | (refine Ord.ch_value (v := ?_) hT9.out (by decide) (by rfl) ?_ ?_; rotate_left; (focus (intro w5 hS; have r0 := hS.rule; have hf := valWord; go_simp <;> with_reducible rfl)); (try simp only [Act.put, List.setIfInBounds_toArray, List.set_cons_zero, List.set_cons_succ]))
          | (refine Ord.ch_off hT9.out (by decide) (by rfl) ?_; (try simp only [Act.put, List.setIfInBounds_toArray, List.set_cons_zero, List.set_cons_succ])))
        refine Ord.ch_turn (v := .agg #[.int .u64 (f (x, y, z)), .int .i64 (h (x, y, z)), .bool (stB l x y d)]) 0 hT9.out rfl (by decide) (Or.inl rfl) (by rfl) ?_ ?_
        · rintro w5 hC5 ⟨P5, hP5, hA5⟩
          cases hP5
          skip
          go_simp
          simp only [Ord.LandsIn]
          refine (load_g x y z d HX.out hl6 3 hA5 rfl rfl rfl rfl rfl).mono ?_
          rintro e w6 ⟨rfl, hE6⟩; simp only [List.set_cons_succ, List.set_cons_zero] at hE6; exact ⟨rfl, hE6.get 0 rfl, _, rfl, _, _, _, _, _, (by omega), _, hE6⟩
        (try simp only [Act.put, List.setIfInBounds_toArray, List.set_cons_zero, List.set_cons_succ])
        repeat (first
          | (refine Ord.ch_value (v := ?_) hT9.out (by decide) (by rfl) ?_ ?_; rotate_left; (focus (intro w5 hS; have r0 := hS.rule; have hf := valWord; go_simp <;> with_reducible rfl)); (try simp only [Act.put, List.setIfInBounds_toArray, List.set_cons_zero, List.set_cons_succ]))
          | (refine Ord.ch_off hT9.out (by decide) (by rfl) ?_; (try simp only [Act.put, List.setIfInBounds_toArray, List.set_cons_zero, List.set_cons_succ])))
        refine Ord.ch_turn (v := .agg #[.int .u64 (f (x, y, z)), .int .i64 0, .bool false]) 1 hT9.out rfl (by decide) (Or.inr ⟨_, rfl, by kernel_rfl⟩) (by rfl) ?_ ?_
        · rintro w5 hC5 ⟨P5, hP5, hA5⟩
          cases hP5
          obtain ⟨mp1, st1, fa1, h1, m1, hm1, G1, hA5⟩ := hA5
          go_simp
          simp only [Ord.LandsIn]
          refine (load_w x y z d HX.out 1 2 (by decide) hA5 rfl rfl).mono ?_
          rintro e w6 ⟨rfl, hE6⟩; simp only [List.set_cons_succ, List.set_cons_zero] at hE6; exact ⟨rfl, hE6.get 0 rfl, _, rfl, mp1, st1, fa1, h1, m1, hm1, _, _, hE6⟩
        (try simp only [Act.put, List.setIfInBounds_toArray, List.set_cons_zero, List.set_cons_succ])
        repeat (first
          | (refine Ord.ch_value (v := ?_) hT9.out (by decide) (by rfl) ?_ ?_; rotate_left; (focus (intro w5 hS; have r0 := hS.rule; have hf := valWord; go_simp <;> with_reducible rfl)); (try simp only [Act.put, List.setIfInBounds_toArray, List.set_cons_zero, List.set_cons_succ]))
          | (refine Ord.ch_off hT9.out (by decide) (by rfl) ?_; (try simp only [Act.put, List.setIfInBounds_toArray, List.set_cons_zero, List.set_cons_succ])))
        refine Ord.InText.nil fun w5 hS => ?_
        clear hT9
        obtain ⟨hC9, hA9⟩ := Ord.chain_end hS
        clear hS
        clear hC9
        obtain ⟨P9, hP9, hA9⟩ := hA9
        cases hP9
        obtain ⟨mp1, st1, fa1, h1, m1, hm1, G1, G2, hA9⟩ := hA9
        go_wp2_with fail
        exact ⟨⟨k + 1, _, m1, _, _, _, _, _, _, l, _, _, _, by omega, by omega, (by omega), by omega, by omega, by simp, hA9.sub (.cons _ (List.Sublist.refl _))⟩, by simp [intOf]; omega⟩
      by_cases h3 : kd = 3
      · subst h3
        have r0 := hE.rule 0 rfl
        go_wp2_with fail
        refine Ord.wp_chain [7, 15] (fun w' => Blk 0 w' X [.int .i64 3, .int .i64 x, .int .i64 y, .int .i64 z, .int .i64 d, .int .u64 ow, .int .i64 oi, .bool os, .int .u64 vw, .int .i64 vi, .bool vs]) (Stage [Env w [boxI X [.int .i64 3, .int .i64 x, .int .i64 y, .int .i64 z, .int .i64 d, .int .u64 ow, .int .i64 oi, .bool os, .int .u64 vw, .int .i64 vi, .bool vs], wbox p2 c2, cellI c2 F2 f q n, boxI g (gv p mp s st fa), leadsI mp h m, soulI s S l, wbox p c, cellI c F1 f q n], fun w' => ∃ (mp' : Option Nat) (st' fa' : Int) (h' : Plc → Int) (m' : Nat), m' ≤ k + 1 ∧ ∃ (G1 : Nat → Prop), Env w [boxI X [.int .i64 3, .int .i64 x, .int .i64 y, .int .i64 z, .int .i64 d, .int .u64 ow, .int .i64 oi, .bool os, .int .u64 vw, .int .i64 vi, .bool vs], wbox p2 c2, cellI c2 F2 f q n, boxI g (gv p mp' s st' fa'), leadsI mp' h' m', soulI s S l, wbox p c, cellI c G1 (swf f (x, y, z) ow vw) (swq q (decide (f (x, y, z) = ow))) (n + 1)] w', fun w' => ∃ (mp' : Option Nat) (st' fa' : Int) (h' : Plc → Int) (m' : Nat), m' ≤ k + 1 ∧ ∃ (G1 G2 : Nat → Prop), Env w [boxI X [.int .i64 3, .int .i64 x, .int .i64 y, .int .i64 z, .int .i64 d, .int .u64 ow, .int .i64 oi, .bool os, .int .u64 vw, .int .i64 vi, .bool vs], wbox p2 c2, cellI c2 G2 (swf f (x, y, z) ow vw) (swq q (decide (f (x, y, z) = ow))) (n + 1), boxI g (gv p mp' s st' fa'), leadsI mp' h' m', soulI s S l, wbox p c, cellI c G1 (swf f (x, y, z) ow vw) (swq q (decide (f (x, y, z) = ow))) (n + 1)] w']) (by kernel_rfl) (by kernel_rfl) (by kernel_rfl) (hE.drew.get 0 rfl) ⟨_, rfl, hE.drew⟩ (fun hT => ?_)
        have hT9 := Lib.hid hT
        clear hT
        repeat (first
          | (refine Ord.ch_value (v := ?_) hT9.out (by decide) (by rfl) ?_ ?_; rotate_left; (focus (intro w5 hS; have r0 := hS.rule; have hf := valWord; go_simp <;> with_reducible rfl)); (try simp only [Act.put, List.setIfInBounds_toArray, List.set_cons_zero, List.set_cons_succ]))
          | (refine Ord.ch_off hT9.out (by decide) (by rfl) ?_; (try simp only [Act.put, List.setIfInBounds_toArray, List.set_cons_zero, List.set_cons_succ])))
        refine Ord.ch_turn (v := .bool (decide (f (x, y, z) = ow))) 0 hT9.out rfl (by decide) (Or.inl rfl) (by rfl) ?_ ?_
        · rintro w5 hC5 ⟨P5, hP5, hA5⟩
          cases hP5
          skip
          go_simp
          simp only [Ord.LandsIn]
          refine (swap_g x y z d ow oi vw vi os vs HX.out HW.out HI.out hnm hmm hl6 3 hA5 rfl rfl rfl rfl rfl).mono ?_
          rintro e w6 ⟨rfl, mp6, F6, hE6⟩; simp only [List.set_cons_succ, List.set_cons_zero] at hE6; exact ⟨rfl, hE6.get 0 rfl, _, rfl, _, _, _, _, _, (by omega), _, hE6⟩
        (try simp only [Act.put, List.setIfInBounds_toArray, List.set_cons_zero, List.set_cons_succ])
        repeat (first
          | (refine Ord.ch_value (v := ?_) hT9.out (by decide) (by rfl) ?_ ?_; rotate_left; (focus (intro w5 hS; have r0 := hS.rule; have hf := valWord; go_simp <;> with_reducible rfl)); (try simp only [Act.put, List.setIfInBounds_toArray, List.set_cons_zero, List.set_cons_succ]))
          | (refine Ord.ch_off hT9.out (by decide) (by rfl) ?_; (try simp only [Act.put, List.setIfInBounds_toArray, List.set_cons_zero, List.set_cons_succ])))
        refine Ord.ch_turn (v := .bool (decide (f (x, y, z) = ow))) 1 hT9.out rfl (by decide) (Or.inr ⟨_, rfl, by kernel_rfl⟩) (by rfl) ?_ ?_
        · rintro w5 hC5 ⟨P5, hP5, hA5⟩
          cases hP5
          obtain ⟨mp1, st1, fa1, h1, m1, hm1, G1, hA5⟩ := hA5
          go_simp
          simp only [Ord.LandsIn]
          refine (swap_w x y z d ow oi vw vi os vs HX.out HW.out hnm 1 2 (by decide) hA5 rfl rfl).mono ?_
          rintro e w6 ⟨rfl, F6, hE6⟩; simp only [List.set_cons_succ, List.set_cons_zero] at hE6; exact ⟨rfl, hE6.get 0 rfl, _, rfl, mp1, st1, fa1, h1, m1, hm1, _, _, hE6⟩
        (try simp only [Act.put, List.setIfInBounds_toArray, List.set_cons_zero, List.set_cons_succ])
        repeat (first
          | (refine Ord.ch_value (v := ?_) hT9.out (by decide) (by rfl) ?_ ?_; rotate_left; (focus (intro w5 hS; have r0 := hS.rule; have hf := valWord; go_simp <;> with_reducible rfl)); (try simp only [Act.put, List.setIfInBounds_toArray, List.set_cons_zero, List.set_cons_succ]))
          | (refine Ord.ch_off hT9.out (by decide) (by rfl) ?_; (try simp only [Act.put, List.setIfInBounds_toArray, List.set_cons_zero, List.set_cons_succ])))
        refine Ord.InText.nil fun w5 hS => ?_
        clear hT9
        obtain ⟨hC9, hA9⟩ := Ord.chain_end hS
        clear hS
        clear hC9
        obtain ⟨P9, hP9, hA9⟩ := hA9
        cases hP9
        obtain ⟨mp1, st1, fa1, h1, m1, hm1, G1, G2, hA9⟩ := hA9
        go_wp2_with fail
        exact ⟨⟨k + 1, _, m1, _, _, _, _, _, _, l, _, _, _, by omega, by omega, (by omega), by omega, by omega, by simp, hA9.sub (.cons _ (List.Sublist.refl _))⟩, by simp [intOf]; omega⟩
      by_cases h5 : kd = 5
      · subst h5
        have r0 := hE.rule 0 rfl
        go_wp2_with fail
        refine Ord.wp_chain [6, 13] (fun w' => Blk 0 w' X [.int .i64 5, .int .i64 x, .int .i64 y, .int .i64 z, .int .i64 d, .int .u64 ow, .int .i64 oi, .bool os, .int .u64 vw, .int .i64 vi, .bool vs]) (Stage [Env w [boxI X [.int .i64 5, .int .i64 x, .int .i64 y, .int .i64 z, .int .i64 d, .int .u64 ow, .int .i64 oi, .bool os, .int .u64 vw, .int .i64 vi, .bool vs], wbox p2 c2, cellI c2 F2 f q n, boxI g (gv p mp s st fa), leadsI mp h m, soulI s S l, wbox p c, cellI c F1 f q n], fun w' => ∃ (mp' : Option Nat) (st' fa' : Int) (h' : Plc → Int) (m' : Nat), m' ≤ k + 1 ∧ ∃ (G1 : Nat → Prop), Env w [boxI X [.int .i64 5, .int .i64 x, .int .i64 y, .int .i64 z, .int .i64 d, .int .u64 ow, .int .i64 oi, .bool os, .int .u64 vw, .int .i64 vi, .bool vs], wbox p2 c2, cellI c2 F2 f q n, boxI g (gv p mp' s st' fa'), leadsI mp' h' m', soulI s S l, wbox p c, cellI c G1 (upd f (x, y, z) (IntKind.u64.wrap (f (x, y, z) + vw))) { q with a := wrap64 (q.a + 1) } (n + 1)] w', fun w' => ∃ (mp' : Option Nat) (st' fa' : Int) (h' : Plc → Int) (m' : Nat), m' ≤ k + 1 ∧ ∃ (G1 G2 : Nat → Prop), Env w [boxI X [.int .i64 5, .int .i64 x, .int .i64 y, .int .i64 z, .int .i64 d, .int .u64 ow, .int .i64 oi, .bool os, .int .u64 vw, .int .i64 vi, .bool vs], wbox p2 c2, cellI c2 G2 (upd f (x, y, z) (IntKind.u64.wrap (f (x, y, z) + vw))) { q with a := wrap64 (q.a + 1) } (n + 1), boxI g (gv p mp' s st' fa'), leadsI mp' h' m', soulI s S l, wbox p c, cellI c G1 (upd f (x, y, z) (IntKind.u64.wrap (f (x, y, z) + vw))) { q with a := wrap64 (q.a + 1) } (n + 1)] w']) (by kernel_rfl) (by kernel_rfl) (by kernel_rfl) (hE.drew.get 0 rfl) ⟨_, rfl, hE.drew⟩ (fun hT => ?_)
        have hT9 := Lib.hid hT
        clear hT
        repeat (first
          | (refine Ord.ch_value (v := ?_) hT9.out (by decide) (by rfl) ?_ ?_; rotate_left; (focus (intro w5 hS; have r0 := hS.rule; have hf := valWord; go_simp <;> with_reducible rfl)); (try simp only [Act.put, List.setIfInBounds_toArray, List.set_cons_zero, List.set_cons_succ]))
          | (refine Ord.ch_off hT9.out (by decide) (by rfl) ?_; (try simp only [Act.put, List.setIfInBounds_toArray, List.set_cons_zero, List.set_cons_succ])))
        refine Ord.ch_turn (v := .int .u64 (f (x, y, z))) 0 hT9.out rfl (by decide) (Or.inl rfl) (by rfl) ?_ ?_
        · rintro w5 hC5 ⟨P5, hP5, hA5⟩
          cases hP5
          skip
          go_simp
          simp only [Ord.LandsIn]
          refine (add_g x y z d vw HX.out hnm 3 hA5 rfl rfl rfl).mono ?_
          rintro e w6 ⟨rfl, F6, hE6⟩; simp only [List.set_cons_succ, List.set_cons_zero] at hE6; exact ⟨rfl, hE6.get 0 rfl, _, rfl, _, _, _, _, _, (by omega), _, hE6⟩
        (try simp only [Act.put, List.setIfInBounds_toArray, List.set_cons_zero, List.set_cons_succ])
        repeat (first
          | (refine Ord.ch_value (v := ?_) hT9.out (by decide) (by rfl) ?_ ?_; rotate_left; (focus (intro w5 hS; have r0 := hS.rule; have hf := valWord; go_simp <;> with_reducible rfl)); (try simp only [Act.put, List.setIfInBounds_toArray, List.set_cons_zero, List.set_cons_succ]))
          | (refine Ord.ch_off hT9.out (by decide) (by rfl) ?_; (try simp only [Act.put, List.setIfInBounds_toArray, List.set_cons_zero, List.set_cons_succ])))
        refine Ord.ch_turn (v := .int .u64 (f (x, y, z))) 1 hT9.out rfl (by decide) (Or.inr ⟨_, rfl, by kernel_rfl⟩) (by rfl) ?_ ?_
        · rintro w5 hC5 ⟨P5, hP5, hA5⟩
          cases hP5
          obtain ⟨mp1, st1, fa1, h1, m1, hm1, G1, hA5⟩ := hA5
          go_simp
          simp only [Ord.LandsIn]
          refine (add_w x y z d vw HX.out hnm 1 2 (by decide) hA5 rfl rfl).mono ?_
          rintro e w6 ⟨rfl, F6, hE6⟩; simp only [List.set_cons_succ, List.set_cons_zero] at hE6; exact ⟨rfl, hE6.get 0 rfl, _, rfl, mp1, st1, fa1, h1, m1, hm1, _, _, hE6⟩
        (try simp only [Act.put, List.setIfInBounds_toArray, List.set_cons_zero, List.set_cons_succ])
        repeat (first
          | (refine Ord.ch_value (v := ?_) hT9.out (by decide) (by rfl) ?_ ?_; rotate_left; (focus (intro w5 hS; have r0 := hS.rule; have hf := valWord; go_simp <;> with_reducible rfl)); (try simp only [Act.put, List.setIfInBounds_toArray, List.set_cons_zero, List.set_cons_succ]))
          | (refine Ord.ch_off hT9.out (by decide) (by rfl) ?_; (try simp only [Act.put, List.setIfInBounds_toArray, List.set_cons_zero, List.set_cons_succ])))
        refine Ord.InText.nil fun w5 hS => ?_
        clear hT9
        obtain ⟨hC9, hA9⟩ := Ord.chain_end hS
        clear hS
        clear hC9
        obtain ⟨P9, hP9, hA9⟩ := hA9
        cases hP9
        obtain ⟨mp1, st1, fa1, h1, m1, hm1, G1, G2, hA9⟩ := hA9
        go_wp2_with fail
        exact ⟨⟨k + 1, _, m1, _, _, _, _, _, _, l, _, _, _, by omega, by omega, (by omega), by omega, by omega, by simp, hA9.sub (.cons _ (List.Sublist.refl _))⟩, by simp [intOf]; omega⟩
      by_cases h2 : kd = 2
      · subst h2
        have r0 := hE.rule 0 rfl
        go_wp2_with fail
        refine (store_g x y z d vw vi vs HX.out HW.out HI.out hnm hmm hl6 3 hE rfl rfl rfl rfl rfl).mono ?_
        rintro e w6 ⟨rfl, mp6, G1, hE⟩
        simp only [List.set_cons_succ, List.set_cons_zero] at hE
        clear r0
        have r0 := hE.rule 0 rfl
        go_wp2_with fail
        refine (store_w x y z d vw vi vs HX.out HW.out hnm 1 2 (by decide) hE rfl rfl).mono ?_
        rintro e w7 ⟨rfl, G2, hE⟩
        simp only [List.set_cons_succ, List.set_cons_zero] at hE
        clear r0
        go_wp2_with fail
        exact ⟨⟨k + 1, _, _, _, _, _, _, _, _, l, _, _, _, by omega, by omega, by omega, by omega, by omega, by simp, hE.sub (.cons _ (List.Sublist.refl _))⟩, by simp [intOf]; omega⟩
      by_cases h6 : kd = 6
      · subst h6
        have r0 := hE.rule 0 rfl
        go_wp2_with fail
        refine (born_g y HX.out.2.1 hl5 3 hE rfl rfl).mono ?_
        rintro e w6 ⟨rfl, S6, hE⟩
        simp only [List.set_cons_succ, List.set_cons_zero] at hE
        clear r0
        have hbl := bornL_length l y
        go_wp2_with fail
        exact ⟨⟨k + 1, _, _, _, _, _, _, _, _, _, _, _, _, by omega, by omega, by omega, by omega, by omega, by simp, hE.sub (.cons _ (List.Sublist.refl _))⟩, by simp [intOf]; omega⟩
      have r0 := hE.rule 0 rfl
      go_wp2_with fail
      exact ⟨⟨k + 1, _, _, _, _, _, _, _, _, l, _, _, _, by omega, by omega, by omega, by omega, by omega, by simp, hE.sub (.cons _ (List.Sublist.refl _))⟩, by simp [intOf]; omega⟩
    · by_cases hl1 : k < xs.length
      · have hl2 : ¬ k < 150 := fun h => hlt ⟨hl1, h⟩
        have hb1 : decide ((k : Int) < xs.length) = true := by simp; omega
        have hb2 : decide ((k : Int) < 150) = false := by simp; omega
        go_wp2_with fail
        refine (cells_g 2 hEr rfl rfl rfl).mono ?_
        rintro e w5 ⟨d1, G1, rfl, hE⟩
        go_wp2_with fail
        refine (cells_w 1 2 hE rfl rfl).mono ?_
        rintro e w6 ⟨d2, G2, rfl, hE⟩
        go_wp2_with fail
        refine (same_any (hE.cell 1 rfl) (hE.cell 0 rfl)).mono ?_
        rintro e w7 ⟨rfl, hb⟩
        replace hE := hE.over hb
        clear hb
        rw [sameB_yes rfl]
        go_wp2_with fail
        refine (count_g 4 hE rfl rfl rfl).mono ?_
        rintro e w8 ⟨rfl, hb⟩
        replace hE := hE.over hb
        clear hb
        go_wp2_with fail
        refine (count_w 2 3 hE rfl rfl).mono ?_
        rintro e w9 ⟨rfl, hb⟩
        replace hE := hE.over hb
        go_wp2_with fail
        go_ret
        exact ⟨by simp, hE.below⟩
      · have hb1 : decide ((k : Int) < xs.length) = false := by simp; omega
        go_wp2_with fail
        refine (cells_g 2 hEr rfl rfl rfl).mono ?_
        rintro e w5 ⟨d1, G1, rfl, hE⟩
        go_wp2_with fail
        refine (cells_w 1 2 hE rfl rfl).mono ?_
        rintro e w6 ⟨d2, G2, rfl, hE⟩
        go_wp2_with fail
        refine (same_any (hE.cell 1 rfl) (hE.cell 0 rfl)).mono ?_
        rintro e w7 ⟨rfl, hb⟩
        replace hE := hE.over hb
        clear hb
        rw [sameB_yes rfl]
        go_wp2_with fail
        refine (count_g 4 hE rfl rfl rfl).mono ?_
        rintro e w8 ⟨rfl, hb⟩
        replace hE := hE.over hb
        clear hb
        go_wp2_with fail
        refine (count_w 2 3 hE rfl rfl).mono ?_
        rintro e w9 ⟨rfl, hb⟩
        replace hE := hE.over hb
        go_wp2_with fail
        go_ret
        exact ⟨by simp, hE.below⟩

theorem own : ownKnob Try.prog.godebug = none := by kernel_rfl
theorem laidOut : laidOutB Try.prog = true := by kernel_rfl

set_option maxRecDepth 100000 in
theorem lifted (os : Os) (started : os.Started) (H : Type) (enc : TypeId × Value → H) :
    ReturnsInHanded {} Try.checked os 5 .any (Rows.ghostErasedSpec.pre6 enc Try.prog Try.f5 Rows.ghostErasedRow.domain false) (Rows.ghostErasedSpec.post enc Try.prog Try.f5 false true false false) := by
  refine returnsInHanded_of_change (C := Try.checked) own started (by kernel_rfl) Try.func5
    (ChangeSpec.witness6 (enc := enc) (C := Try.checked) false ⟨#[], #[.slice none 0 0], []⟩ 8 (by kernel_rfl) (by kernel_rfl) (by kernel_rfl) (by kernel_rfl)) ?_
  intro W base args ds gs before hval0 hW hcnd _
  have hval : ∀ (j : Nat) t v, Try.f5.params[j]? = some t → args[j]? = some v → Value.okWide Try.prog W .any base t v := hval0
  have hW' := hW
  obtain ⟨p, q, hA0, hV, rfl, hfz, hnd⟩ := hW
  have hA : DataW.TrodAll enc Try.prog W 0 (fun _ => true) true Try.f5.params.toList args.toList ds p := hA0
  rw [Try.params5] at hA hval
  obtain ⟨v0, vs0, d0, ds0, p0, q0, hargs, rfl, rfl, g0, r0⟩ := trodAll_cons hA
  obtain ⟨rfl, rfl, rfl⟩ := trodAll_nil r0
  obtain rfl : args = #[v0] := by cases args; simp_all
  obtain ⟨rfl, rfl⟩ := trodVars_none hV
  obtain ⟨A0, n0, cap0, rfl⟩ := okWide_slice Try.underlying22 (hval 0 22 v0 rfl rfl)
  obtain ⟨zs0, rfl, h0, w0, row0⟩ := open_ActG g0 (fun x hx => hW'.lt x (by simp [hx]))
  unfold maxLen at h0
  clear hA0 hval0
  refine (walk zs0 A0 cap0 w0 h0 W row0).mono fun e W' ⟨he, hg⟩ => ?_
  subst he
  exact ⟨_, rfl, law_post laidOut (by kernel_rfl) (by kernel_rfl) Try.underlying4 rfl rfl hW' hg⟩

theorem over : Rows.ghostErasedRow.holds Try.pinned (OpenSpec.ofChange Rows.ghostErasedSpec) :=
  OpenClaim.holds_of_wide 5 Try.f5 rfl rfl rfl rfl rfl rfl rfl ⟨rfl, rfl, rfl, rfl, rfl⟩ rfl rfl rfl rfl rfl (by kernel_rfl) Try.func5 (by kernel_rfl)
    (of_decide_eq_true (by kernel_rfl)) (by unfold Func.isWrapper; first | (rw [if_pos (by decide +kernel)]; kernel_rfl) | (rw [if_neg (by decide +kernel)]; exact ⟨rfl, rfl⟩))
    (fun os started H enc _ => lifted os started H enc)

/-- THE STATEMENT. -/
theorem proved : Rows.GhostErasedSaid := over
#print axioms proved
end Go.Proofs.Ytmihfpdbaagjnaa.ghostErased
