/- WorldBlind: two plain worlds whose accesses differ in ghosts alone answer the same, and keep the same words: so the law answers true, for every input. -/
import Derived.Test.YtnohfcikedhhgaaWorldS
import Derived.Test.YtnohfcikedhhgaaWorldC
import Derived.Test.YtnohfcikedhhgaaActW
import Derived.Test.YtnohfcikedhhgaaLaw
import Derived.Test.YtnohfcikedhhgaaOpenRows
import Derived.Test.YtnohfcikedhhgaaRows
namespace Go.Proofs.Ytnohfcikedhhgaa.worldBlind
open Go.ChangeShapes Go.WideShapes Go.ChangeAt Go.RowKit Go.Maps
set_option maxRecDepth 100000

set_option maxHeartbeats 6400000 in
theorem walk (xs : List ActW) (A : Option Addr) (cap : Nat) (zs : List Int) (A2 : Option Addr) (cap2 : Nat) (hok : ∀ r ∈ xs, OkActW r) (hlen : xs.length ≤ 9223372036854775807) (hlen2 : zs.length ≤ 9223372036854775807) (w : World) (hr : RowX encActW 11 w A xs) (hr2 : zs = [] ∨ ∃ b off, A2 = some ⟨b, off, none⟩ ∧ b < w.heap.size ∧ ∀ i, i < zs.length → w.cell? ⟨b, off + i, none⟩ = some (.int .i64 (zs.getD i 0))) :
    Calls Try.prog 5 #[.slice A xs.length cap, .slice A2 zs.length cap2] w fun e w' => e = .returned (.bool true) ∧ Below w.heap.size w w' := by
  have hE := Env.start w
  have HZ := Lib.hid hok
  have HR := Lib.hid hr
  have HR2 := Lib.hid hr2
  clear hok hr hr2
  have hM : ∀ k : Nat, k ≤ 1000 → k < maxLen := fun k hk => by unfold maxLen; omega
  have HM := Lib.hid hM
  clear hM
  go_enter Try.func5, Try.ntmps5
  go_wp2_with fail
  refine (awake7 _).mono ?_
  rintro e w1 ⟨rfl, hb⟩
  replace hE := hE.over hb
  clear hb
  go_wp2_with fail
  refine (new_w hE).mono ?_
  rintro e w2 ⟨p1, c1, rfl, hE, hb⟩
  clear hb
  go_wp2_with fail
  refine (new_w hE).mono ?_
  rintro e w3 ⟨p2, c2, rfl, hE, hb⟩
  clear hb
  go_wp2_with fail
  go_loopw [7] (fun i wr => ∃ (k n : Nat) (F1 F2 : Nat → Prop) (f : Plc → Int) (q : Cnt), k ≤ xs.length ∧ k ≤ 150 ∧ n ≤ k ∧ i = .int .i64 k ∧ Env w [wbox p2 c2, cellI c2 F2 f q n, wbox p1 c1, cellI c1 F1 f q n] wr) (fun i _ => xs.length - (intOf i).toNat)
  case atStart => exact ⟨0, 0, _, _, _, ⟨0, 0, 0, 0, 0⟩, by omega, by omega, by omega, rfl, hE⟩
  case round =>
    obtain ⟨k, n, F1, F2, f, q, hk, hk1, hn, rfl, hEr⟩ := hrel
    clear hE
    by_cases hlt : k < xs.length ∧ k < 150
    · obtain ⟨hlt, hlt1⟩ := hlt
      have hb1 : decide ((k : Int) < xs.length) = true := by simp; omega
      have hb2 : decide ((k : Int) < 150) = true := by simp; omega
      rcases HR.out with hz0 | ⟨blk, off, rfl, hbw, hc⟩
      · rw [hz0] at hlt; simp at hlt
      have hok : OkActW (xs.getD k default) := HZ.out _ (by simp [hlt])
      have hat := (hc k hlt).below hEr.below hbw
      clear hc
      generalize xs.getD k default = r at *
      obtain ⟨kd, x, y, z, d, ow, oi, os, vw, vi, vs⟩ := r
      obtain ⟨_, wx, wy, wz, _, how, _, hvw, _⟩ := hok
      simp only at wx wy wz how hvw
      have HX := Lib.hid (show Wf (x, y, z) from ⟨wx, wy, wz⟩)
      have HW := Lib.hid hvw
      clear wx wy wz how hvw
      obtain ⟨c0, c1', c2', c3, c4, c5, c6, c7, c8, c9, c10⟩ := at_ActW hat
      clear hat
      by_cases hi : k < zs.length
      · have hb3 : decide ((k : Int) < zs.length) = true := by simp; omega
        rcases HR2.out with hz1 | ⟨g2, off2, rfl, hg2, hc2⟩
        · rw [hz1] at hi; simp at hi
        obtain ⟨id, hid⟩ : ∃ v, zs.getD k 0 = v := ⟨_, rfl⟩
        have hgw : g2 < wr.heap.size := Nat.lt_of_lt_of_le hg2 hEr.below.size
        have hd0 : wr.cell? ⟨g2, off2 + k, none⟩ = some (.int .i64 id) := by rw [hEr.below.cell (p := ⟨g2, off2 + k, none⟩) hg2, hc2 k hi, hid]
        have hd : ∀ o1 o2, ((wr.alloc o1).alloc o2).cell? ⟨g2, off2 + k, none⟩ = some (.int .i64 id) := fun o1 o2 => by
          rw [World.cell?_of_block (w := wr) (by rw [Below.heap_alloc _ _ _ (by simp; omega), Below.heap_alloc _ _ _ hgw])]; exact hd0
        have hne : ¬ g2 = wr.heap.size + 1 := by omega
        have hne' : ¬ wr.heap.size + 1 = g2 := by omega
        have hE := (hEr.box wr.heap.size rfl [.int .i64 kd, .int .i64 x, .int .i64 y, .int .i64 z, .int .i64 d, .int .u64 ow, .int .i64 oi, .bool os, .int .u64 vw, .int .i64 vi, .bool vs] 42).box (wr.heap.size + 1) (by simp) [.int .i64 kd, .int .i64 x, .int .i64 y, .int .i64 z, .int .i64 id, .int .u64 ow, .int .i64 id, .bool os, .int .u64 vw, .int .i64 id, .bool !vs] 42
        clear hc2 hid hd0 hgw hg2
        go_upto_region 16 with fail
        clear hd hne hne' c0 c1' c2' c3 c4 c5 c6 c7 c8 c9 c10 hEr
        generalize (wr.alloc _).alloc _ = w5 at *
        generalize wr.heap.size + 1 = Y at *
        generalize wr.heap.size = X at *
        by_cases h1 : kd = 1
        · subst h1
          have r0 := hE.rule 0 rfl
          have r1 := hE.rule 1 rfl
          go_wp2_with fail
          refine Ord.wp_chain [3, 7] (fun w' => Blk 0 w' Y [.int .i64 1, .int .i64 x, .int .i64 y, .int .i64 z, .int .i64 id, .int .u64 ow, .int .i64 id, .bool os, .int .u64 vw, .int .i64 id, .bool !vs] ∧ Blk 0 w' X [.int .i64 1, .int .i64 x, .int .i64 y, .int .i64 z, .int .i64 d, .int .u64 ow, .int .i64 oi, .bool os, .int .u64 vw, .int .i64 vi, .bool vs]) (Stage [Env w [boxI Y [.int .i64 1, .int .i64 x, .int .i64 y, .int .i64 z, .int .i64 id, .int .u64 ow, .int .i64 id, .bool os, .int .u64 vw, .int .i64 id, .bool !vs], boxI X [.int .i64 1, .int .i64 x, .int .i64 y, .int .i64 z, .int .i64 d, .int .u64 ow, .int .i64 oi, .bool os, .int .u64 vw, .int .i64 vi, .bool vs], wbox p2 c2, cellI c2 F2 f q n, wbox p1 c1, cellI c1 F1 f q n], fun w' => ∃ G1, Env w [boxI Y [.int .i64 1, .int .i64 x, .int .i64 y, .int .i64 z, .int .i64 id, .int .u64 ow, .int .i64 id, .bool os, .int .u64 vw, .int .i64 id, .bool !vs], boxI X [.int .i64 1, .int .i64 x, .int .i64 y, .int .i64 z, .int .i64 d, .int .u64 ow, .int .i64 oi, .bool os, .int .u64 vw, .int .i64 vi, .bool vs], wbox p2 c2, cellI c2 F2 f q n, wbox p1 c1, cellI c1 G1 f { q with l := wrap64 (q.l + 1) } n] w', fun w' => ∃ G1 G2, Env w [boxI Y [.int .i64 1, .int .i64 x, .int .i64 y, .int .i64 z, .int .i64 id, .int .u64 ow, .int .i64 id, .bool os, .int .u64 vw, .int .i64 id, .bool !vs], boxI X [.int .i64 1, .int .i64 x, .int .i64 y, .int .i64 z, .int .i64 d, .int .u64 ow, .int .i64 oi, .bool os, .int .u64 vw, .int .i64 vi, .bool vs], wbox p2 c2, cellI c2 G2 f { q with l := wrap64 (q.l + 1) } n, wbox p1 c1, cellI c1 G1 f { q with l := wrap64 (q.l + 1) } n] w']) (by kernel_rfl) (by kernel_rfl) (by kernel_rfl) ⟨hE.drew.get 0 rfl, hE.drew.get 1 rfl⟩ ⟨_, rfl, hE.drew⟩ (fun hT => ?_)
          have hT9 := Lib.hid hT
          clear hT
          repeat (first
            | (refine Ord.ch_value (v := ?_) hT9.out (by decide) (by rfl) ?_ ?_; rotate_left; (focus (intro w5 hS; have r0 := hS.1.rule; have r1 := hS.2.rule; go_simp <;> with_reducible rfl)); (try simp only [Act.put, List.setIfInBounds_toArray, List.set_cons_zero, List.set_cons_succ]))
            | (refine Ord.ch_off hT9.out (by decide) (by rfl) ?_; (try simp only [Act.put, List.setIfInBounds_toArray, List.set_cons_zero, List.set_cons_succ])))
          refine Ord.ch_turn (v := .agg #[.int .u64 (f (x, y, z)), .int .i64 0, .bool false]) 0 hT9.out rfl (by decide) (Or.inl rfl) (by rfl) ?_ ?_
          · rintro w5 hC5 ⟨P5, hP5, hA5⟩
            cases hP5
            skip
            go_simp
            simp only [Ord.LandsIn]
            refine (load_w x y z d HX.out 4 5 (by decide) hA5 rfl rfl).mono ?_
            rintro e w6 ⟨rfl, hE6⟩; exact ⟨rfl, ⟨hE6.get 0 rfl, hE6.get 1 rfl⟩, _, rfl, _, hE6⟩
          (try simp only [Act.put, List.setIfInBounds_toArray, List.set_cons_zero, List.set_cons_succ])
          repeat (first
            | (refine Ord.ch_value (v := ?_) hT9.out (by decide) (by rfl) ?_ ?_; rotate_left; (focus (intro w5 hS; have r0 := hS.1.rule; have r1 := hS.2.rule; go_simp <;> with_reducible rfl)); (try simp only [Act.put, List.setIfInBounds_toArray, List.set_cons_zero, List.set_cons_succ]))
            | (refine Ord.ch_off hT9.out (by decide) (by rfl) ?_; (try simp only [Act.put, List.setIfInBounds_toArray, List.set_cons_zero, List.set_cons_succ])))
          refine Ord.ch_turn (v := .agg #[.int .u64 (f (x, y, z)), .int .i64 0, .bool false]) 1 hT9.out rfl (by decide) (Or.inr ⟨_, rfl, by kernel_rfl⟩) (by rfl) ?_ ?_
          · rintro w5 hC5 ⟨P5, hP5, hA5⟩
            cases hP5
            obtain ⟨G1, hA5⟩ := hA5
            go_simp
            simp only [Ord.LandsIn]
            refine (load_w x y z id HX.out 2 3 (by decide) hA5 rfl rfl).mono ?_
            rintro e w6 ⟨rfl, hE6⟩; exact ⟨rfl, ⟨hE6.get 0 rfl, hE6.get 1 rfl⟩, _, rfl, _, _, hE6⟩
          (try simp only [Act.put, List.setIfInBounds_toArray, List.set_cons_zero, List.set_cons_succ])
          repeat (first
            | (refine Ord.ch_value (v := ?_) hT9.out (by decide) (by rfl) ?_ ?_; rotate_left; (focus (intro w5 hS; skip; go_simp <;> with_reducible rfl)); (try simp only [Act.put, List.setIfInBounds_toArray, List.set_cons_zero, List.set_cons_succ]))
            | (refine Ord.ch_off hT9.out (by decide) (by rfl) ?_; (try simp only [Act.put, List.setIfInBounds_toArray, List.set_cons_zero, List.set_cons_succ])))
          refine Ord.InText.nil fun w5 hS => ?_
          clear hT9
          obtain ⟨hC9, hA9⟩ := Ord.chain_end hS
          clear hS
          clear hC9
          obtain ⟨P9, hP9, hA9⟩ := hA9
          cases hP9
          obtain ⟨G1, G2, hA9⟩ := hA9
          go_wp2_with fail
          exact ⟨⟨k + 1, _, _, _, _, _, by omega, by omega, by omega, by simp, hA9.sub (.cons _ (.cons _ (List.Sublist.refl _)))⟩, by simp [intOf]; omega⟩
        by_cases h3 : kd = 3
        · subst h3
          have r0 := hE.rule 0 rfl
          have r1 := hE.rule 1 rfl
          go_wp2_with fail
          refine Ord.wp_chain [7, 15] (fun w' => Blk 0 w' Y [.int .i64 3, .int .i64 x, .int .i64 y, .int .i64 z, .int .i64 id, .int .u64 ow, .int .i64 id, .bool os, .int .u64 vw, .int .i64 id, .bool !vs] ∧ Blk 0 w' X [.int .i64 3, .int .i64 x, .int .i64 y, .int .i64 z, .int .i64 d, .int .u64 ow, .int .i64 oi, .bool os, .int .u64 vw, .int .i64 vi, .bool vs]) (Stage [Env w [boxI Y [.int .i64 3, .int .i64 x, .int .i64 y, .int .i64 z, .int .i64 id, .int .u64 ow, .int .i64 id, .bool os, .int .u64 vw, .int .i64 id, .bool !vs], boxI X [.int .i64 3, .int .i64 x, .int .i64 y, .int .i64 z, .int .i64 d, .int .u64 ow, .int .i64 oi, .bool os, .int .u64 vw, .int .i64 vi, .bool vs], wbox p2 c2, cellI c2 F2 f q n, wbox p1 c1, cellI c1 F1 f q n], fun w' => ∃ G1, Env w [boxI Y [.int .i64 3, .int .i64 x, .int .i64 y, .int .i64 z, .int .i64 id, .int .u64 ow, .int .i64 id, .bool os, .int .u64 vw, .int .i64 id, .bool !vs], boxI X [.int .i64 3, .int .i64 x, .int .i64 y, .int .i64 z, .int .i64 d, .int .u64 ow, .int .i64 oi, .bool os, .int .u64 vw, .int .i64 vi, .bool vs], wbox p2 c2, cellI c2 F2 f q n, wbox p1 c1, cellI c1 G1 (swf f (x, y, z) ow vw) (swq q (decide (f (x, y, z) = ow))) (n + 1)] w', fun w' => ∃ G1 G2, Env w [boxI Y [.int .i64 3, .int .i64 x, .int .i64 y, .int .i64 z, .int .i64 id, .int .u64 ow, .int .i64 id, .bool os, .int .u64 vw, .int .i64 id, .bool !vs], boxI X [.int .i64 3, .int .i64 x, .int .i64 y, .int .i64 z, .int .i64 d, .int .u64 ow, .int .i64 oi, .bool os, .int .u64 vw, .int .i64 vi, .bool vs], wbox p2 c2, cellI c2 G2 (swf f (x, y, z) ow vw) (swq q (decide (f (x, y, z) = ow))) (n + 1), wbox p1 c1, cellI c1 G1 (swf f (x, y, z) ow vw) (swq q (decide (f (x, y, z) = ow))) (n + 1)] w']) (by kernel_rfl) (by kernel_rfl) (by kernel_rfl) ⟨hE.drew.get 0 rfl, hE.drew.get 1 rfl⟩ ⟨_, rfl, hE.drew⟩ (fun hT => ?_)
          have hT9 := Lib.hid hT
          clear hT
          repeat (first
            | (refine Ord.ch_value (v := ?_) hT9.out (by decide) (by rfl) ?_ ?_; rotate_left; (focus (intro w5 hS; have r0 := hS.1.rule; have r1 := hS.2.rule; go_simp <;> with_reducible rfl)); (try simp only [Act.put, List.setIfInBounds_toArray, List.set_cons_zero, List.set_cons_succ]))
            | (refine Ord.ch_off hT9.out (by decide) (by rfl) ?_; (try simp only [Act.put, List.setIfInBounds_toArray, List.set_cons_zero, List.set_cons_succ])))
          refine Ord.ch_turn (v := .bool (decide (f (x, y, z) = ow))) 0 hT9.out rfl (by decide) (Or.inl rfl) (by rfl) ?_ ?_
          · rintro w5 hC5 ⟨P5, hP5, hA5⟩
            cases hP5
            skip
            go_simp
            simp only [Ord.LandsIn]
            refine (swap_w x y z d ow oi vw vi os vs HX.out HW.out (HM.out _ (by omega)) 4 5 (by decide) hA5 rfl rfl).mono ?_
            rintro e w6 ⟨rfl, F6,hE6⟩; exact ⟨rfl, ⟨hE6.get 0 rfl, hE6.get 1 rfl⟩, _, rfl, _, hE6⟩
          (try simp only [Act.put, List.setIfInBounds_toArray, List.set_cons_zero, List.set_cons_succ])
          repeat (first
            | (refine Ord.ch_value (v := ?_) hT9.out (by decide) (by rfl) ?_ ?_; rotate_left; (focus (intro w5 hS; have r0 := hS.1.rule; have r1 := hS.2.rule; go_simp <;> with_reducible rfl)); (try simp only [Act.put, List.setIfInBounds_toArray, List.set_cons_zero, List.set_cons_succ]))
            | (refine Ord.ch_off hT9.out (by decide) (by rfl) ?_; (try simp only [Act.put, List.setIfInBounds_toArray, List.set_cons_zero, List.set_cons_succ])))
          refine Ord.ch_turn (v := .bool (decide (f (x, y, z) = ow))) 1 hT9.out rfl (by decide) (Or.inr ⟨_, rfl, by kernel_rfl⟩) (by rfl) ?_ ?_
          · rintro w5 hC5 ⟨P5, hP5, hA5⟩
            cases hP5
            obtain ⟨G1, hA5⟩ := hA5
            go_simp
            simp only [Ord.LandsIn]
            refine (swap_w x y z id ow id vw id os (!vs) HX.out HW.out (HM.out _ (by omega)) 2 3 (by decide) hA5 rfl rfl).mono ?_
            rintro e w6 ⟨rfl, F6,hE6⟩; exact ⟨rfl, ⟨hE6.get 0 rfl, hE6.get 1 rfl⟩, _, rfl, _, _, hE6⟩
          (try simp only [Act.put, List.setIfInBounds_toArray, List.set_cons_zero, List.set_cons_succ])
          repeat (first
            | (refine Ord.ch_value (v := ?_) hT9.out (by decide) (by rfl) ?_ ?_; rotate_left; (focus (intro w5 hS; skip; go_simp <;> with_reducible rfl)); (try simp only [Act.put, List.setIfInBounds_toArray, List.set_cons_zero, List.set_cons_succ]))
            | (refine Ord.ch_off hT9.out (by decide) (by rfl) ?_; (try simp only [Act.put, List.setIfInBounds_toArray, List.set_cons_zero, List.set_cons_succ])))
          refine Ord.InText.nil fun w5 hS => ?_
          clear hT9
          obtain ⟨hC9, hA9⟩ := Ord.chain_end hS
          clear hS
          clear hC9
          obtain ⟨P9, hP9, hA9⟩ := hA9
          cases hP9
          obtain ⟨G1, G2, hA9⟩ := hA9
          go_wp2_with fail
          exact ⟨⟨k + 1, _, _, _, _, _, by omega, by omega, by omega, by simp, hA9.sub (.cons _ (.cons _ (List.Sublist.refl _)))⟩, by simp [intOf]; omega⟩
        by_cases h5 : kd = 5
        · subst h5
          have r0 := hE.rule 0 rfl
          have r1 := hE.rule 1 rfl
          go_wp2_with fail
          refine Ord.wp_chain [6, 13] (fun w' => Blk 0 w' Y [.int .i64 5, .int .i64 x, .int .i64 y, .int .i64 z, .int .i64 id, .int .u64 ow, .int .i64 id, .bool os, .int .u64 vw, .int .i64 id, .bool !vs] ∧ Blk 0 w' X [.int .i64 5, .int .i64 x, .int .i64 y, .int .i64 z, .int .i64 d, .int .u64 ow, .int .i64 oi, .bool os, .int .u64 vw, .int .i64 vi, .bool vs]) (Stage [Env w [boxI Y [.int .i64 5, .int .i64 x, .int .i64 y, .int .i64 z, .int .i64 id, .int .u64 ow, .int .i64 id, .bool os, .int .u64 vw, .int .i64 id, .bool !vs], boxI X [.int .i64 5, .int .i64 x, .int .i64 y, .int .i64 z, .int .i64 d, .int .u64 ow, .int .i64 oi, .bool os, .int .u64 vw, .int .i64 vi, .bool vs], wbox p2 c2, cellI c2 F2 f q n, wbox p1 c1, cellI c1 F1 f q n], fun w' => ∃ G1, Env w [boxI Y [.int .i64 5, .int .i64 x, .int .i64 y, .int .i64 z, .int .i64 id, .int .u64 ow, .int .i64 id, .bool os, .int .u64 vw, .int .i64 id, .bool !vs], boxI X [.int .i64 5, .int .i64 x, .int .i64 y, .int .i64 z, .int .i64 d, .int .u64 ow, .int .i64 oi, .bool os, .int .u64 vw, .int .i64 vi, .bool vs], wbox p2 c2, cellI c2 F2 f q n, wbox p1 c1, cellI c1 G1 (upd f (x, y, z) (IntKind.u64.wrap (f (x, y, z) + vw))) { q with a := wrap64 (q.a + 1) } (n + 1)] w', fun w' => ∃ G1 G2, Env w [boxI Y [.int .i64 5, .int .i64 x, .int .i64 y, .int .i64 z, .int .i64 id, .int .u64 ow, .int .i64 id, .bool os, .int .u64 vw, .int .i64 id, .bool !vs], boxI X [.int .i64 5, .int .i64 x, .int .i64 y, .int .i64 z, .int .i64 d, .int .u64 ow, .int .i64 oi, .bool os, .int .u64 vw, .int .i64 vi, .bool vs], wbox p2 c2, cellI c2 G2 (upd f (x, y, z) (IntKind.u64.wrap (f (x, y, z) + vw))) { q with a := wrap64 (q.a + 1) } (n + 1), wbox p1 c1, cellI c1 G1 (upd f (x, y, z) (IntKind.u64.wrap (f (x, y, z) + vw))) { q with a := wrap64 (q.a + 1) } (n + 1)] w']) (by kernel_rfl) (by kernel_rfl) (by kernel_rfl) ⟨hE.drew.get 0 rfl, hE.drew.get 1 rfl⟩ ⟨_, rfl, hE.drew⟩ (fun hT => ?_)
          have hT9 := Lib.hid hT
          clear hT
          repeat (first
            | (refine Ord.ch_value (v := ?_) hT9.out (by decide) (by rfl) ?_ ?_; rotate_left; (focus (intro w5 hS; have r0 := hS.1.rule; have r1 := hS.2.rule; go_simp <;> with_reducible rfl)); (try simp only [Act.put, List.setIfInBounds_toArray, List.set_cons_zero, List.set_cons_succ]))
            | (refine Ord.ch_off hT9.out (by decide) (by rfl) ?_; (try simp only [Act.put, List.setIfInBounds_toArray, List.set_cons_zero, List.set_cons_succ])))
          refine Ord.ch_turn (v := .int .u64 (f (x, y, z))) 0 hT9.out rfl (by decide) (Or.inl rfl) (by rfl) ?_ ?_
          · rintro w5 hC5 ⟨P5, hP5, hA5⟩
            cases hP5
            skip
            go_simp
            simp only [Ord.LandsIn]
            refine (add_w x y z d vw HX.out (HM.out _ (by omega)) 4 5 (by decide) hA5 rfl rfl).mono ?_
            rintro e w6 ⟨rfl, F6,hE6⟩; exact ⟨rfl, ⟨hE6.get 0 rfl, hE6.get 1 rfl⟩, _, rfl, _, hE6⟩
          (try simp only [Act.put, List.setIfInBounds_toArray, List.set_cons_zero, List.set_cons_succ])
          repeat (first
            | (refine Ord.ch_value (v := ?_) hT9.out (by decide) (by rfl) ?_ ?_; rotate_left; (focus (intro w5 hS; have r0 := hS.1.rule; have r1 := hS.2.rule; go_simp <;> with_reducible rfl)); (try simp only [Act.put, List.setIfInBounds_toArray, List.set_cons_zero, List.set_cons_succ]))
            | (refine Ord.ch_off hT9.out (by decide) (by rfl) ?_; (try simp only [Act.put, List.setIfInBounds_toArray, List.set_cons_zero, List.set_cons_succ])))
          refine Ord.ch_turn (v := .int .u64 (f (x, y, z))) 1 hT9.out rfl (by decide) (Or.inr ⟨_, rfl, by kernel_rfl⟩) (by rfl) ?_ ?_
          · rintro w5 hC5 ⟨P5, hP5, hA5⟩
            cases hP5
            obtain ⟨G1, hA5⟩ := hA5
            go_simp
            simp only [Ord.LandsIn]
            refine (add_w x y z id vw HX.out (HM.out _ (by omega)) 2 3 (by decide) hA5 rfl rfl).mono ?_
            rintro e w6 ⟨rfl, F6,hE6⟩; exact ⟨rfl, ⟨hE6.get 0 rfl, hE6.get 1 rfl⟩, _, rfl, _, _, hE6⟩
          (try simp only [Act.put, List.setIfInBounds_toArray, List.set_cons_zero, List.set_cons_succ])
          repeat (first
            | (refine Ord.ch_value (v := ?_) hT9.out (by decide) (by rfl) ?_ ?_; rotate_left; (focus (intro w5 hS; skip; go_simp <;> with_reducible rfl)); (try simp only [Act.put, List.setIfInBounds_toArray, List.set_cons_zero, List.set_cons_succ]))
            | (refine Ord.ch_off hT9.out (by decide) (by rfl) ?_; (try simp only [Act.put, List.setIfInBounds_toArray, List.set_cons_zero, List.set_cons_succ])))
          refine Ord.InText.nil fun w5 hS => ?_
          clear hT9
          obtain ⟨hC9, hA9⟩ := Ord.chain_end hS
          clear hS
          clear hC9
          obtain ⟨P9, hP9, hA9⟩ := hA9
          cases hP9
          obtain ⟨G1, G2, hA9⟩ := hA9
          go_wp2_with fail
          exact ⟨⟨k + 1, _, _, _, _, _, by omega, by omega, by omega, by simp, hA9.sub (.cons _ (.cons _ (List.Sublist.refl _)))⟩, by simp [intOf]; omega⟩
        by_cases h2 : kd = 2
        · subst h2
          have r0 := hE.rule 0 rfl
          have r1 := hE.rule 1 rfl
          go_wp2_with fail
          refine (store_w x y z d vw vi vs HX.out HW.out (HM.out _ (by omega)) 4 5 (by decide) hE rfl rfl).mono ?_
          rintro e w6 ⟨rfl, G1, hE⟩
          simp only [List.set_cons_succ, List.set_cons_zero] at hE
          clear r0 r1
          have r0 := hE.rule 0 rfl
          have r1 := hE.rule 1 rfl
          go_wp2_with fail
          refine (store_w x y z id vw id (!vs) HX.out HW.out (HM.out _ (by omega)) 2 3 (by decide) hE rfl rfl).mono ?_
          rintro e w7 ⟨rfl, G2, hE⟩
          simp only [List.set_cons_succ, List.set_cons_zero] at hE
          clear r0 r1
          go_wp2_with fail
          exact ⟨⟨k + 1, _, _, _, _, _, by omega, by omega, by omega, by simp, hE.sub (.cons _ (.cons _ (List.Sublist.refl _)))⟩, by simp [intOf]; omega⟩
        have r0 := hE.rule 0 rfl
        have r1 := hE.rule 1 rfl
        go_wp2_with fail
        exact ⟨⟨k + 1, _, _, _, _, _, by omega, by omega, by omega, by simp, hE.sub (.cons _ (.cons _ (List.Sublist.refl _)))⟩, by simp [intOf]; omega⟩
      · have hb3 : decide ((k : Int) < zs.length) = false := by simp; omega
        have hE := (hEr.box wr.heap.size rfl [.int .i64 kd, .int .i64 x, .int .i64 y, .int .i64 z, .int .i64 d, .int .u64 ow, .int .i64 oi, .bool os, .int .u64 vw, .int .i64 vi, .bool vs] 42).box (wr.heap.size + 1) (by simp) [.int .i64 kd, .int .i64 x, .int .i64 y, .int .i64 z, .int .i64 d, .int .u64 ow, .int .i64 oi, .bool os, .int .u64 vw, .int .i64 vi, .bool vs] 42
        go_upto_region 16 with fail
        clear c0 c1' c2' c3 c4 c5 c6 c7 c8 c9 c10 hEr
        generalize (wr.alloc _).alloc _ = w5 at *
        generalize wr.heap.size + 1 = Y at *
        generalize wr.heap.size = X at *
        by_cases h1 : kd = 1
        · subst h1
          have r0 := hE.rule 0 rfl
          have r1 := hE.rule 1 rfl
          go_wp2_with fail
          refine Ord.wp_chain [3, 7] (fun w' => Blk 0 w' Y [.int .i64 1, .int .i64 x, .int .i64 y, .int .i64 z, .int .i64 d, .int .u64 ow, .int .i64 oi, .bool os, .int .u64 vw, .int .i64 vi, .bool vs] ∧ Blk 0 w' X [.int .i64 1, .int .i64 x, .int .i64 y, .int .i64 z, .int .i64 d, .int .u64 ow, .int .i64 oi, .bool os, .int .u64 vw, .int .i64 vi, .bool vs]) (Stage [Env w [boxI Y [.int .i64 1, .int .i64 x, .int .i64 y, .int .i64 z, .int .i64 d, .int .u64 ow, .int .i64 oi, .bool os, .int .u64 vw, .int .i64 vi, .bool vs], boxI X [.int .i64 1, .int .i64 x, .int .i64 y, .int .i64 z, .int .i64 d, .int .u64 ow, .int .i64 oi, .bool os, .int .u64 vw, .int .i64 vi, .bool vs], wbox p2 c2, cellI c2 F2 f q n, wbox p1 c1, cellI c1 F1 f q n], fun w' => ∃ G1, Env w [boxI Y [.int .i64 1, .int .i64 x, .int .i64 y, .int .i64 z, .int .i64 d, .int .u64 ow, .int .i64 oi, .bool os, .int .u64 vw, .int .i64 vi, .bool vs], boxI X [.int .i64 1, .int .i64 x, .int .i64 y, .int .i64 z, .int .i64 d, .int .u64 ow, .int .i64 oi, .bool os, .int .u64 vw, .int .i64 vi, .bool vs], wbox p2 c2, cellI c2 F2 f q n, wbox p1 c1, cellI c1 G1 f { q with l := wrap64 (q.l + 1) } n] w', fun w' => ∃ G1 G2, Env w [boxI Y [.int .i64 1, .int .i64 x, .int .i64 y, .int .i64 z, .int .i64 d, .int .u64 ow, .int .i64 oi, .bool os, .int .u64 vw, .int .i64 vi, .bool vs], boxI X [.int .i64 1, .int .i64 x, .int .i64 y, .int .i64 z, .int .i64 d, .int .u64 ow, .int .i64 oi, .bool os, .int .u64 vw, .int .i64 vi, .bool vs], wbox p2 c2, cellI c2 G2 f { q with l := wrap64 (q.l + 1) } n, wbox p1 c1, cellI c1 G1 f { q with l := wrap64 (q.l + 1) } n] w']) (by kernel_rfl) (by kernel_rfl) (by kernel_rfl) ⟨hE.drew.get 0 rfl, hE.drew.get 1 rfl⟩ ⟨_, rfl, hE.drew⟩ (fun hT => ?_)
          have hT9 := Lib.hid hT
          clear hT
          repeat (first
            | (refine Ord.ch_value (v := ?_) hT9.out (by decide) (by rfl) ?_ ?_; rotate_left; (focus (intro w5 hS; have r0 := hS.1.rule; have r1 := hS.2.rule; go_simp <;> with_reducible rfl)); (try simp only [Act.put, List.setIfInBounds_toArray, List.set_cons_zero, List.set_cons_succ]))
            | (refine Ord.ch_off hT9.out (by decide) (by rfl) ?_; (try simp only [Act.put, List.setIfInBounds_toArray, List.set_cons_zero, List.set_cons_succ])))
          refine Ord.ch_turn (v := .agg #[.int .u64 (f (x, y, z)), .int .i64 0, .bool false]) 0 hT9.out rfl (by decide) (Or.inl rfl) (by rfl) ?_ ?_
          · rintro w5 hC5 ⟨P5, hP5, hA5⟩
            cases hP5
            skip
            go_simp
            simp only [Ord.LandsIn]
            refine (load_w x y z d HX.out 4 5 (by decide) hA5 rfl rfl).mono ?_
            rintro e w6 ⟨rfl, hE6⟩; exact ⟨rfl, ⟨hE6.get 0 rfl, hE6.get 1 rfl⟩, _, rfl, _, hE6⟩
          (try simp only [Act.put, List.setIfInBounds_toArray, List.set_cons_zero, List.set_cons_succ])
          repeat (first
            | (refine Ord.ch_value (v := ?_) hT9.out (by decide) (by rfl) ?_ ?_; rotate_left; (focus (intro w5 hS; have r0 := hS.1.rule; have r1 := hS.2.rule; go_simp <;> with_reducible rfl)); (try simp only [Act.put, List.setIfInBounds_toArray, List.set_cons_zero, List.set_cons_succ]))
            | (refine Ord.ch_off hT9.out (by decide) (by rfl) ?_; (try simp only [Act.put, List.setIfInBounds_toArray, List.set_cons_zero, List.set_cons_succ])))
          refine Ord.ch_turn (v := .agg #[.int .u64 (f (x, y, z)), .int .i64 0, .bool false]) 1 hT9.out rfl (by decide) (Or.inr ⟨_, rfl, by kernel_rfl⟩) (by rfl) ?_ ?_
          · rintro w5 hC5 ⟨P5, hP5, hA5⟩
            cases hP5
            obtain ⟨G1, hA5⟩ := hA5
            go_simp
            simp only [Ord.LandsIn]
            refine (load_w x y z d HX.out 2 3 (by decide) hA5 rfl rfl).mono ?_
            rintro e w6 ⟨rfl, hE6⟩; exact ⟨rfl, ⟨hE6.get 0 rfl, hE6.get 1 rfl⟩, _, rfl, _, _, hE6⟩
          (try simp only [Act.put, List.setIfInBounds_toArray, List.set_cons_zero, List.set_cons_succ])
          repeat (first
            | (refine Ord.ch_value (v := ?_) hT9.out (by decide) (by rfl) ?_ ?_; rotate_left; (focus (intro w5 hS; skip; go_simp <;> with_reducible rfl)); (try simp only [Act.put, List.setIfInBounds_toArray, List.set_cons_zero, List.set_cons_succ]))
            | (refine Ord.ch_off hT9.out (by decide) (by rfl) ?_; (try simp only [Act.put, List.setIfInBounds_toArray, List.set_cons_zero, List.set_cons_succ])))
          refine Ord.InText.nil fun w5 hS => ?_
          clear hT9
          obtain ⟨hC9, hA9⟩ := Ord.chain_end hS
          clear hS
          clear hC9
          obtain ⟨P9, hP9, hA9⟩ := hA9
          cases hP9
          obtain ⟨G1, G2, hA9⟩ := hA9
          go_wp2_with fail
          exact ⟨⟨k + 1, _, _, _, _, _, by omega, by omega, by omega, by simp, hA9.sub (.cons _ (.cons _ (List.Sublist.refl _)))⟩, by simp [intOf]; omega⟩
        by_cases h3 : kd = 3
        · subst h3
          have r0 := hE.rule 0 rfl
          have r1 := hE.rule 1 rfl
          go_wp2_with fail
          refine Ord.wp_chain [7, 15] (fun w' => Blk 0 w' Y [.int .i64 3, .int .i64 x, .int .i64 y, .int .i64 z, .int .i64 d, .int .u64 ow, .int .i64 oi, .bool os, .int .u64 vw, .int .i64 vi, .bool vs] ∧ Blk 0 w' X [.int .i64 3, .int .i64 x, .int .i64 y, .int .i64 z, .int .i64 d, .int .u64 ow, .int .i64 oi, .bool os, .int .u64 vw, .int .i64 vi, .bool vs]) (Stage [Env w [boxI Y [.int .i64 3, .int .i64 x, .int .i64 y, .int .i64 z, .int .i64 d, .int .u64 ow, .int .i64 oi, .bool os, .int .u64 vw, .int .i64 vi, .bool vs], boxI X [.int .i64 3, .int .i64 x, .int .i64 y, .int .i64 z, .int .i64 d, .int .u64 ow, .int .i64 oi, .bool os, .int .u64 vw, .int .i64 vi, .bool vs], wbox p2 c2, cellI c2 F2 f q n, wbox p1 c1, cellI c1 F1 f q n], fun w' => ∃ G1, Env w [boxI Y [.int .i64 3, .int .i64 x, .int .i64 y, .int .i64 z, .int .i64 d, .int .u64 ow, .int .i64 oi, .bool os, .int .u64 vw, .int .i64 vi, .bool vs], boxI X [.int .i64 3, .int .i64 x, .int .i64 y, .int .i64 z, .int .i64 d, .int .u64 ow, .int .i64 oi, .bool os, .int .u64 vw, .int .i64 vi, .bool vs], wbox p2 c2, cellI c2 F2 f q n, wbox p1 c1, cellI c1 G1 (swf f (x, y, z) ow vw) (swq q (decide (f (x, y, z) = ow))) (n + 1)] w', fun w' => ∃ G1 G2, Env w [boxI Y [.int .i64 3, .int .i64 x, .int .i64 y, .int .i64 z, .int .i64 d, .int .u64 ow, .int .i64 oi, .bool os, .int .u64 vw, .int .i64 vi, .bool vs], boxI X [.int .i64 3, .int .i64 x, .int .i64 y, .int .i64 z, .int .i64 d, .int .u64 ow, .int .i64 oi, .bool os, .int .u64 vw, .int .i64 vi, .bool vs], wbox p2 c2, cellI c2 G2 (swf f (x, y, z) ow vw) (swq q (decide (f (x, y, z) = ow))) (n + 1), wbox p1 c1, cellI c1 G1 (swf f (x, y, z) ow vw) (swq q (decide (f (x, y, z) = ow))) (n + 1)] w']) (by kernel_rfl) (by kernel_rfl) (by kernel_rfl) ⟨hE.drew.get 0 rfl, hE.drew.get 1 rfl⟩ ⟨_, rfl, hE.drew⟩ (fun hT => ?_)
          have hT9 := Lib.hid hT
          clear hT
          repeat (first
            | (refine Ord.ch_value (v := ?_) hT9.out (by decide) (by rfl) ?_ ?_; rotate_left; (focus (intro w5 hS; have r0 := hS.1.rule; have r1 := hS.2.rule; go_simp <;> with_reducible rfl)); (try simp only [Act.put, List.setIfInBounds_toArray, List.set_cons_zero, List.set_cons_succ]))
            | (refine Ord.ch_off hT9.out (by decide) (by rfl) ?_; (try simp only [Act.put, List.setIfInBounds_toArray, List.set_cons_zero, List.set_cons_succ])))
          refine Ord.ch_turn (v := .bool (decide (f (x, y, z) = ow))) 0 hT9.out rfl (by decide) (Or.inl rfl) (by rfl) ?_ ?_
          · rintro w5 hC5 ⟨P5, hP5, hA5⟩
            cases hP5
            skip
            go_simp
            simp only [Ord.LandsIn]
            refine (swap_w x y z d ow oi vw vi os vs HX.out HW.out (HM.out _ (by omega)) 4 5 (by decide) hA5 rfl rfl).mono ?_
            rintro e w6 ⟨rfl, F6,hE6⟩; exact ⟨rfl, ⟨hE6.get 0 rfl, hE6.get 1 rfl⟩, _, rfl, _, hE6⟩
          (try simp only [Act.put, List.setIfInBounds_toArray, List.set_cons_zero, List.set_cons_succ])
          repeat (first
            | (refine Ord.ch_value (v := ?_) hT9.out (by decide) (by rfl) ?_ ?_; rotate_left; (focus (intro w5 hS; have r0 := hS.1.rule; have r1 := hS.2.rule; go_simp <;> with_reducible rfl)); (try simp only [Act.put, List.setIfInBounds_toArray, List.set_cons_zero, List.set_cons_succ]))
            | (refine Ord.ch_off hT9.out (by decide) (by rfl) ?_; (try simp only [Act.put, List.setIfInBounds_toArray, List.set_cons_zero, List.set_cons_succ])))
          refine Ord.ch_turn (v := .bool (decide (f (x, y, z) = ow))) 1 hT9.out rfl (by decide) (Or.inr ⟨_, rfl, by kernel_rfl⟩) (by rfl) ?_ ?_
          · rintro w5 hC5 ⟨P5, hP5, hA5⟩
            cases hP5
            obtain ⟨G1, hA5⟩ := hA5
            go_simp
            simp only [Ord.LandsIn]
            refine (swap_w x y z d ow oi vw vi os (vs) HX.out HW.out (HM.out _ (by omega)) 2 3 (by decide) hA5 rfl rfl).mono ?_
            rintro e w6 ⟨rfl, F6,hE6⟩; exact ⟨rfl, ⟨hE6.get 0 rfl, hE6.get 1 rfl⟩, _, rfl, _, _, hE6⟩
          (try simp only [Act.put, List.setIfInBounds_toArray, List.set_cons_zero, List.set_cons_succ])
          repeat (first
            | (refine Ord.ch_value (v := ?_) hT9.out (by decide) (by rfl) ?_ ?_; rotate_left; (focus (intro w5 hS; skip; go_simp <;> with_reducible rfl)); (try simp only [Act.put, List.setIfInBounds_toArray, List.set_cons_zero, List.set_cons_succ]))
            | (refine Ord.ch_off hT9.out (by decide) (by rfl) ?_; (try simp only [Act.put, List.setIfInBounds_toArray, List.set_cons_zero, List.set_cons_succ])))
          refine Ord.InText.nil fun w5 hS => ?_
          clear hT9
          obtain ⟨hC9, hA9⟩ := Ord.chain_end hS
          clear hS
          clear hC9
          obtain ⟨P9, hP9, hA9⟩ := hA9
          cases hP9
          obtain ⟨G1, G2, hA9⟩ := hA9
          go_wp2_with fail
          exact ⟨⟨k + 1, _, _, _, _, _, by omega, by omega, by omega, by simp, hA9.sub (.cons _ (.cons _ (List.Sublist.refl _)))⟩, by simp [intOf]; omega⟩
        by_cases h5 : kd = 5
        · subst h5
          have r0 := hE.rule 0 rfl
          have r1 := hE.rule 1 rfl
          go_wp2_with fail
          refine Ord.wp_chain [6, 13] (fun w' => Blk 0 w' Y [.int .i64 5, .int .i64 x, .int .i64 y, .int .i64 z, .int .i64 d, .int .u64 ow, .int .i64 oi, .bool os, .int .u64 vw, .int .i64 vi, .bool vs] ∧ Blk 0 w' X [.int .i64 5, .int .i64 x, .int .i64 y, .int .i64 z, .int .i64 d, .int .u64 ow, .int .i64 oi, .bool os, .int .u64 vw, .int .i64 vi, .bool vs]) (Stage [Env w [boxI Y [.int .i64 5, .int .i64 x, .int .i64 y, .int .i64 z, .int .i64 d, .int .u64 ow, .int .i64 oi, .bool os, .int .u64 vw, .int .i64 vi, .bool vs], boxI X [.int .i64 5, .int .i64 x, .int .i64 y, .int .i64 z, .int .i64 d, .int .u64 ow, .int .i64 oi, .bool os, .int .u64 vw, .int .i64 vi, .bool vs], wbox p2 c2, cellI c2 F2 f q n, wbox p1 c1, cellI c1 F1 f q n], fun w' => ∃ G1, Env w [boxI Y [.int .i64 5, .int .i64 x, .int .i64 y, .int .i64 z, .int .i64 d, .int .u64 ow, .int .i64 oi, .bool os, .int .u64 vw, .int .i64 vi, .bool vs], boxI X [.int .i64 5, .int .i64 x, .int .i64 y, .int .i64 z, .int .i64 d, .int .u64 ow, .int .i64 oi, .bool os, .int .u64 vw, .int .i64 vi, .bool vs], wbox p2 c2, cellI c2 F2 f q n, wbox p1 c1, cellI c1 G1 (upd f (x, y, z) (IntKind.u64.wrap (f (x, y, z) + vw))) { q with a := wrap64 (q.a + 1) } (n + 1)] w', fun w' => ∃ G1 G2, Env w [boxI Y [.int .i64 5, .int .i64 x, .int .i64 y, .int .i64 z, .int .i64 d, .int .u64 ow, .int .i64 oi, .bool os, .int .u64 vw, .int .i64 vi, .bool vs], boxI X [.int .i64 5, .int .i64 x, .int .i64 y, .int .i64 z, .int .i64 d, .int .u64 ow, .int .i64 oi, .bool os, .int .u64 vw, .int .i64 vi, .bool vs], wbox p2 c2, cellI c2 G2 (upd f (x, y, z) (IntKind.u64.wrap (f (x, y, z) + vw))) { q with a := wrap64 (q.a + 1) } (n + 1), wbox p1 c1, cellI c1 G1 (upd f (x, y, z) (IntKind.u64.wrap (f (x, y, z) + vw))) { q with a := wrap64 (q.a + 1) } (n + 1)] w']) (by kernel_rfl) (by kernel_rfl) (by kernel_rfl) ⟨hE.drew.get 0 rfl, hE.drew.get 1 rfl⟩ ⟨_, rfl, hE.drew⟩ (fun hT => ?_)
          have hT9 := Lib.hid hT
          clear hT
          repeat (first
            | (refine Ord.ch_value (v := ?_) hT9.out (by decide) (by rfl) ?_ ?_; rotate_left; (focus (intro w5 hS; have r0 := hS.1.rule; have r1 := hS.2.rule; go_simp <;> with_reducible rfl)); (try simp only [Act.put, List.setIfInBounds_toArray, List.set_cons_zero, List.set_cons_succ]))
            | (refine Ord.ch_off hT9.out (by decide) (by rfl) ?_; (try simp only [Act.put, List.setIfInBounds_toArray, List.set_cons_zero, List.set_cons_succ])))
          refine Ord.ch_turn (v := .int .u64 (f (x, y, z))) 0 hT9.out rfl (by decide) (Or.inl rfl) (by rfl) ?_ ?_
          · rintro w5 hC5 ⟨P5, hP5, hA5⟩
            cases hP5
            skip
            go_simp
            simp only [Ord.LandsIn]
            refine (add_w x y z d vw HX.out (HM.out _ (by omega)) 4 5 (by decide) hA5 rfl rfl).mono ?_
            rintro e w6 ⟨rfl, F6,hE6⟩; exact ⟨rfl, ⟨hE6.get 0 rfl, hE6.get 1 rfl⟩, _, rfl, _, hE6⟩
          (try simp only [Act.put, List.setIfInBounds_toArray, List.set_cons_zero, List.set_cons_succ])
          repeat (first
            | (refine Ord.ch_value (v := ?_) hT9.out (by decide) (by rfl) ?_ ?_; rotate_left; (focus (intro w5 hS; have r0 := hS.1.rule; have r1 := hS.2.rule; go_simp <;> with_reducible rfl)); (try simp only [Act.put, List.setIfInBounds_toArray, List.set_cons_zero, List.set_cons_succ]))
            | (refine Ord.ch_off hT9.out (by decide) (by rfl) ?_; (try simp only [Act.put, List.setIfInBounds_toArray, List.set_cons_zero, List.set_cons_succ])))
          refine Ord.ch_turn (v := .int .u64 (f (x, y, z))) 1 hT9.out rfl (by decide) (Or.inr ⟨_, rfl, by kernel_rfl⟩) (by rfl) ?_ ?_
          · rintro w5 hC5 ⟨P5, hP5, hA5⟩
            cases hP5
            obtain ⟨G1, hA5⟩ := hA5
            go_simp
            simp only [Ord.LandsIn]
            refine (add_w x y z d vw HX.out (HM.out _ (by omega)) 2 3 (by decide) hA5 rfl rfl).mono ?_
            rintro e w6 ⟨rfl, F6,hE6⟩; exact ⟨rfl, ⟨hE6.get 0 rfl, hE6.get 1 rfl⟩, _, rfl, _, _, hE6⟩
          (try simp only [Act.put, List.setIfInBounds_toArray, List.set_cons_zero, List.set_cons_succ])
          repeat (first
            | (refine Ord.ch_value (v := ?_) hT9.out (by decide) (by rfl) ?_ ?_; rotate_left; (focus (intro w5 hS; skip; go_simp <;> with_reducible rfl)); (try simp only [Act.put, List.setIfInBounds_toArray, List.set_cons_zero, List.set_cons_succ]))
            | (refine Ord.ch_off hT9.out (by decide) (by rfl) ?_; (try simp only [Act.put, List.setIfInBounds_toArray, List.set_cons_zero, List.set_cons_succ])))
          refine Ord.InText.nil fun w5 hS => ?_
          clear hT9
          obtain ⟨hC9, hA9⟩ := Ord.chain_end hS
          clear hS
          clear hC9
          obtain ⟨P9, hP9, hA9⟩ := hA9
          cases hP9
          obtain ⟨G1, G2, hA9⟩ := hA9
          go_wp2_with fail
          exact ⟨⟨k + 1, _, _, _, _, _, by omega, by omega, by omega, by simp, hA9.sub (.cons _ (.cons _ (List.Sublist.refl _)))⟩, by simp [intOf]; omega⟩
        by_cases h2 : kd = 2
        · subst h2
          have r0 := hE.rule 0 rfl
          have r1 := hE.rule 1 rfl
          go_wp2_with fail
          refine (store_w x y z d vw vi vs HX.out HW.out (HM.out _ (by omega)) 4 5 (by decide) hE rfl rfl).mono ?_
          rintro e w6 ⟨rfl, G1, hE⟩
          simp only [List.set_cons_succ, List.set_cons_zero] at hE
          clear r0 r1
          have r0 := hE.rule 0 rfl
          have r1 := hE.rule 1 rfl
          go_wp2_with fail
          refine (store_w x y z d vw vi (vs) HX.out HW.out (HM.out _ (by omega)) 2 3 (by decide) hE rfl rfl).mono ?_
          rintro e w7 ⟨rfl, G2, hE⟩
          simp only [List.set_cons_succ, List.set_cons_zero] at hE
          clear r0 r1
          go_wp2_with fail
          exact ⟨⟨k + 1, _, _, _, _, _, by omega, by omega, by omega, by simp, hE.sub (.cons _ (.cons _ (List.Sublist.refl _)))⟩, by simp [intOf]; omega⟩
        have r0 := hE.rule 0 rfl
        have r1 := hE.rule 1 rfl
        go_wp2_with fail
        exact ⟨⟨k + 1, _, _, _, _, _, by omega, by omega, by omega, by simp, hE.sub (.cons _ (.cons _ (List.Sublist.refl _)))⟩, by simp [intOf]; omega⟩
    · by_cases hl1 : k < xs.length
      · have hl2 : ¬ k < 150 := fun h => hlt ⟨hl1, h⟩
        have hb1 : decide ((k : Int) < xs.length) = true := by simp; omega
        have hb2 : decide ((k : Int) < 150) = false := by simp; omega
        go_wp2_with fail
        refine (cells_w 2 3 hEr rfl rfl).mono ?_
        rintro e w5 ⟨d1, G1, rfl, hE⟩
        go_wp2_with fail
        refine (cells_w 1 2 hE rfl rfl).mono ?_
        rintro e w6 ⟨d2, G2, rfl, hE⟩
        go_wp2_with fail
        refine (same_any (hE.cell 1 rfl) (hE.cell 0 rfl)).mono ?_
        rintro e w7 ⟨rfl, hb⟩
        replace hE := hE.over hb
        clear hb
        rw [sameB_yes rfl]
        go_wp2_with fail
        refine (count_w 4 5 hE rfl rfl).mono ?_
        rintro e w8 ⟨rfl, hb⟩
        replace hE := hE.over hb
        clear hb
        go_wp2_with fail
        refine (count_w 2 3 hE rfl rfl).mono ?_
        rintro e w9 ⟨rfl, hb⟩
        replace hE := hE.over hb
        go_wp2_with fail
        go_ret
        exact ⟨by simp, hE.below⟩
      · have hb1 : decide ((k : Int) < xs.length) = false := by simp; omega
        go_wp2_with fail
        refine (cells_w 2 3 hEr rfl rfl).mono ?_
        rintro e w5 ⟨d1, G1, rfl, hE⟩
        go_wp2_with fail
        refine (cells_w 1 2 hE rfl rfl).mono ?_
        rintro e w6 ⟨d2, G2, rfl, hE⟩
        go_wp2_with fail
        refine (same_any (hE.cell 1 rfl) (hE.cell 0 rfl)).mono ?_
        rintro e w7 ⟨rfl, hb⟩
        replace hE := hE.over hb
        clear hb
        rw [sameB_yes rfl]
        go_wp2_with fail
        refine (count_w 4 5 hE rfl rfl).mono ?_
        rintro e w8 ⟨rfl, hb⟩
        replace hE := hE.over hb
        clear hb
        go_wp2_with fail
        refine (count_w 2 3 hE rfl rfl).mono ?_
        rintro e w9 ⟨rfl, hb⟩
        replace hE := hE.over hb
        go_wp2_with fail
        go_ret
        exact ⟨by simp, hE.below⟩

theorem cellsInt : Try.prog.cellsOf 3 = 1 := by kernel_rfl

theorem own : ownKnob Try.prog.godebug = none := by kernel_rfl
theorem laidOut : laidOutB Try.prog = true := by kernel_rfl

set_option maxRecDepth 100000 in
theorem lifted (os : Os) (started : os.Started) (H : Type) (enc : TypeId × Value → H) :
    ReturnsInHanded {} Try.checked os 5 .any (Rows.worldBlindSpec.pre6 enc Try.prog Try.f5 Rows.worldBlindRow.domain false) (Rows.worldBlindSpec.post enc Try.prog Try.f5 false true false false) := by
  refine returnsInHanded_of_change (C := Try.checked) own started (by kernel_rfl) Try.func5
    (ChangeSpec.witness6 (enc := enc) (C := Try.checked) false ⟨#[], #[.slice none 0 0, .slice none 0 0], []⟩ 8 (by kernel_rfl) (by kernel_rfl) (by kernel_rfl) (by kernel_rfl)) ?_
  intro W base args ds gs before hval0 hW hcnd _
  have hval : ∀ (j : Nat) t v, Try.f5.params[j]? = some t → args[j]? = some v → Value.okWide Try.prog W .any base t v := hval0
  have hW' := hW
  obtain ⟨p, q, hA0, hV, rfl, hfz, hnd⟩ := hW
  have hA : DataW.TrodAll enc Try.prog W 0 (fun _ => true) true Try.f5.params.toList args.toList ds p := hA0
  rw [Try.params5] at hA hval
  obtain ⟨v0, vs0, d0, ds0, p0, q0, hargs, rfl, rfl, g0, r0⟩ := trodAll_cons hA
  obtain ⟨v1, vs1, d1, ds1, p1, q1, rfl, rfl, rfl, g1, r1⟩ := trodAll_cons r0
  obtain ⟨rfl, rfl, rfl⟩ := trodAll_nil r1
  obtain rfl : args = #[v0, v1] := by cases args; simp_all
  obtain ⟨rfl, rfl⟩ := trodVars_none hV
  obtain ⟨A0, n0, cap0, rfl⟩ := okWide_slice Try.underlying22 (hval 0 22 v0 rfl rfl)
  obtain ⟨zs0, rfl, h0, w0, row0⟩ := open_ActW g0 (fun x hx => hW'.lt x (by simp [hx]))
  unfold maxLen at h0
  obtain ⟨A1, n1, cap1, rfl⟩ := okWide_slice Try.underlying57 (hval 1 57 v1 rfl rfl)
  obtain ⟨zs1, rfl, h1, w1, row1⟩ := open_num_row Try.underlying57 Try.underlying3 cellsInt g1 (fun x hx => hW'.lt x (by simp [hx]))
  unfold maxLen at h1
  clear hA0 hval0
  refine (walk zs0 A0 cap0 zs1 A1 cap1 w0 h0 h1 W row0 row1).mono fun e W' ⟨he, hg⟩ => ?_
  subst he
  exact ⟨_, rfl, law_post laidOut (by kernel_rfl) (by kernel_rfl) Try.underlying4 rfl rfl hW' hg⟩

theorem over : Rows.worldBlindRow.holds Try.pinned (OpenSpec.ofChange Rows.worldBlindSpec) :=
  OpenClaim.holds_of_wide 5 Try.f5 rfl rfl rfl rfl rfl rfl rfl ⟨rfl, rfl, rfl, rfl, rfl⟩ rfl rfl rfl rfl rfl (by kernel_rfl) Try.func5 (by kernel_rfl)
    (of_decide_eq_true (by kernel_rfl)) (by unfold Func.isWrapper; first | (rw [if_pos (by decide +kernel)]; kernel_rfl) | (rw [if_neg (by decide +kernel)]; exact ⟨rfl, rfl⟩))
    (fun os started H enc _ => lifted os started H enc)

/-- THE STATEMENT. -/
theorem proved : Rows.WorldBlindSaid := over
#print axioms proved
end Go.Proofs.Ytnohfcikedhhgaa.worldBlind
