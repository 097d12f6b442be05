/- WorldExact: of every row of accesses each answer of the plain world, all words and how many there were are the reference's: so the law answers true, for every input. -/
import Derived.Test.YtnohfcikedhhgaaWorldS
import Derived.Test.YtnohfcikedhhgaaWorldC
import Derived.Test.YtnohfcikedhhgaaActW
import Derived.Test.YtnohfcikedhhgaaRefI
import Derived.Test.YtnohfcikedhhgaaRefE
import Derived.Test.YtnohfcikedhhgaaLaw
import Derived.Test.YtnohfcikedhhgaaRows
import Derived.Deep.CutRange
import Derived.Deep.CutBlock
namespace Go.Proofs.Ytnohfcikedhhgaa.worldExact
open Go.ChangeShapes Go.WideShapes Go.ChangeAt Go.RowKit Go.Maps
set_option maxRecDepth 100000

set_option maxHeartbeats 12800000 in
theorem walk (xs : List ActW) (A : Option Addr) (cap : Nat) (st : Bool) (hok : ∀ r ∈ xs, OkActW r) (hlen : xs.length ≤ 9223372036854775807) (w : World) (hr : RowX encActW 11 w A xs) :
    Calls Try.prog 3 #[.slice A xs.length cap, .bool st] w fun e w' => e = .returned (.bool true) ∧ Below w.heap.size w w' := by
  have hE := Env.start w
  have HZ := Lib.hid hok
  have HR := Lib.hid hr
  clear hok hr
  have hM : ∀ k : Nat, k ≤ 1000 → k < maxLen := fun k hk => by unfold maxLen; omega
  have HM := Lib.hid hM
  clear hM
  go_enter Try.func3, Try.ntmps3
  go_wp2_with fail
  refine (awake7 _).mono ?_
  rintro e w1 ⟨rfl, hb⟩
  replace hE := hE.over hb
  clear hb
  go_wp2_with fail
  refine (new_w hE).mono ?_
  rintro e w2 ⟨p, c, rfl, hE, hb⟩
  clear hb
  replace hE := (hE.newU w2.heap.size rfl 29).box (w2.heap.size + 1) (by simp) [.int .i64 0, .int .i64 0, .int .i64 0, .int .i64 0, .int .i64 0] 31
  go_upto_if 22 with fail
  generalize (w2.alloc _).alloc _ = w3 at *
  generalize w2.heap.size + 1 = B at *
  generalize w2.heap.size = u at *
  replace hE : Env w [boxI B (bv ⟨0, 0, 0, 0, 0⟩), refI u (fun k => k = u) [], wbox p c, cellI c (fun k => k = c) (getL []) ⟨0, 0, 0, 0, 0⟩ 0] w3 := hE
  go_cut [22] from 22 to 29 (fun _ wx => ∃ (F G : Nat → Prop) (l : List OneR) (q : Cnt) (n : Nat), n ≤ 1 ∧ LOk l 1 ∧ Env w [boxI B (bv q), refI u G l, wbox p c, cellI c F (getL l) q n] wx)
  case first =>
    cases st
    · go_wp2_with fail
      go_meet
      case rel => exact ⟨_, _, [], ⟨0, 0, 0, 0, 0⟩, 0, by omega, ⟨by simp, by simp⟩, hE⟩
    · go_wp2_with fail
      refine (start_w 2 3 (by decide) (HM.out _ (by omega)) hE rfl rfl).mono ?_
      rintro e w4 ⟨rfl, F4, hE⟩
      simp only [List.set_cons_succ, List.set_cons_zero] at hE
      go_wp2_with fail
      refine (refSet_any 1 0 0 1 (by simp) (hE.ref 1 rfl)).mono ?_
      rintro e w5 ⟨rfl, G5, hU, hs⟩
      replace hE := hE.turnU 1 rfl hU hs
      simp only [List.set_cons_succ, List.set_cons_zero] at hE
      clear hU hs
      have rB := hE.rule 0 rfl
      have zB := hE.thaw 0 rfl 1 (by simp [bv])
      unfold bv at rB
      go_wp2_with fail
      go_meet
      case rel =>
        have hE := hE.put 0 rfl (j := 1) (by simp [bv]) (.int .i64 1)
        rw [show wrap64 (0 + 1) = 1 by simp [wrap64]] at hE
        simp only [List.set_cons_succ, List.set_cons_zero] at hE
        exact ⟨F4, G5, setL [] (1, 0, 0) 1, ⟨0, 1, 0, 0, 0⟩, 1, by omega, ⟨by simp [setL], by simp [setL]⟩, by rw [getL_set]; exact hE⟩
  case rest =>
  obtain ⟨F0, G0, l0, q0, n0, hn0, hl0, hE⟩ := hcut
  go_wp2_with fail
  go_loopw [8] (fun i wr => ∃ (k n : Nat) (F G : Nat → Prop) (l : List OneR) (q : Cnt), k ≤ xs.length ∧ k ≤ 150 ∧ n ≤ k + 1 ∧ LOk l (k + 1) ∧ i = .int .i64 k ∧ Env w [boxI B (bv q), refI u G l, wbox p c, cellI c F (getL l) q n] wr) (fun i _ => xs.length - (intOf i).toNat)
  case atStart => exact ⟨0, n0, F0, G0, l0, q0, by omega, by omega, by omega, hl0, rfl, hE⟩
  case round =>
    clear hE hl0
    obtain ⟨k, n, F, G, l, q, hk, hk1, hn, hl, rfl, hEr⟩ := hrel
    have HL := Lib.hid hl
    clear hl
    by_cases hlt : k < xs.length ∧ k < 150
    · obtain ⟨hlt, hlt1⟩ := hlt
      have hb1 : decide ((k : Int) < xs.length) = true := by simp; omega
      have hb2 : decide ((k : Int) < 150) = true := by simp; omega
      have hl6 : l.length ≤ 1000000 := by have := HL.out.len; omega
      have hnm : n < maxLen := HM.out _ (by omega)
      rcases HR.out with hz0 | ⟨blk, off, rfl, hbw, hc⟩
      · rw [hz0] at hlt; simp at hlt
      have hok : OkActW (xs.getD k default) := HZ.out _ (by simp [hlt])
      have hat := (hc k hlt).below hEr.below hbw
      clear hc
      generalize xs.getD k default = r at *
      obtain ⟨kd, x, y, z, d, ow, oi, os, vw, vi, vs⟩ := r
      obtain ⟨_, wx, wy, wz, _, how, _, hvw, _⟩ := hok
      simp only at wx wy wz how hvw
      have HX := Lib.hid (show Wf (x, y, z) from ⟨wx, wy, wz⟩)
      have HW := Lib.hid hvw
      clear wx wy wz how hvw
      obtain ⟨c0, c1', c2', c3, c4, c5, c6, c7, c8, c9, c10⟩ := at_ActW hat
      clear hat
      have hE := (hEr.box wr.heap.size rfl [.int .i64 kd, .int .i64 x, .int .i64 y, .int .i64 z, .int .i64 d, .int .u64 ow, .int .i64 oi, .bool os, .int .u64 vw, .int .i64 vi, .bool vs] 42).box (wr.heap.size + 1) (by simp) [.int .i64 x, .int .i64 y, .int .i64 z] 35
      go_wp2_with fail
      refine (refGet_any x y z hl6 (hE.ref 3 rfl)).mono ?_
      rintro e w1 ⟨rfl, hb⟩
      replace hE := hE.over hb
      clear hb c0 c1' c2' c3 c4 c5 c6 c7 c8 c9 c10 hEr
      generalize wr.heap.size + 1 = P at *
      generalize wr.heap.size = X at *
      have rP := hE.rule 0 rfl
      have rX := hE.rule 1 rfl
      have rB := hE.rule 2 rfl
      unfold bv at rB
      have zB : ∀ i, i < 5 → w1.frozen? ⟨B, i, none⟩ = false := fun i hi => hE.thaw 2 rfl i hi
      have z0 := zB 0 (by omega)
      have z1 := zB 1 (by omega)
      have z2 := zB 2 (by omega)
      have z3 := zB 3 (by omega)
      have z4 := zB 4 (by omega)
      have hXB : ¬ X = B := hE.off (i := 1) (j := 2) rfl rfl (by decide) X rfl
      have hPB : ¬ P = B := hE.off (i := 0) (j := 2) rfl rfl (by decide) P rfl
      have hBX : ¬ B = X := fun e => hXB e.symm
      have hBP : ¬ B = P := fun e => hPB e.symm
      clear zB
      obtain ⟨was, hwas⟩ : ∃ v, getL l (x, y, z) = v := ⟨_, rfl⟩
      rw [hwas]
      have HWas := Lib.hid hwas
      clear hwas
      by_cases h1 : kd = 1
      · subst h1
        go_wp2_with fail
        replace hE := hE.put 2 rfl (j := 0) (by simp [bv]) (.int .i64 (wrap64 (q.l + 1)))
        simp only [List.set_cons_succ, List.set_cons_zero] at hE
        clear rB z0 z1 z2 z3 z4 rP rX
        generalize w1.setCell _ _ = w2 at *
        refine (load_w x y z d HX.out 4 5 (by decide) hE rfl rfl).mono ?_
        rintro e w3 ⟨rfl, hE⟩
        simp only [List.set_cons_succ, List.set_cons_zero] at hE
        rw [HWas.out]
        obtain ⟨F1, G1, l1, q1, n1, hn1, hl1, hE⟩ : ∃ F1 G1 l1 q1 n1, n1 ≤ k + 2 ∧ LOk l1 (k + 2) ∧ Env w [boxI P [.int .i64 x, .int .i64 y, .int .i64 z], boxI X [.int .i64 1, .int .i64 x, .int .i64 y, .int .i64 z, .int .i64 d, .int .u64 ow, .int .i64 oi, .bool os, .int .u64 vw, .int .i64 vi, .bool vs], boxI B (bv q1), refI u G1 l1, wbox p c, cellI c F1 (getL l1) q1 n1] w3 := ⟨F, G, l, { q with l := wrap64 (q.l + 1) }, n, by omega, HL.out.more, hE⟩
        go_wp2_with fail
        have HL := Lib.hid hl1
        have HN := Lib.hid hn1
        clear hl1 hn1
        refine Ord.wp_chain [] (fun w' => Env w [boxI P [.int .i64 x, .int .i64 y, .int .i64 z], boxI X [.int .i64 1, .int .i64 x, .int .i64 y, .int .i64 z, .int .i64 d, .int .u64 ow, .int .i64 oi, .bool os, .int .u64 vw, .int .i64 vi, .bool vs], boxI B (bv q1), refI u G1 l1, wbox p c, cellI c F1 (getL l1) q1 n1] w') (fun _ _ => True) (by kernel_rfl) (by kernel_rfl) (by kernel_rfl) hE.drew trivial (fun hT => ?_)
        have hT9 := Lib.hid hT
        clear hT
        repeat (first
          | (refine Ord.ch_value (v := ?_) hT9.out (by decide) (by rfl) ?_ ?_; rotate_left; (focus (intro w5 hS; have rP := hS.rule 0 rfl; have rB := hS.rule 2 rfl; unfold bv at rB; go_simp <;> with_reducible rfl)); (try simp only [Act.put, List.setIfInBounds_toArray, List.set_cons_zero, List.set_cons_succ]))
          | (refine Ord.ch_off hT9.out (by decide) (by rfl) ?_; (try simp only [Act.put, List.setIfInBounds_toArray, List.set_cons_zero, List.set_cons_succ]))
          | (refine Ord.ch_call (v := ?_) (f := ?_) (args := ?_) hT9.out (by decide) (by rfl) ?_ ?_ ?_; rotate_left 3; (focus (intro w5 hS; have rP := hS.rule 0 rfl; have rB := hS.rule 2 rfl; unfold bv at rB; go_simp; constructor <;> with_reducible rfl)); (focus (intro w5 hS; (first | (with_reducible refine (peek_w x y z HX.out 4 5 hS rfl rfl).mono ?_; rintro e w6 ⟨rfl, hb5⟩; constructor; with_reducible rfl; exact ⟨hS.over hb5, fun _ h => h⟩) | (with_reducible refine (refGet_any x y z (by have := HL.out.len; omega) (hS.ref 3 rfl)).mono ?_; rintro e w6 ⟨rfl, hb5⟩; constructor; with_reducible rfl; exact ⟨hS.over hb5, fun _ h => h⟩) | (with_reducible refine (count_w 4 5 hS rfl rfl).mono ?_; rintro e w6 ⟨rfl, hb5⟩; constructor; with_reducible rfl; exact ⟨hS.over hb5, fun _ h => h⟩)))); (try simp only [Act.put, List.setIfInBounds_toArray, List.set_cons_zero, List.set_cons_succ])))
        refine Ord.InText.nil fun w5 hS => ?_
        clear hT9
        obtain ⟨hE, hA9⟩ := Ord.chain_end hS
        clear hS
        clear hA9
        go_wp2_with fail
        exact ⟨⟨k + 1, n1, F1, G1, l1, q1, by omega, by omega, HN.out, HL.out, by simp, hE.sub (.cons _ (.cons _ (List.Sublist.refl _)))⟩, by simp [intOf]; omega⟩
      by_cases h2 : kd = 2
      · subst h2
        go_wp2_with fail
        replace hE := hE.put 2 rfl (j := 1) (by simp [bv]) (.int .i64 (wrap64 (q.s + 1)))
        simp only [List.set_cons_succ, List.set_cons_zero] at hE
        clear rB z0 z1 z2 z3 z4 rP rX
        generalize w1.setCell _ _ = w2 at *
        refine (store_w x y z d vw vi vs HX.out HW.out hnm 4 5 (by decide) hE rfl rfl).mono ?_
        rintro e w3 ⟨rfl, F3, hE⟩
        simp only [List.set_cons_succ, List.set_cons_zero] at hE
        have rP := hE.rule 0 rfl
        have rX := hE.rule 1 rfl
        go_wp2_with fail
        refine (refSet_any x y z vw hl6 (hE.ref 3 rfl)).mono ?_
        rintro e w4 ⟨rfl, G4, hU, hs⟩
        replace hE := hE.turnU 3 rfl hU hs
        simp only [List.set_cons_succ, List.set_cons_zero] at hE
        rw [← getL_set] at hE
        clear hU hs rP rX
        obtain ⟨F1, G1, l1, q1, n1, hn1, hl1, hE⟩ : ∃ F1 G1 l1 q1 n1, n1 ≤ k + 2 ∧ LOk l1 (k + 2) ∧ Env w [boxI P [.int .i64 x, .int .i64 y, .int .i64 z], boxI X [.int .i64 2, .int .i64 x, .int .i64 y, .int .i64 z, .int .i64 d, .int .u64 ow, .int .i64 oi, .bool os, .int .u64 vw, .int .i64 vi, .bool vs], boxI B (bv q1), refI u G1 l1, wbox p c, cellI c F1 (getL l1) q1 n1] w4 := ⟨F3, G4, setL l (x, y, z) vw, { q with s := wrap64 (q.s + 1) }, n + 1, by omega, HL.out.set _ _, hE⟩
        go_wp2_with fail
        have HL := Lib.hid hl1
        have HN := Lib.hid hn1
        clear hl1 hn1
        refine Ord.wp_chain [] (fun w' => Env w [boxI P [.int .i64 x, .int .i64 y, .int .i64 z], boxI X [.int .i64 2, .int .i64 x, .int .i64 y, .int .i64 z, .int .i64 d, .int .u64 ow, .int .i64 oi, .bool os, .int .u64 vw, .int .i64 vi, .bool vs], boxI B (bv q1), refI u G1 l1, wbox p c, cellI c F1 (getL l1) q1 n1] w') (fun _ _ => True) (by kernel_rfl) (by kernel_rfl) (by kernel_rfl) hE.drew trivial (fun hT => ?_)
        have hT9 := Lib.hid hT
        clear hT
        repeat (first
          | (refine Ord.ch_value (v := ?_) hT9.out (by decide) (by rfl) ?_ ?_; rotate_left; (focus (intro w5 hS; have rP := hS.rule 0 rfl; have rB := hS.rule 2 rfl; unfold bv at rB; go_simp <;> with_reducible rfl)); (try simp only [Act.put, List.setIfInBounds_toArray, List.set_cons_zero, List.set_cons_succ]))
          | (refine Ord.ch_off hT9.out (by decide) (by rfl) ?_; (try simp only [Act.put, List.setIfInBounds_toArray, List.set_cons_zero, List.set_cons_succ]))
          | (refine Ord.ch_call (v := ?_) (f := ?_) (args := ?_) hT9.out (by decide) (by rfl) ?_ ?_ ?_; rotate_left 3; (focus (intro w5 hS; have rP := hS.rule 0 rfl; have rB := hS.rule 2 rfl; unfold bv at rB; go_simp; constructor <;> with_reducible rfl)); (focus (intro w5 hS; (first | (with_reducible refine (peek_w x y z HX.out 4 5 hS rfl rfl).mono ?_; rintro e w6 ⟨rfl, hb5⟩; constructor; with_reducible rfl; exact ⟨hS.over hb5, fun _ h => h⟩) | (with_reducible refine (refGet_any x y z (by have := HL.out.len; omega) (hS.ref 3 rfl)).mono ?_; rintro e w6 ⟨rfl, hb5⟩; constructor; with_reducible rfl; exact ⟨hS.over hb5, fun _ h => h⟩) | (with_reducible refine (count_w 4 5 hS rfl rfl).mono ?_; rintro e w6 ⟨rfl, hb5⟩; constructor; with_reducible rfl; exact ⟨hS.over hb5, fun _ h => h⟩)))); (try simp only [Act.put, List.setIfInBounds_toArray, List.set_cons_zero, List.set_cons_succ])))
        refine Ord.InText.nil fun w5 hS => ?_
        clear hT9
        obtain ⟨hE, hA9⟩ := Ord.chain_end hS
        clear hS
        clear hA9
        go_wp2_with fail
        exact ⟨⟨k + 1, n1, F1, G1, l1, q1, by omega, by omega, HN.out, HL.out, by simp, hE.sub (.cons _ (.cons _ (List.Sublist.refl _)))⟩, by simp [intOf]; omega⟩
      by_cases h5 : kd = 5
      · subst h5
        go_wp2_with fail
        replace hE := hE.put 2 rfl (j := 4) (by simp [bv]) (.int .i64 (wrap64 (q.a + 1)))
        simp only [List.set_cons_succ, List.set_cons_zero] at hE
        clear rB z0 z1 z2 z3 z4 rP rX
        generalize w1.setCell _ _ = w2 at *
        refine (refSet_any x y z (IntKind.u64.wrap (was + vw)) hl6 (hE.ref 3 rfl)).mono ?_
        rintro e w3 ⟨rfl, G4, hU, hs⟩
        replace hE := hE.turnU 3 rfl hU hs
        simp only [List.set_cons_succ, List.set_cons_zero] at hE
        clear hU hs
        have rP := hE.rule 0 rfl
        have rX := hE.rule 1 rfl
        go_wp2_with fail
        refine (add_w x y z d vw HX.out hnm 4 5 (by decide) hE rfl rfl).mono ?_
        rintro e w4 ⟨rfl, F4, hE⟩
        simp only [List.set_cons_succ, List.set_cons_zero] at hE
        rw [HWas.out] at hE ⊢
        rw [← getL_set] at hE
        clear rP rX
        obtain ⟨F1, G1, l1, q1, n1, hn1, hl1, hE⟩ : ∃ F1 G1 l1 q1 n1, n1 ≤ k + 2 ∧ LOk l1 (k + 2) ∧ Env w [boxI P [.int .i64 x, .int .i64 y, .int .i64 z], boxI X [.int .i64 5, .int .i64 x, .int .i64 y, .int .i64 z, .int .i64 d, .int .u64 ow, .int .i64 oi, .bool os, .int .u64 vw, .int .i64 vi, .bool vs], boxI B (bv q1), refI u G1 l1, wbox p c, cellI c F1 (getL l1) q1 n1] w4 := ⟨F4, G4, _, { q with a := wrap64 (q.a + 1) }, n + 1, by omega, HL.out.set _ _, hE⟩
        go_wp2_with fail
        have HL := Lib.hid hl1
        have HN := Lib.hid hn1
        clear hl1 hn1
        refine Ord.wp_chain [] (fun w' => Env w [boxI P [.int .i64 x, .int .i64 y, .int .i64 z], boxI X [.int .i64 5, .int .i64 x, .int .i64 y, .int .i64 z, .int .i64 d, .int .u64 ow, .int .i64 oi, .bool os, .int .u64 vw, .int .i64 vi, .bool vs], boxI B (bv q1), refI u G1 l1, wbox p c, cellI c F1 (getL l1) q1 n1] w') (fun _ _ => True) (by kernel_rfl) (by kernel_rfl) (by kernel_rfl) hE.drew trivial (fun hT => ?_)
        have hT9 := Lib.hid hT
        clear hT
        repeat (first
          | (refine Ord.ch_value (v := ?_) hT9.out (by decide) (by rfl) ?_ ?_; rotate_left; (focus (intro w5 hS; have rP := hS.rule 0 rfl; have rB := hS.rule 2 rfl; unfold bv at rB; go_simp <;> with_reducible rfl)); (try simp only [Act.put, List.setIfInBounds_toArray, List.set_cons_zero, List.set_cons_succ]))
          | (refine Ord.ch_off hT9.out (by decide) (by rfl) ?_; (try simp only [Act.put, List.setIfInBounds_toArray, List.set_cons_zero, List.set_cons_succ]))
          | (refine Ord.ch_call (v := ?_) (f := ?_) (args := ?_) hT9.out (by decide) (by rfl) ?_ ?_ ?_; rotate_left 3; (focus (intro w5 hS; have rP := hS.rule 0 rfl; have rB := hS.rule 2 rfl; unfold bv at rB; go_simp; constructor <;> with_reducible rfl)); (focus (intro w5 hS; (first | (with_reducible refine (peek_w x y z HX.out 4 5 hS rfl rfl).mono ?_; rintro e w6 ⟨rfl, hb5⟩; constructor; with_reducible rfl; exact ⟨hS.over hb5, fun _ h => h⟩) | (with_reducible refine (refGet_any x y z (by have := HL.out.len; omega) (hS.ref 3 rfl)).mono ?_; rintro e w6 ⟨rfl, hb5⟩; constructor; with_reducible rfl; exact ⟨hS.over hb5, fun _ h => h⟩) | (with_reducible refine (count_w 4 5 hS rfl rfl).mono ?_; rintro e w6 ⟨rfl, hb5⟩; constructor; with_reducible rfl; exact ⟨hS.over hb5, fun _ h => h⟩)))); (try simp only [Act.put, List.setIfInBounds_toArray, List.set_cons_zero, List.set_cons_succ])))
        refine Ord.InText.nil fun w5 hS => ?_
        clear hT9
        obtain ⟨hE, hA9⟩ := Ord.chain_end hS
        clear hS
        clear hA9
        go_wp2_with fail
        exact ⟨⟨k + 1, n1, F1, G1, l1, q1, by omega, by omega, HN.out, HL.out, by simp, hE.sub (.cons _ (.cons _ (List.Sublist.refl _)))⟩, by simp [intOf]; omega⟩
      by_cases h6 : kd = 6
      · subst h6
        go_wp2_with fail
        refine (born_w _ _ _).mono ?_
        rintro e w4 ⟨rfl, rfl⟩
        clear rB z0 z1 z2 z3 z4 rP rX
        obtain ⟨F1, G1, l1, q1, n1, hn1, hl1, hE⟩ : ∃ F1 G1 l1 q1 n1, n1 ≤ k + 2 ∧ LOk l1 (k + 2) ∧ Env w [boxI P [.int .i64 x, .int .i64 y, .int .i64 z], boxI X [.int .i64 6, .int .i64 x, .int .i64 y, .int .i64 z, .int .i64 d, .int .u64 ow, .int .i64 oi, .bool os, .int .u64 vw, .int .i64 vi, .bool vs], boxI B (bv q1), refI u G1 l1, wbox p c, cellI c F1 (getL l1) q1 n1] _ := ⟨F, G, l, q, n, by omega, HL.out.more, hE⟩
        go_wp2_with fail
        have HL := Lib.hid hl1
        have HN := Lib.hid hn1
        clear hl1 hn1
        refine Ord.wp_chain [] (fun w' => Env w [boxI P [.int .i64 x, .int .i64 y, .int .i64 z], boxI X [.int .i64 6, .int .i64 x, .int .i64 y, .int .i64 z, .int .i64 d, .int .u64 ow, .int .i64 oi, .bool os, .int .u64 vw, .int .i64 vi, .bool vs], boxI B (bv q1), refI u G1 l1, wbox p c, cellI c F1 (getL l1) q1 n1] w') (fun _ _ => True) (by kernel_rfl) (by kernel_rfl) (by kernel_rfl) hE.drew trivial (fun hT => ?_)
        have hT9 := Lib.hid hT
        clear hT
        repeat (first
          | (refine Ord.ch_value (v := ?_) hT9.out (by decide) (by rfl) ?_ ?_; rotate_left; (focus (intro w5 hS; have rP := hS.rule 0 rfl; have rB := hS.rule 2 rfl; unfold bv at rB; go_simp <;> with_reducible rfl)); (try simp only [Act.put, List.setIfInBounds_toArray, List.set_cons_zero, List.set_cons_succ]))
          | (refine Ord.ch_off hT9.out (by decide) (by rfl) ?_; (try simp only [Act.put, List.setIfInBounds_toArray, List.set_cons_zero, List.set_cons_succ]))
          | (refine Ord.ch_call (v := ?_) (f := ?_) (args := ?_) hT9.out (by decide) (by rfl) ?_ ?_ ?_; rotate_left 3; (focus (intro w5 hS; have rP := hS.rule 0 rfl; have rB := hS.rule 2 rfl; unfold bv at rB; go_simp; constructor <;> with_reducible rfl)); (focus (intro w5 hS; (first | (with_reducible refine (peek_w x y z HX.out 4 5 hS rfl rfl).mono ?_; rintro e w6 ⟨rfl, hb5⟩; constructor; with_reducible rfl; exact ⟨hS.over hb5, fun _ h => h⟩) | (with_reducible refine (refGet_any x y z (by have := HL.out.len; omega) (hS.ref 3 rfl)).mono ?_; rintro e w6 ⟨rfl, hb5⟩; constructor; with_reducible rfl; exact ⟨hS.over hb5, fun _ h => h⟩) | (with_reducible refine (count_w 4 5 hS rfl rfl).mono ?_; rintro e w6 ⟨rfl, hb5⟩; constructor; with_reducible rfl; exact ⟨hS.over hb5, fun _ h => h⟩)))); (try simp only [Act.put, List.setIfInBounds_toArray, List.set_cons_zero, List.set_cons_succ])))
        refine Ord.InText.nil fun w5 hS => ?_
        clear hT9
        obtain ⟨hE, hA9⟩ := Ord.chain_end hS
        clear hS
        clear hA9
        go_wp2_with fail
        exact ⟨⟨k + 1, n1, F1, G1, l1, q1, by omega, by omega, HN.out, HL.out, by simp, hE.sub (.cons _ (.cons _ (List.Sublist.refl _)))⟩, by simp [intOf]; omega⟩
      by_cases h3 : kd = 3
      · subst h3
        have rO : ∀ o i, (w1.alloc o).cell? ⟨B, i, none⟩ = [Value.int .i64 q.l, .int .i64 q.s, .int .i64 q.w, .int .i64 q.f, .int .i64 q.a][i]? := fun o => cell_more (hE.boxLt 2 rfl) rB o
        have rOX : ∀ o i, (w1.alloc o).cell? ⟨X, i, none⟩ = [Value.int .i64 3, .int .i64 x, .int .i64 y, .int .i64 z, .int .i64 d, .int .u64 ow, .int .i64 oi, .bool os, .int .u64 vw, .int .i64 vi, .bool vs][i]? := fun o => cell_more (hE.boxLt 1 rfl) rX o
        have hBl := hE.boxLt 2 rfl
        have hXl := hE.boxLt 1 rfl
        have hO1 : ¬ B = w1.heap.size := by omega
        have hO2 : ¬ w1.heap.size = B := by omega
        have hO3 : ¬ X = w1.heap.size := by omega
        have hO4 : ¬ w1.heap.size = X := by omega
        by_cases hw : ow = was
        · subst hw
          go_wp2_with fail
          replace hE := (hE.put 2 rfl (j := 2) (by simp [bv]) (.int .i64 (wrap64 (q.w + 1)))).box w1.heap.size (by simp [World.setCell]) [.int .u64 ow, .int .i64 oi, .bool os] 40
          simp only [List.set_cons_succ, List.set_cons_zero] at hE
          have HD := Lib.hid (show decide (getL l (x, y, z) = ow) = true by simp [HWas.out])
          clear rB z0 z1 z2 z3 z4 rP rX rO rOX hO1 hO2 hO3 hO4
          generalize w1.heap.size = O at *
          replace hE : Env w [boxI O [.int .u64 ow, .int .i64 oi, .bool os], boxI P [.int .i64 x, .int .i64 y, .int .i64 z], boxI X [.int .i64 3, .int .i64 x, .int .i64 y, .int .i64 z, .int .i64 d, .int .u64 ow, .int .i64 oi, .bool os, .int .u64 vw, .int .i64 vi, .bool vs], boxI B (bv (swq q true)), refI u G l, wbox p c, cellI c F (getL l) q n] _ := hE
          generalize World.alloc _ _ = w2 at *
          refine Ord.wp_chain [6, 14] (fun w' => Blk 0 w' O [.int .u64 ow, .int .i64 oi, .bool os] ∧ Blk 0 w' P [.int .i64 x, .int .i64 y, .int .i64 z] ∧ Blk 0 w' X [.int .i64 3, .int .i64 x, .int .i64 y, .int .i64 z, .int .i64 d, .int .u64 ow, .int .i64 oi, .bool os, .int .u64 vw, .int .i64 vi, .bool vs]) (Stage [Env w [boxI O [.int .u64 ow, .int .i64 oi, .bool os], boxI P [.int .i64 x, .int .i64 y, .int .i64 z], boxI X [.int .i64 3, .int .i64 x, .int .i64 y, .int .i64 z, .int .i64 d, .int .u64 ow, .int .i64 oi, .bool os, .int .u64 vw, .int .i64 vi, .bool vs], boxI B (bv (swq q true)), refI u G l, wbox p c, cellI c F (getL l) q n], fun w' => ∃ F6, Env w [boxI O [.int .u64 ow, .int .i64 oi, .bool os], boxI P [.int .i64 x, .int .i64 y, .int .i64 z], boxI X [.int .i64 3, .int .i64 x, .int .i64 y, .int .i64 z, .int .i64 d, .int .u64 ow, .int .i64 oi, .bool os, .int .u64 vw, .int .i64 vi, .bool vs], boxI B (bv (swq q true)), refI u G l, wbox p c, cellI c F6 (swf (getL l) (x, y, z) ow vw) (swq q true) (n + 1)] w', fun w' => ∃ F6 G6, Env w [boxI O [.int .u64 ow, .int .i64 oi, .bool os], boxI P [.int .i64 x, .int .i64 y, .int .i64 z], boxI X [.int .i64 3, .int .i64 x, .int .i64 y, .int .i64 z, .int .i64 d, .int .u64 ow, .int .i64 oi, .bool os, .int .u64 vw, .int .i64 vi, .bool vs], boxI B (bv (swq q true)), refI u G6 (swL l (x, y, z) ow vw), wbox p c, cellI c F6 (swf (getL l) (x, y, z) ow vw) (swq q true) (n + 1)] w']) (by kernel_rfl) (by kernel_rfl) (by kernel_rfl) ⟨hE.drew.get 0 rfl, hE.drew.get 1 rfl, hE.drew.get 2 rfl⟩ ⟨_, rfl, hE.drew⟩ (fun hT => ?_)
          have hT9 := Lib.hid hT
          clear hT
          repeat (first
            | (refine Ord.ch_value (v := ?_) hT9.out (by decide) (by rfl) ?_ ?_; rotate_left; (focus (intro w5 hS; have r0 := hS.1.rule; have r1 := hS.2.1.rule; have r2 := hS.2.2.rule; go_simp <;> with_reducible rfl)); (try simp only [Act.put, List.setIfInBounds_toArray, List.set_cons_zero, List.set_cons_succ]))
            | (refine Ord.ch_off hT9.out (by decide) (by rfl) ?_; (try simp only [Act.put, List.setIfInBounds_toArray, List.set_cons_zero, List.set_cons_succ])))
          refine Ord.ch_turn (v := .bool true) 0 hT9.out rfl (by decide) (Or.inl rfl) (by rfl) ?_ ?_
          · rintro w5 hC5 ⟨P5, hP5, hA5⟩
            cases hP5
            skip
            go_simp
            simp only [Ord.LandsIn]
            refine (swap_w x y z d ow oi vw vi os vs HX.out HW.out hnm 5 6 (by decide) hA5 rfl rfl).mono ?_
            rintro e w6 ⟨rfl, F6, hE6⟩; rw [HD.out] at hE6 ⊢; exact ⟨rfl, ⟨hE6.get 0 rfl, hE6.get 1 rfl, hE6.get 2 rfl⟩, _, rfl, F6, hE6⟩
          (try simp only [Act.put, List.setIfInBounds_toArray, List.set_cons_zero, List.set_cons_succ])
          repeat (first
            | (refine Ord.ch_value (v := ?_) hT9.out (by decide) (by rfl) ?_ ?_; rotate_left; (focus (intro w5 hS; have r0 := hS.1.rule; have r1 := hS.2.1.rule; have r2 := hS.2.2.rule; go_simp <;> with_reducible rfl)); (try simp only [Act.put, List.setIfInBounds_toArray, List.set_cons_zero, List.set_cons_succ]))
            | (refine Ord.ch_off hT9.out (by decide) (by rfl) ?_; (try simp only [Act.put, List.setIfInBounds_toArray, List.set_cons_zero, List.set_cons_succ])))
          refine Ord.ch_turn (v := .bool true) 1 hT9.out rfl (by decide) (Or.inr ⟨_, rfl, by kernel_rfl⟩) (by rfl) ?_ ?_
          · rintro w5 hC5 ⟨P5, hP5, hA5⟩
            cases hP5
            obtain ⟨F5, hA5⟩ := hA5
            go_simp
            simp only [Ord.LandsIn]
            refine (refSwap_any x y z ow vw hl6 (hA5.ref 4 rfl)).mono ?_
            rintro e w6 ⟨rfl, G6, hU, hs⟩; rw [HD.out]; have hE6 := hA5.turnU 4 rfl hU hs; exact ⟨rfl, ⟨hE6.get 0 rfl, hE6.get 1 rfl, hE6.get 2 rfl⟩, _, rfl, F5, G6, hE6⟩
          (try simp only [Act.put, List.setIfInBounds_toArray, List.set_cons_zero, List.set_cons_succ])
          repeat (first
            | (refine Ord.ch_value (v := ?_) hT9.out (by decide) (by rfl) ?_ ?_; rotate_left; (focus (intro w5 hS; skip; go_simp <;> with_reducible rfl)); (try simp only [Act.put, List.setIfInBounds_toArray, List.set_cons_zero, List.set_cons_succ]))
            | (refine Ord.ch_off hT9.out (by decide) (by rfl) ?_; (try simp only [Act.put, List.setIfInBounds_toArray, List.set_cons_zero, List.set_cons_succ])))
          refine Ord.InText.nil fun w5 hS => ?_
          clear hT9
          obtain ⟨hC9, hA9⟩ := Ord.chain_end hS
          clear hS
          clear hC9 hE
          obtain ⟨P9, hP9, hA9⟩ := hA9
          cases hP9
          obtain ⟨F9, G9, hA9⟩ := hA9
          rw [swf_getL] at hA9
          obtain ⟨F1, G1, l1, q1, n1, hn1, hl1, hE⟩ : ∃ F1 G1 l1 q1 n1, n1 ≤ k + 2 ∧ LOk l1 (k + 2) ∧ Env w [boxI P [.int .i64 x, .int .i64 y, .int .i64 z], boxI X [.int .i64 3, .int .i64 x, .int .i64 y, .int .i64 z, .int .i64 d, .int .u64 ow, .int .i64 oi, .bool os, .int .u64 vw, .int .i64 vi, .bool vs], boxI B (bv q1), refI u G1 l1, wbox p c, cellI c F1 (getL l1) q1 n1] w5 := ⟨F9, G9, _, swq q true, n + 1, by omega, HL.out.sw _ _ _, hA9.sub (.cons _ (List.Sublist.refl _))⟩
          clear hA9
          go_wp2_with fail
          have HL := Lib.hid hl1
          have HN := Lib.hid hn1
          clear hl1 hn1
          refine Ord.wp_chain [] (fun w' => Env w [boxI P [.int .i64 x, .int .i64 y, .int .i64 z], boxI X [.int .i64 3, .int .i64 x, .int .i64 y, .int .i64 z, .int .i64 d, .int .u64 ow, .int .i64 oi, .bool os, .int .u64 vw, .int .i64 vi, .bool vs], boxI B (bv q1), refI u G1 l1, wbox p c, cellI c F1 (getL l1) q1 n1] w') (fun _ _ => True) (by kernel_rfl) (by kernel_rfl) (by kernel_rfl) hE.drew trivial (fun hT => ?_)
          have hT9 := Lib.hid hT
          clear hT
          repeat (first
            | (refine Ord.ch_value (v := ?_) hT9.out (by decide) (by rfl) ?_ ?_; rotate_left; (focus (intro w5 hS; have rP := hS.rule 0 rfl; have rB := hS.rule 2 rfl; unfold bv at rB; go_simp <;> with_reducible rfl)); (try simp only [Act.put, List.setIfInBounds_toArray, List.set_cons_zero, List.set_cons_succ]))
            | (refine Ord.ch_off hT9.out (by decide) (by rfl) ?_; (try simp only [Act.put, List.setIfInBounds_toArray, List.set_cons_zero, List.set_cons_succ]))
            | (refine Ord.ch_call (v := ?_) (f := ?_) (args := ?_) hT9.out (by decide) (by rfl) ?_ ?_ ?_; rotate_left 3; (focus (intro w5 hS; have rP := hS.rule 0 rfl; have rB := hS.rule 2 rfl; unfold bv at rB; go_simp; constructor <;> with_reducible rfl)); (focus (intro w5 hS; (first | (with_reducible refine (peek_w x y z HX.out 4 5 hS rfl rfl).mono ?_; rintro e w6 ⟨rfl, hb5⟩; constructor; with_reducible rfl; exact ⟨hS.over hb5, fun _ h => h⟩) | (with_reducible refine (refGet_any x y z (by have := HL.out.len; omega) (hS.ref 3 rfl)).mono ?_; rintro e w6 ⟨rfl, hb5⟩; constructor; with_reducible rfl; exact ⟨hS.over hb5, fun _ h => h⟩) | (with_reducible refine (count_w 4 5 hS rfl rfl).mono ?_; rintro e w6 ⟨rfl, hb5⟩; constructor; with_reducible rfl; exact ⟨hS.over hb5, fun _ h => h⟩)))); (try simp only [Act.put, List.setIfInBounds_toArray, List.set_cons_zero, List.set_cons_succ])))
          refine Ord.InText.nil fun w5 hS => ?_
          clear hT9
          obtain ⟨hE, hA9⟩ := Ord.chain_end hS
          clear hS
          clear hA9
          go_wp2_with fail
          exact ⟨⟨k + 1, n1, F1, G1, l1, q1, by omega, by omega, HN.out, HL.out, by simp, hE.sub (.cons _ (.cons _ (List.Sublist.refl _)))⟩, by simp [intOf]; omega⟩
        · have hw2 : (ow != was) = true := by simpa using hw
          go_wp2_with fail
          replace hE := ((hE.put 2 rfl (j := 2) (by simp [bv]) (.int .i64 (wrap64 (q.w + 1)))).put 2 rfl (j := 3) (by simp [bv]) (.int .i64 (wrap64 (q.f + 1)))).box w1.heap.size (by simp [World.setCell]) [.int .u64 ow, .int .i64 oi, .bool os] 40
          simp only [List.set_cons_succ, List.set_cons_zero] at hE
          have HD := Lib.hid (show decide (getL l (x, y, z) = ow) = false by rw [HWas.out]; simp; exact fun e => hw e.symm)
          clear rB z0 z1 z2 z3 z4 rP rX rO rOX hO1 hO2 hO3 hO4
          generalize w1.heap.size = O at *
          replace hE : Env w [boxI O [.int .u64 ow, .int .i64 oi, .bool os], boxI P [.int .i64 x, .int .i64 y, .int .i64 z], boxI X [.int .i64 3, .int .i64 x, .int .i64 y, .int .i64 z, .int .i64 d, .int .u64 ow, .int .i64 oi, .bool os, .int .u64 vw, .int .i64 vi, .bool vs], boxI B (bv (swq q false)), refI u G l, wbox p c, cellI c F (getL l) q n] _ := hE
          generalize World.alloc _ _ = w2 at *
          refine Ord.wp_chain [6, 14] (fun w' => Blk 0 w' O [.int .u64 ow, .int .i64 oi, .bool os] ∧ Blk 0 w' P [.int .i64 x, .int .i64 y, .int .i64 z] ∧ Blk 0 w' X [.int .i64 3, .int .i64 x, .int .i64 y, .int .i64 z, .int .i64 d, .int .u64 ow, .int .i64 oi, .bool os, .int .u64 vw, .int .i64 vi, .bool vs]) (Stage [Env w [boxI O [.int .u64 ow, .int .i64 oi, .bool os], boxI P [.int .i64 x, .int .i64 y, .int .i64 z], boxI X [.int .i64 3, .int .i64 x, .int .i64 y, .int .i64 z, .int .i64 d, .int .u64 ow, .int .i64 oi, .bool os, .int .u64 vw, .int .i64 vi, .bool vs], boxI B (bv (swq q false)), refI u G l, wbox p c, cellI c F (getL l) q n], fun w' => ∃ F6, Env w [boxI O [.int .u64 ow, .int .i64 oi, .bool os], boxI P [.int .i64 x, .int .i64 y, .int .i64 z], boxI X [.int .i64 3, .int .i64 x, .int .i64 y, .int .i64 z, .int .i64 d, .int .u64 ow, .int .i64 oi, .bool os, .int .u64 vw, .int .i64 vi, .bool vs], boxI B (bv (swq q false)), refI u G l, wbox p c, cellI c F6 (swf (getL l) (x, y, z) ow vw) (swq q false) (n + 1)] w', fun w' => ∃ F6 G6, Env w [boxI O [.int .u64 ow, .int .i64 oi, .bool os], boxI P [.int .i64 x, .int .i64 y, .int .i64 z], boxI X [.int .i64 3, .int .i64 x, .int .i64 y, .int .i64 z, .int .i64 d, .int .u64 ow, .int .i64 oi, .bool os, .int .u64 vw, .int .i64 vi, .bool vs], boxI B (bv (swq q false)), refI u G6 (swL l (x, y, z) ow vw), wbox p c, cellI c F6 (swf (getL l) (x, y, z) ow vw) (swq q false) (n + 1)] w']) (by kernel_rfl) (by kernel_rfl) (by kernel_rfl) ⟨hE.drew.get 0 rfl, hE.drew.get 1 rfl, hE.drew.get 2 rfl⟩ ⟨_, rfl, hE.drew⟩ (fun hT => ?_)
          have hT9 := Lib.hid hT
          clear hT
          repeat (first
            | (refine Ord.ch_value (v := ?_) hT9.out (by decide) (by rfl) ?_ ?_; rotate_left; (focus (intro w5 hS; have r0 := hS.1.rule; have r1 := hS.2.1.rule; have r2 := hS.2.2.rule; go_simp <;> with_reducible rfl)); (try simp only [Act.put, List.setIfInBounds_toArray, List.set_cons_zero, List.set_cons_succ]))
            | (refine Ord.ch_off hT9.out (by decide) (by rfl) ?_; (try simp only [Act.put, List.setIfInBounds_toArray, List.set_cons_zero, List.set_cons_succ])))
          refine Ord.ch_turn (v := .bool false) 0 hT9.out rfl (by decide) (Or.inl rfl) (by rfl) ?_ ?_
          · rintro w5 hC5 ⟨P5, hP5, hA5⟩
            cases hP5
            skip
            go_simp
            simp only [Ord.LandsIn]
            refine (swap_w x y z d ow oi vw vi os vs HX.out HW.out hnm 5 6 (by decide) hA5 rfl rfl).mono ?_
            rintro e w6 ⟨rfl, F6, hE6⟩; rw [HD.out] at hE6 ⊢; exact ⟨rfl, ⟨hE6.get 0 rfl, hE6.get 1 rfl, hE6.get 2 rfl⟩, _, rfl, F6, hE6⟩
          (try simp only [Act.put, List.setIfInBounds_toArray, List.set_cons_zero, List.set_cons_succ])
          repeat (first
            | (refine Ord.ch_value (v := ?_) hT9.out (by decide) (by rfl) ?_ ?_; rotate_left; (focus (intro w5 hS; have r0 := hS.1.rule; have r1 := hS.2.1.rule; have r2 := hS.2.2.rule; go_simp <;> with_reducible rfl)); (try simp only [Act.put, List.setIfInBounds_toArray, List.set_cons_zero, List.set_cons_succ]))
            | (refine Ord.ch_off hT9.out (by decide) (by rfl) ?_; (try simp only [Act.put, List.setIfInBounds_toArray, List.set_cons_zero, List.set_cons_succ])))
          refine Ord.ch_turn (v := .bool false) 1 hT9.out rfl (by decide) (Or.inr ⟨_, rfl, by kernel_rfl⟩) (by rfl) ?_ ?_
          · rintro w5 hC5 ⟨P5, hP5, hA5⟩
            cases hP5
            obtain ⟨F5, hA5⟩ := hA5
            go_simp
            simp only [Ord.LandsIn]
            refine (refSwap_any x y z ow vw hl6 (hA5.ref 4 rfl)).mono ?_
            rintro e w6 ⟨rfl, G6, hU, hs⟩; rw [HD.out]; have hE6 := hA5.turnU 4 rfl hU hs; exact ⟨rfl, ⟨hE6.get 0 rfl, hE6.get 1 rfl, hE6.get 2 rfl⟩, _, rfl, F5, G6, hE6⟩
          (try simp only [Act.put, List.setIfInBounds_toArray, List.set_cons_zero, List.set_cons_succ])
          repeat (first
            | (refine Ord.ch_value (v := ?_) hT9.out (by decide) (by rfl) ?_ ?_; rotate_left; (focus (intro w5 hS; skip; go_simp <;> with_reducible rfl)); (try simp only [Act.put, List.setIfInBounds_toArray, List.set_cons_zero, List.set_cons_succ]))
            | (refine Ord.ch_off hT9.out (by decide) (by rfl) ?_; (try simp only [Act.put, List.setIfInBounds_toArray, List.set_cons_zero, List.set_cons_succ])))
          refine Ord.InText.nil fun w5 hS => ?_
          clear hT9
          obtain ⟨hC9, hA9⟩ := Ord.chain_end hS
          clear hS
          clear hC9 hE
          obtain ⟨P9, hP9, hA9⟩ := hA9
          cases hP9
          obtain ⟨F9, G9, hA9⟩ := hA9
          rw [swf_getL] at hA9
          obtain ⟨F1, G1, l1, q1, n1, hn1, hl1, hE⟩ : ∃ F1 G1 l1 q1 n1, n1 ≤ k + 2 ∧ LOk l1 (k + 2) ∧ Env w [boxI P [.int .i64 x, .int .i64 y, .int .i64 z], boxI X [.int .i64 3, .int .i64 x, .int .i64 y, .int .i64 z, .int .i64 d, .int .u64 ow, .int .i64 oi, .bool os, .int .u64 vw, .int .i64 vi, .bool vs], boxI B (bv q1), refI u G1 l1, wbox p c, cellI c F1 (getL l1) q1 n1] w5 := ⟨F9, G9, _, swq q false, n + 1, by omega, HL.out.sw _ _ _, hA9.sub (.cons _ (List.Sublist.refl _))⟩
          clear hA9
          go_wp2_with fail
          have HL := Lib.hid hl1
          have HN := Lib.hid hn1
          clear hl1 hn1
          refine Ord.wp_chain [] (fun w' => Env w [boxI P [.int .i64 x, .int .i64 y, .int .i64 z], boxI X [.int .i64 3, .int .i64 x, .int .i64 y, .int .i64 z, .int .i64 d, .int .u64 ow, .int .i64 oi, .bool os, .int .u64 vw, .int .i64 vi, .bool vs], boxI B (bv q1), refI u G1 l1, wbox p c, cellI c F1 (getL l1) q1 n1] w') (fun _ _ => True) (by kernel_rfl) (by kernel_rfl) (by kernel_rfl) hE.drew trivial (fun hT => ?_)
          have hT9 := Lib.hid hT
          clear hT
          repeat (first
            | (refine Ord.ch_value (v := ?_) hT9.out (by decide) (by rfl) ?_ ?_; rotate_left; (focus (intro w5 hS; have rP := hS.rule 0 rfl; have rB := hS.rule 2 rfl; unfold bv at rB; go_simp <;> with_reducible rfl)); (try simp only [Act.put, List.setIfInBounds_toArray, List.set_cons_zero, List.set_cons_succ]))
            | (refine Ord.ch_off hT9.out (by decide) (by rfl) ?_; (try simp only [Act.put, List.setIfInBounds_toArray, List.set_cons_zero, List.set_cons_succ]))
            | (refine Ord.ch_call (v := ?_) (f := ?_) (args := ?_) hT9.out (by decide) (by rfl) ?_ ?_ ?_; rotate_left 3; (focus (intro w5 hS; have rP := hS.rule 0 rfl; have rB := hS.rule 2 rfl; unfold bv at rB; go_simp; constructor <;> with_reducible rfl)); (focus (intro w5 hS; (first | (with_reducible refine (peek_w x y z HX.out 4 5 hS rfl rfl).mono ?_; rintro e w6 ⟨rfl, hb5⟩; constructor; with_reducible rfl; exact ⟨hS.over hb5, fun _ h => h⟩) | (with_reducible refine (refGet_any x y z (by have := HL.out.len; omega) (hS.ref 3 rfl)).mono ?_; rintro e w6 ⟨rfl, hb5⟩; constructor; with_reducible rfl; exact ⟨hS.over hb5, fun _ h => h⟩) | (with_reducible refine (count_w 4 5 hS rfl rfl).mono ?_; rintro e w6 ⟨rfl, hb5⟩; constructor; with_reducible rfl; exact ⟨hS.over hb5, fun _ h => h⟩)))); (try simp only [Act.put, List.setIfInBounds_toArray, List.set_cons_zero, List.set_cons_succ])))
          refine Ord.InText.nil fun w5 hS => ?_
          clear hT9
          obtain ⟨hE, hA9⟩ := Ord.chain_end hS
          clear hS
          clear hA9
          go_wp2_with fail
          exact ⟨⟨k + 1, n1, F1, G1, l1, q1, by omega, by omega, HN.out, HL.out, by simp, hE.sub (.cons _ (.cons _ (List.Sublist.refl _)))⟩, by simp [intOf]; omega⟩
      by_cases h4 : kd = 4
      · subst h4
        have rO : ∀ o i, (w1.alloc o).cell? ⟨B, i, none⟩ = [Value.int .i64 q.l, .int .i64 q.s, .int .i64 q.w, .int .i64 q.f, .int .i64 q.a][i]? := fun o => cell_more (hE.boxLt 2 rfl) rB o
        have rOX : ∀ o i, (w1.alloc o).cell? ⟨X, i, none⟩ = [Value.int .i64 4, .int .i64 x, .int .i64 y, .int .i64 z, .int .i64 d, .int .u64 ow, .int .i64 oi, .bool os, .int .u64 vw, .int .i64 vi, .bool vs][i]? := fun o => cell_more (hE.boxLt 1 rfl) rX o
        have hBl := hE.boxLt 2 rfl
        have hXl := hE.boxLt 1 rfl
        have hO1 : ¬ B = w1.heap.size := by omega
        have hO2 : ¬ w1.heap.size = B := by omega
        have hO3 : ¬ X = w1.heap.size := by omega
        have hO4 : ¬ w1.heap.size = X := by omega
        go_wp2_with fail
        replace hE := (hE.put 2 rfl (j := 2) (by simp [bv]) (.int .i64 (wrap64 (q.w + 1)))).box w1.heap.size (by simp [World.setCell]) [.int .u64 was, .int .i64 oi, .bool os] 40
        simp only [List.set_cons_succ, List.set_cons_zero] at hE
        have HD := Lib.hid (show decide (getL l (x, y, z) = was) = true by simp [HWas.out])
        clear rB z0 z1 z2 z3 z4 rP rX rO rOX hO1 hO2 hO3 hO4
        generalize w1.heap.size = O at *
        replace hE : Env w [boxI O [.int .u64 was, .int .i64 oi, .bool os], boxI P [.int .i64 x, .int .i64 y, .int .i64 z], boxI X [.int .i64 4, .int .i64 x, .int .i64 y, .int .i64 z, .int .i64 d, .int .u64 ow, .int .i64 oi, .bool os, .int .u64 vw, .int .i64 vi, .bool vs], boxI B (bv (swq q true)), refI u G l, wbox p c, cellI c F (getL l) q n] _ := hE
        generalize World.alloc _ _ = w2 at *
        refine Ord.wp_chain [6, 14] (fun w' => Blk 0 w' O [.int .u64 was, .int .i64 oi, .bool os] ∧ Blk 0 w' P [.int .i64 x, .int .i64 y, .int .i64 z] ∧ Blk 0 w' X [.int .i64 4, .int .i64 x, .int .i64 y, .int .i64 z, .int .i64 d, .int .u64 ow, .int .i64 oi, .bool os, .int .u64 vw, .int .i64 vi, .bool vs]) (Stage [Env w [boxI O [.int .u64 was, .int .i64 oi, .bool os], boxI P [.int .i64 x, .int .i64 y, .int .i64 z], boxI X [.int .i64 4, .int .i64 x, .int .i64 y, .int .i64 z, .int .i64 d, .int .u64 ow, .int .i64 oi, .bool os, .int .u64 vw, .int .i64 vi, .bool vs], boxI B (bv (swq q true)), refI u G l, wbox p c, cellI c F (getL l) q n], fun w' => ∃ F6, Env w [boxI O [.int .u64 was, .int .i64 oi, .bool os], boxI P [.int .i64 x, .int .i64 y, .int .i64 z], boxI X [.int .i64 4, .int .i64 x, .int .i64 y, .int .i64 z, .int .i64 d, .int .u64 ow, .int .i64 oi, .bool os, .int .u64 vw, .int .i64 vi, .bool vs], boxI B (bv (swq q true)), refI u G l, wbox p c, cellI c F6 (swf (getL l) (x, y, z) was vw) (swq q true) (n + 1)] w', fun w' => ∃ F6 G6, Env w [boxI O [.int .u64 was, .int .i64 oi, .bool os], boxI P [.int .i64 x, .int .i64 y, .int .i64 z], boxI X [.int .i64 4, .int .i64 x, .int .i64 y, .int .i64 z, .int .i64 d, .int .u64 ow, .int .i64 oi, .bool os, .int .u64 vw, .int .i64 vi, .bool vs], boxI B (bv (swq q true)), refI u G6 (swL l (x, y, z) was vw), wbox p c, cellI c F6 (swf (getL l) (x, y, z) was vw) (swq q true) (n + 1)] w']) (by kernel_rfl) (by kernel_rfl) (by kernel_rfl) ⟨hE.drew.get 0 rfl, hE.drew.get 1 rfl, hE.drew.get 2 rfl⟩ ⟨_, rfl, hE.drew⟩ (fun hT => ?_)
        have hT9 := Lib.hid hT
        clear hT
        repeat (first
          | (refine Ord.ch_value (v := ?_) hT9.out (by decide) (by rfl) ?_ ?_; rotate_left; (focus (intro w5 hS; have r0 := hS.1.rule; have r1 := hS.2.1.rule; have r2 := hS.2.2.rule; go_simp <;> with_reducible rfl)); (try simp only [Act.put, List.setIfInBounds_toArray, List.set_cons_zero, List.set_cons_succ]))
          | (refine Ord.ch_off hT9.out (by decide) (by rfl) ?_; (try simp only [Act.put, List.setIfInBounds_toArray, List.set_cons_zero, List.set_cons_succ])))
        refine Ord.ch_turn (v := .bool true) 0 hT9.out rfl (by decide) (Or.inl rfl) (by rfl) ?_ ?_
        · rintro w5 hC5 ⟨P5, hP5, hA5⟩
          cases hP5
          skip
          go_simp
          simp only [Ord.LandsIn]
          refine (swap_w x y z d was oi vw vi os vs HX.out HW.out hnm 5 6 (by decide) hA5 rfl rfl).mono ?_
          rintro e w6 ⟨rfl, F6, hE6⟩; rw [HD.out] at hE6 ⊢; exact ⟨rfl, ⟨hE6.get 0 rfl, hE6.get 1 rfl, hE6.get 2 rfl⟩, _, rfl, F6, hE6⟩
        (try simp only [Act.put, List.setIfInBounds_toArray, List.set_cons_zero, List.set_cons_succ])
        repeat (first
          | (refine Ord.ch_value (v := ?_) hT9.out (by decide) (by rfl) ?_ ?_; rotate_left; (focus (intro w5 hS; have r0 := hS.1.rule; have r1 := hS.2.1.rule; have r2 := hS.2.2.rule; go_simp <;> with_reducible rfl)); (try simp only [Act.put, List.setIfInBounds_toArray, List.set_cons_zero, List.set_cons_succ]))
          | (refine Ord.ch_off hT9.out (by decide) (by rfl) ?_; (try simp only [Act.put, List.setIfInBounds_toArray, List.set_cons_zero, List.set_cons_succ])))
        refine Ord.ch_turn (v := .bool true) 1 hT9.out rfl (by decide) (Or.inr ⟨_, rfl, by kernel_rfl⟩) (by rfl) ?_ ?_
        · rintro w5 hC5 ⟨P5, hP5, hA5⟩
          cases hP5
          obtain ⟨F5, hA5⟩ := hA5
          go_simp
          simp only [Ord.LandsIn]
          refine (refSwap_any x y z was vw hl6 (hA5.ref 4 rfl)).mono ?_
          rintro e w6 ⟨rfl, G6, hU, hs⟩; rw [HD.out]; have hE6 := hA5.turnU 4 rfl hU hs; exact ⟨rfl, ⟨hE6.get 0 rfl, hE6.get 1 rfl, hE6.get 2 rfl⟩, _, rfl, F5, G6, hE6⟩
        (try simp only [Act.put, List.setIfInBounds_toArray, List.set_cons_zero, List.set_cons_succ])
        repeat (first
          | (refine Ord.ch_value (v := ?_) hT9.out (by decide) (by rfl) ?_ ?_; rotate_left; (focus (intro w5 hS; skip; go_simp <;> with_reducible rfl)); (try simp only [Act.put, List.setIfInBounds_toArray, List.set_cons_zero, List.set_cons_succ]))
          | (refine Ord.ch_off hT9.out (by decide) (by rfl) ?_; (try simp only [Act.put, List.setIfInBounds_toArray, List.set_cons_zero, List.set_cons_succ])))
        refine Ord.InText.nil fun w5 hS => ?_
        clear hT9
        obtain ⟨hC9, hA9⟩ := Ord.chain_end hS
        clear hS
        clear hC9 hE
        obtain ⟨P9, hP9, hA9⟩ := hA9
        cases hP9
        obtain ⟨F9, G9, hA9⟩ := hA9
        rw [swf_getL] at hA9
        obtain ⟨F1, G1, l1, q1, n1, hn1, hl1, hE⟩ : ∃ F1 G1 l1 q1 n1, n1 ≤ k + 2 ∧ LOk l1 (k + 2) ∧ Env w [boxI P [.int .i64 x, .int .i64 y, .int .i64 z], boxI X [.int .i64 4, .int .i64 x, .int .i64 y, .int .i64 z, .int .i64 d, .int .u64 ow, .int .i64 oi, .bool os, .int .u64 vw, .int .i64 vi, .bool vs], boxI B (bv q1), refI u G1 l1, wbox p c, cellI c F1 (getL l1) q1 n1] w5 := ⟨F9, G9, _, swq q true, n + 1, by omega, HL.out.sw _ _ _, hA9.sub (.cons _ (List.Sublist.refl _))⟩
        clear hA9
        go_wp2_with fail
        have HL := Lib.hid hl1
        have HN := Lib.hid hn1
        clear hl1 hn1
        refine Ord.wp_chain [] (fun w' => Env w [boxI P [.int .i64 x, .int .i64 y, .int .i64 z], boxI X [.int .i64 4, .int .i64 x, .int .i64 y, .int .i64 z, .int .i64 d, .int .u64 ow, .int .i64 oi, .bool os, .int .u64 vw, .int .i64 vi, .bool vs], boxI B (bv q1), refI u G1 l1, wbox p c, cellI c F1 (getL l1) q1 n1] w') (fun _ _ => True) (by kernel_rfl) (by kernel_rfl) (by kernel_rfl) hE.drew trivial (fun hT => ?_)
        have hT9 := Lib.hid hT
        clear hT
        repeat (first
          | (refine Ord.ch_value (v := ?_) hT9.out (by decide) (by rfl) ?_ ?_; rotate_left; (focus (intro w5 hS; have rP := hS.rule 0 rfl; have rB := hS.rule 2 rfl; unfold bv at rB; go_simp <;> with_reducible rfl)); (try simp only [Act.put, List.setIfInBounds_toArray, List.set_cons_zero, List.set_cons_succ]))
          | (refine Ord.ch_off hT9.out (by decide) (by rfl) ?_; (try simp only [Act.put, List.setIfInBounds_toArray, List.set_cons_zero, List.set_cons_succ]))
          | (refine Ord.ch_call (v := ?_) (f := ?_) (args := ?_) hT9.out (by decide) (by rfl) ?_ ?_ ?_; rotate_left 3; (focus (intro w5 hS; have rP := hS.rule 0 rfl; have rB := hS.rule 2 rfl; unfold bv at rB; go_simp; constructor <;> with_reducible rfl)); (focus (intro w5 hS; (first | (with_reducible refine (peek_w x y z HX.out 4 5 hS rfl rfl).mono ?_; rintro e w6 ⟨rfl, hb5⟩; constructor; with_reducible rfl; exact ⟨hS.over hb5, fun _ h => h⟩) | (with_reducible refine (refGet_any x y z (by have := HL.out.len; omega) (hS.ref 3 rfl)).mono ?_; rintro e w6 ⟨rfl, hb5⟩; constructor; with_reducible rfl; exact ⟨hS.over hb5, fun _ h => h⟩) | (with_reducible refine (count_w 4 5 hS rfl rfl).mono ?_; rintro e w6 ⟨rfl, hb5⟩; constructor; with_reducible rfl; exact ⟨hS.over hb5, fun _ h => h⟩)))); (try simp only [Act.put, List.setIfInBounds_toArray, List.set_cons_zero, List.set_cons_succ])))
        refine Ord.InText.nil fun w5 hS => ?_
        clear hT9
        obtain ⟨hE, hA9⟩ := Ord.chain_end hS
        clear hS
        clear hA9
        go_wp2_with fail
        exact ⟨⟨k + 1, n1, F1, G1, l1, q1, by omega, by omega, HN.out, HL.out, by simp, hE.sub (.cons _ (.cons _ (List.Sublist.refl _)))⟩, by simp [intOf]; omega⟩
      clear rB z0 z1 z2 z3 z4
      obtain ⟨F1, G1, l1, q1, n1, hn1, hl1, hE⟩ : ∃ F1 G1 l1 q1 n1, n1 ≤ k + 2 ∧ LOk l1 (k + 2) ∧ Env w [boxI P [.int .i64 x, .int .i64 y, .int .i64 z], boxI X [.int .i64 kd, .int .i64 x, .int .i64 y, .int .i64 z, .int .i64 d, .int .u64 ow, .int .i64 oi, .bool os, .int .u64 vw, .int .i64 vi, .bool vs], boxI B (bv q1), refI u G1 l1, wbox p c, cellI c F1 (getL l1) q1 n1] _ := ⟨F, G, l, q, n, by omega, HL.out.more, hE⟩
      go_wp2_with fail
      have HL := Lib.hid hl1
      have HN := Lib.hid hn1
      clear hl1 hn1
      refine Ord.wp_chain [] (fun w' => Env w [boxI P [.int .i64 x, .int .i64 y, .int .i64 z], boxI X [.int .i64 kd, .int .i64 x, .int .i64 y, .int .i64 z, .int .i64 d, .int .u64 ow, .int .i64 oi, .bool os, .int .u64 vw, .int .i64 vi, .bool vs], boxI B (bv q1), refI u G1 l1, wbox p c, cellI c F1 (getL l1) q1 n1] w') (fun _ _ => True) (by kernel_rfl) (by kernel_rfl) (by kernel_rfl) hE.drew trivial (fun hT => ?_)
      have hT9 := Lib.hid hT
      clear hT
      repeat (first
        | (refine Ord.ch_value (v := ?_) hT9.out (by decide) (by rfl) ?_ ?_; rotate_left; (focus (intro w5 hS; have rP := hS.rule 0 rfl; have rB := hS.rule 2 rfl; unfold bv at rB; go_simp <;> with_reducible rfl)); (try simp only [Act.put, List.setIfInBounds_toArray, List.set_cons_zero, List.set_cons_succ]))
        | (refine Ord.ch_off hT9.out (by decide) (by rfl) ?_; (try simp only [Act.put, List.setIfInBounds_toArray, List.set_cons_zero, List.set_cons_succ]))
        | (refine Ord.ch_call (v := ?_) (f := ?_) (args := ?_) hT9.out (by decide) (by rfl) ?_ ?_ ?_; rotate_left 3; (focus (intro w5 hS; have rP := hS.rule 0 rfl; have rB := hS.rule 2 rfl; unfold bv at rB; go_simp; constructor <;> with_reducible rfl)); (focus (intro w5 hS; (first | (with_reducible refine (peek_w x y z HX.out 4 5 hS rfl rfl).mono ?_; rintro e w6 ⟨rfl, hb5⟩; constructor; with_reducible rfl; exact ⟨hS.over hb5, fun _ h => h⟩) | (with_reducible refine (refGet_any x y z (by have := HL.out.len; omega) (hS.ref 3 rfl)).mono ?_; rintro e w6 ⟨rfl, hb5⟩; constructor; with_reducible rfl; exact ⟨hS.over hb5, fun _ h => h⟩) | (with_reducible refine (count_w 4 5 hS rfl rfl).mono ?_; rintro e w6 ⟨rfl, hb5⟩; constructor; with_reducible rfl; exact ⟨hS.over hb5, fun _ h => h⟩)))); (try simp only [Act.put, List.setIfInBounds_toArray, List.set_cons_zero, List.set_cons_succ])))
      refine Ord.InText.nil fun w5 hS => ?_
      clear hT9
      obtain ⟨hE, hA9⟩ := Ord.chain_end hS
      clear hS
      clear hA9
      go_wp2_with fail
      exact ⟨⟨k + 1, n1, F1, G1, l1, q1, by omega, by omega, HN.out, HL.out, by simp, hE.sub (.cons _ (.cons _ (List.Sublist.refl _)))⟩, by simp [intOf]; omega⟩
    · by_cases hl1 : k < xs.length
      · have hl2 : ¬ k < 150 := fun h => hlt ⟨hl1, h⟩
        have hb1 : decide ((k : Int) < xs.length) = true := by simp; omega
        have hb2 : decide ((k : Int) < 150) = false := by simp; omega
        go_wp2_with fail
        refine (cells_w 2 3 hEr rfl rfl).mono ?_
        rintro e w5 ⟨c', F', rfl, hE⟩
        go_wp2_with fail
        refine (places_any (by omega) (hE.cell 0 rfl)).mono ?_
        rintro e w6 ⟨v5, m, rfl, hp5, hr5, hb⟩
        replace hE := hE.over hb
        clear hb
        obtain ⟨A5, cap5, rfl⟩ := hr5.len
        go_wp2_with fail
        refine (refPlaces_any (by have := HL.out.len; omega) HL.out.nodup (hE.ref 2 rfl)).mono ?_
        rintro e w7 ⟨m6, v6, rfl, hp6, hm6, ho6, hb⟩
        replace hE := hE.over hb
        obtain rfl := hp5.eq hp6
        have hr5' := hr5.below hb
        have hr6 := ownsRow_rowP ho6
        clear hb ho6 hr5
        obtain ⟨A6, cap6, rfl⟩ := hr6.len
        have hml : m.length ≤ 1000000 := by have := HL.out.len; omega
        have H1 := Lib.hid hr5'
        have H2 := Lib.hid hr6
        have HP := Lib.hid hp5
        clear hr5' hr6 hp5 hp6 hm6
        go_wp2_with fail
        go_loopw [15] (fun i wr => ∃ k : Nat, k ≤ m.length ∧ i = .int .i64 k ∧ Env w [cellI c' F' (getL l) ⟨0, 0, 0, 0, 0⟩ n, boxI B (bv q), refI u G l, wbox p c, cellI c F (getL l) q n] wr ∧ Below w7.heap.size w7 wr) (fun i _ => m.length - (intOf i).toNat)
        case atStart => exact ⟨0, by omega, rfl, hE, Below.refl _ _⟩
        case round =>
          clear hE hEr
          obtain ⟨k2, hk2, rfl, hE, hB⟩ := hrel
          by_cases hlt2 : k2 < m.length
          · have hb5 : decide ((k2 : Int) < m.length) = true := by simp; omega
            rcases H1.out with ⟨h0, _⟩ | ⟨g1, cap1, e1, hg1, hc1⟩
            · rw [h0] at hlt2; simp at hlt2
            rcases H2.out with ⟨h0, _⟩ | ⟨g2, cap2, e2, hg2, hc2⟩
            · rw [h0] at hlt2; simp at hlt2
            simp only [Value.slice.injEq] at e1 e2
            obtain ⟨rfl, -, rfl⟩ := e1
            obtain ⟨rfl, -, rfl⟩ := e2
            have hm := (HP.out.2 (m.getD k2 z3)).1 (by simp [hlt2])
            have hwf : Wf (m.getD k2 z3) := by
              apply Classical.byContradiction
              intro hn
              exact hm ((hE.cell 4 rfl).words.out _ hn)
            obtain ⟨a0, a1, a2⟩ := hc1 k2 hlt2
            obtain ⟨b0, b1, b2⟩ := hc2 k2 hlt2
            clear hc1 hc2 hm
            generalize m.getD k2 z3 = o at a0 a1 a2 b0 b1 b2 hwf
            obtain ⟨x, y, z⟩ := o
            have HX := Lib.hid hwf
            clear hwf
            simp only at a0 a1 a2 b0 b1 b2
            have HC : Hid (∀ w', Below w7.heap.size w7 w' → (w'.cell? ⟨g1, k2 * 3, none⟩ = some (.int .i64 x) ∧ w'.cell? ⟨g1, k2 * 3 + 1, none⟩ = some (.int .i64 y) ∧ w'.cell? ⟨g1, k2 * 3 + 2, none⟩ = some (.int .i64 z) ∧
                w'.cell? ⟨g2, k2 * 3, none⟩ = some (.int .i64 x) ∧ w'.cell? ⟨g2, k2 * 3 + 1, none⟩ = some (.int .i64 y) ∧ w'.cell? ⟨g2, k2 * 3 + 2, none⟩ = some (.int .i64 z))) := Lib.hid fun w' hb => by
              refine ⟨?_, ?_, ?_, ?_, ?_, ?_⟩
              · rw [hb.cell (p := ⟨g1, k2 * 3, none⟩) hg1]; exact a0
              · rw [hb.cell (p := ⟨g1, k2 * 3 + 1, none⟩) hg1]; exact a1
              · rw [hb.cell (p := ⟨g1, k2 * 3 + 2, none⟩) hg1]; exact a2
              · rw [hb.cell (p := ⟨g2, k2 * 3, none⟩) hg2]; exact b0
              · rw [hb.cell (p := ⟨g2, k2 * 3 + 1, none⟩) hg2]; exact b1
              · rw [hb.cell (p := ⟨g2, k2 * 3 + 2, none⟩) hg2]; exact b2
            clear a0 a1 a2 b0 b1 b2
            go_wp2_with fail
            refine Ord.wp_chain [] (fun w' => Env w [cellI c' F' (getL l) ⟨0, 0, 0, 0, 0⟩ n, boxI B (bv q), refI u G l, wbox p c, cellI c F (getL l) q n] w' ∧ Below w7.heap.size w7 w') (fun _ _ => True) (by kernel_rfl) (by kernel_rfl) (by kernel_rfl) ⟨hE.drew, hB.drew⟩ trivial (fun hT => ?_)
            have hT9 := Lib.hid hT
            clear hT
            repeat (first
              | (refine Ord.ch_value (v := ?_) hT9.out (by decide) (by rfl) ?_ ?_; rotate_left; (focus (intro w5 hS; obtain ⟨a0, a1, a2, b0, b1, b2⟩ := HC.out _ hS.2; go_simp <;> with_reducible rfl)); (try simp only [Act.put, List.setIfInBounds_toArray, List.set_cons_zero, List.set_cons_succ]))
              | (refine Ord.ch_off hT9.out (by decide) (by rfl) ?_; (try simp only [Act.put, List.setIfInBounds_toArray, List.set_cons_zero, List.set_cons_succ]))
              | (refine Ord.ch_call (v := ?_) (f := ?_) (args := ?_) hT9.out (by decide) (by rfl) ?_ ?_ ?_; rotate_left 3; (focus (intro w5 hS; obtain ⟨a0, a1, a2, b0, b1, b2⟩ := HC.out _ hS.2; go_simp; constructor <;> with_reducible rfl)); (focus (intro w5 hS; (first | (with_reducible refine (peek_w x y z HX.out 3 4 hS.1 rfl rfl).mono ?_; rintro e w6 ⟨rfl, hb6⟩; constructor; with_reducible rfl; exact ⟨⟨hS.1.over hb6, hS.2.trans (hb6.mono hS.2.size)⟩, fun _ h => h⟩) | (with_reducible refine (refGet_any x y z (by have := HL.out.len; omega) (hS.1.ref 2 rfl)).mono ?_; rintro e w6 ⟨rfl, hb6⟩; constructor; with_reducible rfl; exact ⟨⟨hS.1.over hb6, hS.2.trans (hb6.mono hS.2.size)⟩, fun _ h => h⟩)))); (try simp only [Act.put, List.setIfInBounds_toArray, List.set_cons_zero, List.set_cons_succ])))
            refine Ord.InText.nil fun w5 hS => ?_
            clear hT9
            obtain ⟨hE9, hC⟩ := Ord.chain_end hS
            clear hS
            clear hC
            go_wp2_with fail
            exact ⟨⟨k2 + 1, by omega, by simp, hE9.1, hE9.2⟩, by simp [intOf]; omega⟩
          · have hb5 : decide ((k2 : Int) < m.length) = false := by simp; omega
            go_wp2_with fail
            go_ret
            exact ⟨rfl, hE.below⟩
      · have hb1 : decide ((k : Int) < xs.length) = false := by simp; omega
        go_wp2_with fail
        refine (cells_w 2 3 hEr rfl rfl).mono ?_
        rintro e w5 ⟨c', F', rfl, hE⟩
        go_wp2_with fail
        refine (places_any (by omega) (hE.cell 0 rfl)).mono ?_
        rintro e w6 ⟨v5, m, rfl, hp5, hr5, hb⟩
        replace hE := hE.over hb
        clear hb
        obtain ⟨A5, cap5, rfl⟩ := hr5.len
        go_wp2_with fail
        refine (refPlaces_any (by have := HL.out.len; omega) HL.out.nodup (hE.ref 2 rfl)).mono ?_
        rintro e w7 ⟨m6, v6, rfl, hp6, hm6, ho6, hb⟩
        replace hE := hE.over hb
        obtain rfl := hp5.eq hp6
        have hr5' := hr5.below hb
        have hr6 := ownsRow_rowP ho6
        clear hb ho6 hr5
        obtain ⟨A6, cap6, rfl⟩ := hr6.len
        have hml : m.length ≤ 1000000 := by have := HL.out.len; omega
        have H1 := Lib.hid hr5'
        have H2 := Lib.hid hr6
        have HP := Lib.hid hp5
        clear hr5' hr6 hp5 hp6 hm6
        go_wp2_with fail
        go_loopw [15] (fun i wr => ∃ k : Nat, k ≤ m.length ∧ i = .int .i64 k ∧ Env w [cellI c' F' (getL l) ⟨0, 0, 0, 0, 0⟩ n, boxI B (bv q), refI u G l, wbox p c, cellI c F (getL l) q n] wr ∧ Below w7.heap.size w7 wr) (fun i _ => m.length - (intOf i).toNat)
        case atStart => exact ⟨0, by omega, rfl, hE, Below.refl _ _⟩
        case round =>
          clear hE hEr
          obtain ⟨k2, hk2, rfl, hE, hB⟩ := hrel
          by_cases hlt2 : k2 < m.length
          · have hb5 : decide ((k2 : Int) < m.length) = true := by simp; omega
            rcases H1.out with ⟨h0, _⟩ | ⟨g1, cap1, e1, hg1, hc1⟩
            · rw [h0] at hlt2; simp at hlt2
            rcases H2.out with ⟨h0, _⟩ | ⟨g2, cap2, e2, hg2, hc2⟩
            · rw [h0] at hlt2; simp at hlt2
            simp only [Value.slice.injEq] at e1 e2
            obtain ⟨rfl, -, rfl⟩ := e1
            obtain ⟨rfl, -, rfl⟩ := e2
            have hm := (HP.out.2 (m.getD k2 z3)).1 (by simp [hlt2])
            have hwf : Wf (m.getD k2 z3) := by
              apply Classical.byContradiction
              intro hn
              exact hm ((hE.cell 4 rfl).words.out _ hn)
            obtain ⟨a0, a1, a2⟩ := hc1 k2 hlt2
            obtain ⟨b0, b1, b2⟩ := hc2 k2 hlt2
            clear hc1 hc2 hm
            generalize m.getD k2 z3 = o at a0 a1 a2 b0 b1 b2 hwf
            obtain ⟨x, y, z⟩ := o
            have HX := Lib.hid hwf
            clear hwf
            simp only at a0 a1 a2 b0 b1 b2
            have HC : Hid (∀ w', Below w7.heap.size w7 w' → (w'.cell? ⟨g1, k2 * 3, none⟩ = some (.int .i64 x) ∧ w'.cell? ⟨g1, k2 * 3 + 1, none⟩ = some (.int .i64 y) ∧ w'.cell? ⟨g1, k2 * 3 + 2, none⟩ = some (.int .i64 z) ∧
                w'.cell? ⟨g2, k2 * 3, none⟩ = some (.int .i64 x) ∧ w'.cell? ⟨g2, k2 * 3 + 1, none⟩ = some (.int .i64 y) ∧ w'.cell? ⟨g2, k2 * 3 + 2, none⟩ = some (.int .i64 z))) := Lib.hid fun w' hb => by
              refine ⟨?_, ?_, ?_, ?_, ?_, ?_⟩
              · rw [hb.cell (p := ⟨g1, k2 * 3, none⟩) hg1]; exact a0
              · rw [hb.cell (p := ⟨g1, k2 * 3 + 1, none⟩) hg1]; exact a1
              · rw [hb.cell (p := ⟨g1, k2 * 3 + 2, none⟩) hg1]; exact a2
              · rw [hb.cell (p := ⟨g2, k2 * 3, none⟩) hg2]; exact b0
              · rw [hb.cell (p := ⟨g2, k2 * 3 + 1, none⟩) hg2]; exact b1
              · rw [hb.cell (p := ⟨g2, k2 * 3 + 2, none⟩) hg2]; exact b2
            clear a0 a1 a2 b0 b1 b2
            go_wp2_with fail
            refine Ord.wp_chain [] (fun w' => Env w [cellI c' F' (getL l) ⟨0, 0, 0, 0, 0⟩ n, boxI B (bv q), refI u G l, wbox p c, cellI c F (getL l) q n] w' ∧ Below w7.heap.size w7 w') (fun _ _ => True) (by kernel_rfl) (by kernel_rfl) (by kernel_rfl) ⟨hE.drew, hB.drew⟩ trivial (fun hT => ?_)
            have hT9 := Lib.hid hT
            clear hT
            repeat (first
              | (refine Ord.ch_value (v := ?_) hT9.out (by decide) (by rfl) ?_ ?_; rotate_left; (focus (intro w5 hS; obtain ⟨a0, a1, a2, b0, b1, b2⟩ := HC.out _ hS.2; go_simp <;> with_reducible rfl)); (try simp only [Act.put, List.setIfInBounds_toArray, List.set_cons_zero, List.set_cons_succ]))
              | (refine Ord.ch_off hT9.out (by decide) (by rfl) ?_; (try simp only [Act.put, List.setIfInBounds_toArray, List.set_cons_zero, List.set_cons_succ]))
              | (refine Ord.ch_call (v := ?_) (f := ?_) (args := ?_) hT9.out (by decide) (by rfl) ?_ ?_ ?_; rotate_left 3; (focus (intro w5 hS; obtain ⟨a0, a1, a2, b0, b1, b2⟩ := HC.out _ hS.2; go_simp; constructor <;> with_reducible rfl)); (focus (intro w5 hS; (first | (with_reducible refine (peek_w x y z HX.out 3 4 hS.1 rfl rfl).mono ?_; rintro e w6 ⟨rfl, hb6⟩; constructor; with_reducible rfl; exact ⟨⟨hS.1.over hb6, hS.2.trans (hb6.mono hS.2.size)⟩, fun _ h => h⟩) | (with_reducible refine (refGet_any x y z (by have := HL.out.len; omega) (hS.1.ref 2 rfl)).mono ?_; rintro e w6 ⟨rfl, hb6⟩; constructor; with_reducible rfl; exact ⟨⟨hS.1.over hb6, hS.2.trans (hb6.mono hS.2.size)⟩, fun _ h => h⟩)))); (try simp only [Act.put, List.setIfInBounds_toArray, List.set_cons_zero, List.set_cons_succ])))
            refine Ord.InText.nil fun w5 hS => ?_
            clear hT9
            obtain ⟨hE9, hC⟩ := Ord.chain_end hS
            clear hS
            clear hC
            go_wp2_with fail
            exact ⟨⟨k2 + 1, by omega, by simp, hE9.1, hE9.2⟩, by simp [intOf]; omega⟩
          · have hb5 : decide ((k2 : Int) < m.length) = false := by simp; omega
            go_wp2_with fail
            go_ret
            exact ⟨rfl, hE.below⟩

theorem own : ownKnob Try.prog.godebug = none := by kernel_rfl
theorem laidOut : laidOutB Try.prog = true := by kernel_rfl

set_option maxRecDepth 100000 in
theorem lifted (os : Os) (started : os.Started) (H : Type) (enc : TypeId × Value → H) :
    ReturnsInHanded {} Try.checked os 3 .any (Rows.worldExactSpec.pre6 enc Try.prog Try.f3 Rows.worldExactRow.domain false) (Rows.worldExactSpec.post enc Try.prog Try.f3 false true false false) := by
  refine returnsInHanded_of_change (C := Try.checked) own started (by kernel_rfl) Try.func3
    (ChangeSpec.witness6 (enc := enc) (C := Try.checked) false ⟨#[], #[.slice none 0 0, .bool false], []⟩ 8 (by kernel_rfl) (by kernel_rfl) (by kernel_rfl) (by kernel_rfl)) ?_
  intro W base args ds gs before hval0 hW hcnd _
  have hval : ∀ (j : Nat) t v, Try.f3.params[j]? = some t → args[j]? = some v → Value.okWide Try.prog W .any base t v := hval0
  have hW' := hW
  obtain ⟨p, q, hA0, hV, rfl, hfz, hnd⟩ := hW
  have hA : DataW.TrodAll enc Try.prog W 0 (fun _ => true) true Try.f3.params.toList args.toList ds p := hA0
  rw [Try.params3] at hA hval
  obtain ⟨v0, vs0, d0, ds0, p0, q0, hargs, rfl, rfl, g0, r0⟩ := trodAll_cons hA
  obtain ⟨v1, vs1, d1, ds1, p1, q1, rfl, rfl, rfl, g1, r1⟩ := trodAll_cons r0
  obtain ⟨rfl, rfl, rfl⟩ := trodAll_nil r1
  obtain rfl : args = #[v0, v1] := by cases args; simp_all
  obtain ⟨rfl, rfl⟩ := trodVars_none hV
  obtain ⟨a1, rfl, rfl, rfl⟩ := open_bool Try.underlying4 (hval 1 4 v1 rfl rfl) g1
  obtain ⟨A0, n0, cap0, rfl⟩ := okWide_slice Try.underlying22 (hval 0 22 v0 rfl rfl)
  obtain ⟨zs0, rfl, h0, w0, row0⟩ := open_ActW g0 (fun x hx => hW'.lt x (by simp [hx]))
  unfold maxLen at h0
  clear hA0 hval0
  refine (walk zs0 A0 cap0 a1 w0 h0 W row0).mono fun e W' ⟨he, hg⟩ => ?_
  subst he
  exact ⟨_, rfl, law_post laidOut (by kernel_rfl) (by kernel_rfl) Try.underlying4 rfl rfl hW' hg⟩

theorem over : Rows.worldExactRow.holds Try.pinned (OpenSpec.ofChange Rows.worldExactSpec) :=
  OpenClaim.holds_of_wide 3 Try.f3 rfl rfl rfl rfl rfl rfl rfl ⟨rfl, rfl, rfl, rfl, rfl⟩ rfl rfl rfl rfl rfl (by kernel_rfl) Try.func3 (by kernel_rfl)
    (of_decide_eq_true (by kernel_rfl)) (by unfold Func.isWrapper; first | (rw [if_pos (by decide +kernel)]; kernel_rfl) | (rw [if_neg (by decide +kernel)]; exact ⟨rfl, rfl⟩))
    (fun os started H enc _ => lifted os started H enc)

/-- THE STATEMENT. -/
theorem proved : Rows.WorldExactSaid := over
#print axioms proved
end Go.Proofs.Ytnohfcikedhhgaa.worldExact
