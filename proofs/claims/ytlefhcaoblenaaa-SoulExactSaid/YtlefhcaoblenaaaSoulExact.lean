/- SoulExact: of every row of births each identity and all that is asked are the reference's; of nil there is nothing: so the law answers true, for every input. -/
import Derived.Test.YtlefhcaoblenaaaSoulW
import Derived.Test.YtlefhcaoblenaaaOrd3
import Derived.Test.YtlefhcaoblenaaaLaw
import Derived.Test.YtlefhcaoblenaaaOpenRows
import Derived.Test.YtlefhcaoblenaaaRows
import Derived.Deep.CutRange
import Derived.Deep.CutBlock
namespace Go.Proofs.Ytlefhcaoblenaaa.soulExact
open Go.ChangeShapes Go.WideShapes Go.ChangeAt Go.RowKit Go.Maps

set_option maxRecDepth 100000 in
set_option maxHeartbeats 6400000 in
theorem walk (zs : List Int) (A : Option Addr) (cap : Nat) (x i : Int) (hz : ∀ z ∈ zs, In64 z) (hlen : zs.length ≤ 9223372036854775807) (hx : In64 x) (hi : In64 i) (w : World)
    (hr : zs = [] ∨ ∃ blk off, A = some ⟨blk, off, none⟩ ∧ blk < w.heap.size ∧ ∀ i, i < zs.length → w.cell? ⟨blk, off + i, none⟩ = some (.int .i64 (zs.getD i 0))) :
    Calls Try.prog 3 #[.slice A zs.length cap, .int .i64 x, .int .i64 i] w fun e w' => e = .returned (.bool true) ∧ Below w.heap.size w w' := by
  have hE := Env.start w
  have HX := Lib.hid hx
  have HI := Lib.hid hi
  have HZ := Lib.hid hz
  have HR := Lib.hid hr
  clear hx hi hz hr
  go_enter Try.func3, Try.ntmps3
  go_wp2_with fail
  refine (awake6 _).mono ?_
  rintro e w1 ⟨rfl, hb⟩
  replace hE := hE.over hb
  clear hb
  go_wp2_with fail
  refine (new_any w1).mono ?_
  rintro e w2 ⟨rfl, hC, hb⟩
  replace hE := hE.madeS hC (Nat.le_refl _) hb
  clear hC hb
  generalize w1.heap.size = s at *
  replace hE := hE.madeR (IsR.new w2) (Nat.le_refl _) ((Below.refl _ _).alloc (Nat.le_refl _) _)
  generalize hu : w2.heap.size = u at hE
  go_upto_block 0 with fail
  go_cut [9] from 18 to 55 (fun _ wx => ∃ (F G : Nat → Prop) (l : List Int), l.length ≤ 100 ∧ Env w [rowRI u G l, soulI s F l] wx)
  case first =>
    go_wp2_with fail
    go_loopw [9] (fun iv wr => ∃ (k : Nat) (F G : Nat → Prop) (l : List Int), k ≤ zs.length ∧ k ≤ 100 ∧ l.length ≤ k ∧ iv = .int .i64 k ∧ Env w [rowRI u G l, soulI s F l] wr) (fun iv _ => zs.length - (intOf iv).toNat)
    case atStart => exact ⟨0, _, _, [], by omega, by omega, by simp, rfl, hE⟩
    case round =>
      obtain ⟨k, F, G, l, hk, hk1, hl, rfl, hEr⟩ := hrel
      clear hE
      by_cases hlt : k < zs.length ∧ k < 100
      · obtain ⟨hlt, hlt1⟩ := hlt
        have hb1 : decide ((k : Int) < zs.length) = true := by simp; omega
        have hb2 : decide ((k : Int) < 100) = true := by simp; omega
        rcases HR.out with hz0 | ⟨blk, off, rfl, hbw, hc⟩
        · rw [hz0] at hlt; simp at hlt
        have hxk : In64 (zs.getD k 0) := HZ.out _ (by simp [hlt])
        have hat : ∀ w', Below w.heap.size w w' → w'.cell? ⟨blk, off + k, none⟩ = some (.int .i64 (zs.getD k 0)) := fun w' hb => by
          rw [hb.cell (p := ⟨blk, off + k, none⟩) hbw]; exact hc k hlt
        clear hc
        generalize zs.getD k 0 = z at *
        have HAT := Lib.hid hat
        have HXK := Lib.hid hxk
        clear hat hxk
        have hin : (0 : Int) ≤ (k : Int) ∧ (k : Int) < zs.length := by omega
        obtain ⟨n, hn⟩ : ∃ n, nowL (bornL l z) z = n := ⟨_, rfl⟩
        obtain ⟨bv, hbv⟩ : ∃ n, bornV l z = n := ⟨_, rfl⟩
        have HN := Lib.hid hn
        have HBV := Lib.hid hbv
        have HBL : Hid ((bornL l z).length ≤ l.length + 1) := Lib.hid (bornL_length l z)
        obtain ⟨l1, hl1⟩ : ∃ l1, bornL l z = l1 := ⟨_, rfl⟩
        have HL1 := Lib.hid hl1
        rw [hl1] at HN HBL
        clear hn hbv hl1
        go_wp2_with fail
        refine Ord3.wp_chain [?_, ?_, ?_, ?_, ?_, ?_, ?_, ?_, ?_, ?_, ?_, ?_, ?_, ?_, ?_, ?_, ?_, ?_, ?_, ?_, ?_, ?_, ?_, ?_, ?_, ?_, ?_, ?_] [5, 11, 19, 25] (fun w' => Below w.heap.size w w') (Ord3.Stage fun _ => [fun w' => ∃ F' G', Env w [rowRI u G' l, soulI s F' l] w', fun w' => ∃ F' G', Env w [rowRI u G' l, soulI s F' l1] w', fun w' => ∃ F' G', Env w [rowRI u G' l1, soulI s F' l1] w', fun w' => ∃ F' G', Env w [rowRI u G' l1, soulI s F' l1] w', fun w' => ∃ F' G', Env w [rowRI u G' l1, soulI s F' l1] w']) (by kernel_rfl) (by kernel_rfl) (by kernel_rfl) hEr.drew.below ⟨_, rfl, F, G, hEr.drew⟩ (fun hT => ?_)
        rotate_left 28
        have hT9 := Lib.hid hT
        clear hT
        repeat (first
          | (focus (refine Ord3.in_value (v := ?_) hT9.out (by decide) ?_ (by rfl) ?_ ?_; rotate_left 2; (focus (intro w5 hS; have c0 := HAT.out _ hS; go_simp <;> with_reducible rfl)); rotate_right; (focus rfl); (try simp only [Act.put, List.setIfInBounds_toArray, List.set_cons_zero, List.set_cons_succ])))
          | (focus (refine Ord3.in_off hT9.out (by decide) ?_ (by rfl) ?_; (focus rfl); (try simp only [Act.put, List.setIfInBounds_toArray, List.set_cons_zero, List.set_cons_succ]))))
        refine Ord3.in_turn (fun u => u = .int .i64 bv) _ rfl hT9.out rfl (by decide) (by rfl) ?_ (Or.inl rfl) (by rfl) ?_ ?_
        · rfl
        · skip
          rintro w5 hC5 ⟨P5, hP5, hA5⟩
          cases hP5
          obtain ⟨F5, G5, hE5⟩ := hA5
          have c0 := HAT.out _ hC5
          go_simp
          simp only [Ord3.Lands]
          refine (bornX_any z HXK.out (by omega) (hE5.soul 1 rfl)).mono ?_
          rintro e w6 ⟨rfl, F6, hC, hs⟩
          rw [HL1.out] at hC
          have hE6 := hE5.turnS 1 rfl hC hs
          exact ⟨_, by rw [HBV.out], rfl, hE6.below, _, rfl, F6, G5, hE6⟩
        rintro _ rfl
        (try simp only [Act.put, List.setIfInBounds_toArray, List.set_cons_zero, List.set_cons_succ])
        repeat (first
          | (focus (refine Ord3.in_value (v := ?_) hT9.out (by decide) ?_ (by rfl) ?_ ?_; rotate_left 2; (focus (intro w5 hS; have c0 := HAT.out _ hS; go_simp <;> with_reducible rfl)); rotate_right; (focus rfl); (try simp only [Act.put, List.setIfInBounds_toArray, List.set_cons_zero, List.set_cons_succ])))
          | (focus (refine Ord3.in_off hT9.out (by decide) ?_ (by rfl) ?_; (focus rfl); (try simp only [Act.put, List.setIfInBounds_toArray, List.set_cons_zero, List.set_cons_succ]))))
        refine Ord3.in_turn (fun u => u = .int .i64 bv) _ rfl hT9.out rfl (by decide) (by rfl) ?_ (Or.inr ⟨_, 5, [], rfl, by kernel_rfl, by kernel_rfl, rfl⟩) (by rfl) ?_ ?_
        · rfl
        · skip
          rintro w5 hC5 ⟨P5, hP5, hA5⟩
          cases hP5
          obtain ⟨F5, G5, hE5⟩ := hA5
          have c0 := HAT.out _ hC5
          go_simp
          simp only [Ord3.Lands]
          refine (rbornX_any z (by omega) (hE5.rowR 0 rfl)).mono ?_
          rintro e w6 ⟨rfl, F6, hC, hs⟩
          rw [HL1.out] at hC
          have hE6 := hE5.turnR 0 rfl hC hs
          exact ⟨_, by rw [HBV.out], rfl, hE6.below, _, rfl, F5, F6, hE6⟩
        rintro _ rfl
        (try simp only [Act.put, List.setIfInBounds_toArray, List.set_cons_zero, List.set_cons_succ])
        repeat (first
          | (focus (refine Ord3.in_value (v := ?_) hT9.out (by decide) ?_ (by rfl) ?_ ?_; rotate_left 2; (focus (intro w5 hS; have c0 := HAT.out _ hS; go_simp <;> with_reducible rfl)); rotate_right; (focus rfl); (try simp only [Act.put, List.setIfInBounds_toArray, List.set_cons_zero, List.set_cons_succ])))
          | (focus (refine Ord3.in_off hT9.out (by decide) ?_ (by rfl) ?_; (focus rfl); (try simp only [Act.put, List.setIfInBounds_toArray, List.set_cons_zero, List.set_cons_succ]))))
        refine Ord3.in_turn (fun u => u = .int .i64 n) _ rfl hT9.out rfl (by decide) (by rfl) ?_ (Or.inr ⟨_, 13, [11], rfl, by kernel_rfl, by kernel_rfl, rfl⟩) (by rfl) ?_ ?_
        · rfl
        · skip
          rintro w5 hC5 ⟨P5, hP5, hA5⟩
          cases hP5
          obtain ⟨F5, G5, hE5⟩ := hA5
          have c0 := HAT.out _ hC5
          go_simp
          simp only [Ord3.Lands]
          refine (now_any z HXK.out (by have := HBL.out; omega) (hE5.soul 1 rfl)).mono ?_
          rintro e w6 ⟨rfl, rfl⟩
          exact ⟨_, by rw [HN.out], rfl, hC5, _, rfl, F5, G5, hE5⟩
        rintro _ rfl
        (try simp only [Act.put, List.setIfInBounds_toArray, List.set_cons_zero, List.set_cons_succ])
        repeat (first
          | (focus (refine Ord3.in_value (v := ?_) hT9.out (by decide) ?_ (by rfl) ?_ ?_; rotate_left 2; (focus (intro w5 hS; have c0 := HAT.out _ hS; go_simp <;> with_reducible rfl)); rotate_right; (focus rfl); (try simp only [Act.put, List.setIfInBounds_toArray, List.set_cons_zero, List.set_cons_succ])))
          | (focus (refine Ord3.in_off hT9.out (by decide) ?_ (by rfl) ?_; (focus rfl); (try simp only [Act.put, List.setIfInBounds_toArray, List.set_cons_zero, List.set_cons_succ]))))
        refine Ord3.in_turn (fun u => u = .int .i64 n) _ rfl hT9.out rfl (by decide) (by rfl) ?_ (Or.inr ⟨_, 19, [], rfl, by kernel_rfl, by kernel_rfl, rfl⟩) (by rfl) ?_ ?_
        · rfl
        · skip
          rintro w5 hC5 ⟨P5, hP5, hA5⟩
          cases hP5
          obtain ⟨F5, G5, hE5⟩ := hA5
          have c0 := HAT.out _ hC5
          go_simp
          simp only [Ord3.Lands]
          refine (rnow_any z (by have := HBL.out; omega) (hE5.rowR 0 rfl)).mono ?_
          rintro e w6 ⟨rfl, hb6⟩
          have hE6 := hE5.over hb6
          exact ⟨_, by rw [HN.out], rfl, hE6.below, _, rfl, F5, G5, hE6⟩
        rintro _ rfl
        (try simp only [Act.put, List.setIfInBounds_toArray, List.set_cons_zero, List.set_cons_succ])
        repeat (first
          | (focus (refine Ord3.in_value (v := ?_) hT9.out (by decide) ?_ (by rfl) ?_ ?_; rotate_left 2; (focus (intro w5 hS; have c0 := HAT.out _ hS; go_simp <;> with_reducible rfl)); rotate_right; (focus rfl); (try simp only [Act.put, List.setIfInBounds_toArray, List.set_cons_zero, List.set_cons_succ])))
          | (focus (refine Ord3.in_off hT9.out (by decide) ?_ (by rfl) ?_; (focus rfl); (try simp only [Act.put, List.setIfInBounds_toArray, List.set_cons_zero, List.set_cons_succ]))))
        refine Ord3.in_nil rfl ?_
        rintro w5 hC5 ⟨P5, hP5, hA5⟩
        cases hP5
        clear hT9
        obtain ⟨F5, G5, hE5⟩ := hA5
        go_wp2_with fail
        exact ⟨⟨k + 1, F5, G5, l1, by omega, by omega, by have := HBL.out; omega, by simp, hE5⟩, by simp [intOf]; omega⟩
      · have hl1 : l.length ≤ 100 := by omega
        by_cases h1 : k < zs.length
        · have h2 : ¬ k < 100 := by omega
          have hb1 : decide ((k : Int) < zs.length) = true := by simp; omega
          have hb2 : decide ((k : Int) < 100) = false := by simp; omega
          go_wp2_with fail
          go_meet
          case rel => exact ⟨F, G, l, hl1, hEr⟩
        · have hb1 : decide ((k : Int) < zs.length) = false := by simp; omega
          go_wp2_with fail
          go_meet
          case rel => exact ⟨F, G, l, hl1, hEr⟩
  case rest =>
    obtain ⟨F, G, l, hl, hEr⟩ := hcut
    clear hE
    obtain ⟨Au, cu, ru, hul, hrow⟩ := (hEr.rowR 0 rfl).full
    have HROW := Lib.hid hrow
    clear hrow
    go_upto_region 11 with fail
    go_cut [66] from 56 to 66 (fun v wx => v = .bool (decide (1 ≤ i ∧ i ≤ l.length)) ∧ wx = wc)
    case first =>
      by_cases h1 : i > 0
      · have hb1 : decide (i > 0) = true := by simpa using h1
        go_wp2_with fail
        go_meet
        case rel => exact ⟨congrArg Value.bool (by rw [Bool.eq_iff_iff, decide_eq_true_iff, decide_eq_true_iff]; omega), rfl⟩
      · have hb1 : decide (i > 0) = false := by simpa using h1
        go_wp2_with fail
        go_meet
        case rel => exact ⟨by rw [decide_eq_false (by omega)], rfl⟩
    case rest =>
      obtain ⟨rfl, rfl⟩ := hcut
      obtain ⟨at0, hat⟩ : ∃ v, slotL l i = v := ⟨_, rfl⟩
      have HAT := Lib.hid hat
      clear hat
      go_upto_if 66 with fail
      go_cut [10] from 56 to 74 (fun v wx => v = .int .i64 at0 ∧ wx = wc)
      case first =>
        by_cases h1 : 1 ≤ i ∧ i ≤ l.length
        · rw [decide_eq_true h1]
          have e : l.getD (i - 1).toNat 0 = at0 := by rw [← HAT.out]; unfold slotL; rw [if_pos h1]
          rcases HROW.out with h0 | ⟨g, rfl, hg, hc⟩
          · rw [h0] at h1; simp at h1; omega
          obtain ⟨k, rfl⟩ : ∃ k : Nat, i = (k : Int) + 1 := ⟨(i - 1).toNat, by omega⟩
          have hk := hc k (by omega)
          rw [show ((k : Int) + 1 - 1).toNat = k by omega] at e
          rw [e] at hk
          have hw : wrap64 ((k : Int) + 1 - 1) = (k : Int) := by rw [w64 _ (by omega)]; omega
          have hin : (0 : Int) ≤ (k : Int) ∧ (k : Int) < l.length := by omega
          clear hc
          go_wp2_with fail
          go_meet
          case rel => exact ⟨rfl, rfl⟩
        · rw [decide_eq_false h1]
          have e : at0 = 0 := by rw [← HAT.out]; unfold slotL; rw [if_neg h1]
          go_wp2_with fail
          go_meet
          case rel => exact ⟨by rw [e], rfl⟩
      case rest =>
        obtain ⟨rfl, rfl⟩ := hcut
        obtain ⟨n, hn⟩ : ∃ v, nowL l x = v := ⟨_, rfl⟩
        obtain ⟨M, hM, hMl⟩ := slots_ex l
        have hml := ids_length_le l x
        have HN := Lib.hid hn
        have HM := Lib.hid hM
        clear hn hM
        obtain ⟨m, hm⟩ : ∃ m, ids l x = m := ⟨_, rfl⟩
        rw [hm] at hml
        have HMM := Lib.hid hm
        clear hm
        go_wp2_with fail
        refine (rnow_any x (by omega) (hEr.rowR 0 rfl)).mono ?_
        rintro e w5 ⟨rfl, hb⟩
        rw [HN.out]
        replace hEr := hEr.over hb
        have ru5 : ∀ w', Below w5.heap.size w5 w' → ∀ i, w'.cell? ⟨u, i, none⟩ = [Value.slice Au l.length cu][i]? := fun w' h i => by
          rw [h.cell (p := ⟨u, i, none⟩) (Nat.lt_of_lt_of_le hul hb.size), hb.cell (p := ⟨u, i, none⟩) hul]; exact ru i
        have HRU := Lib.hid ru5
        clear hb ru5 ru hul HROW
        have hb1 : ∃ b1 : Bool, decide (i ≠ 0 ∧ nowL l x = i) = b1 ∧ ((i != 0) = false ∧ b1 = false ∨ (i != 0) = true ∧ (n == i) = b1) := by
          refine ⟨_, rfl, ?_⟩
          rw [HN.out]
          by_cases h0 : i = 0
          · exact .inl ⟨by simp [h0], by simp [h0]⟩
          · refine .inr ⟨by simpa using h0, ?_⟩
            rw [Bool.eq_iff_iff]; simp [h0]
        obtain ⟨b1, hb1, hb2⟩ := hb1
        have HB1 := Lib.hid hb1
        clear hb1
        have hcc : (b1 != b1) = false := by simp
        have HSL : Hid (∀ w', Below w5.heap.size w5 w' → IsS w' s F l) := Lib.hid fun w' h => (hEr.over h).soul 1 rfl
        have HRL : Hid (∀ w', Below w5.heap.size w5 w' → IsR w' u G l) := Lib.hid fun w' h => (hEr.over h).rowR 0 rfl
        have HEND := Lib.hid hEr.below
        have HT0 : Hid (∀ w7 w8 : World, Below w5.heap.size w5 w7 → Below w7.heap.size w7 w8 → Below w5.heap.size w5 w8) := Lib.hid fun w7 w8 h k => h.trans (k.mono h.size)
        clear hEr
        have h0u : Below w5.heap.size w5 w5.drew := (Below.refl _ _).drew
        rcases hb2 with ⟨hb2, hb3⟩ | ⟨hb2, hb3⟩
        all_goals
          go_wp2_with fail
          refine Ord3.wp_chain [?_, ?_, ?_, ?_, ?_, ?_, ?_, ?_, ?_, ?_, ?_, ?_, ?_, ?_, ?_, ?_, ?_, ?_, ?_, ?_, ?_, ?_, ?_, ?_, ?_, ?_, ?_, ?_, ?_, ?_, ?_, ?_, ?_, ?_, ?_, ?_, ?_, ?_, ?_, ?_, ?_, ?_, ?_, ?_, ?_, ?_, ?_, ?_, ?_, ?_, ?_, ?_, ?_, ?_, ?_] [2, 10, 23, 30, 33, 34, 39, 49, 51, 52] (fun w' => Below w5.heap.size w5 w') (Ord3.Stage fun κs => [fun _ => True, fun _ => True, fun _ => True, fun _ => True, fun w' => w'.ownsRow 0 3 1 (κs.getD 3 undef) m.length (ints m), fun w' => w'.ownsRow 0 3 1 (κs.getD 3 undef) m.length (ints m) ∧ w'.ownsRow 0 3 1 (κs.getD 4 undef) m.length (ints m), fun _ => True, fun _ => True, fun w' => w'.ownsRow 0 3 1 (κs.getD 7 undef) M.length (ints M), fun w' => w'.ownsRow 0 3 1 (κs.getD 7 undef) M.length (ints M) ∧ w'.ownsRow 0 3 1 (κs.getD 8 undef) M.length (ints M), fun _ => True]) (by kernel_rfl) (by kernel_rfl) (by kernel_rfl) h0u ⟨_, rfl, trivial⟩ (fun hT => ?_)
          rotate_left 55
          have hT9 := Lib.hid hT
          clear hT
          repeat (first
            | (focus (refine Ord3.in_value (v := ?_) hT9.out (by decide) ?_ (by rfl) ?_ ?_; rotate_left 2; (focus (intro w5 hS; skip; go_simp <;> with_reducible rfl)); rotate_right; (focus rfl); (try simp only [Act.put, List.setIfInBounds_toArray, List.set_cons_zero, List.set_cons_succ])))
            | (focus (refine Ord3.in_off hT9.out (by decide) ?_ (by rfl) ?_; (focus rfl); (try simp only [Act.put, List.setIfInBounds_toArray, List.set_cons_zero, List.set_cons_succ]))))
          refine Ord3.in_turn (fun u => u = .int .i64 n) _ rfl hT9.out rfl (by decide) (by rfl) ?_ (Or.inl rfl) (by rfl) ?_ ?_
          · rfl
          · rintro w7 hC7 ⟨P7, hP7, hA7⟩
            cases hP7
            go_simp
            simp only [Ord3.Lands]
            refine (now_any x HX.out (by omega) (HSL.out _ hC7)).mono ?_
            rintro e w8 ⟨rfl, rfl⟩; exact ⟨_, by rw [HN.out], rfl, hC7, _, rfl, trivial⟩
          rintro _ rfl
          (try simp only [Act.put, List.setIfInBounds_toArray, List.set_cons_zero, List.set_cons_succ])
          repeat (first
            | (focus (refine Ord3.in_value (v := ?_) hT9.out (by decide) ?_ (by rfl) ?_ ?_; rotate_left 2; (focus (intro w5 hS; skip; go_simp <;> with_reducible rfl)); rotate_right; (focus rfl); (try simp only [Act.put, List.setIfInBounds_toArray, List.set_cons_zero, List.set_cons_succ])))
            | (focus (refine Ord3.in_off hT9.out (by decide) ?_ (by rfl) ?_; (focus rfl); (try simp only [Act.put, List.setIfInBounds_toArray, List.set_cons_zero, List.set_cons_succ]))))
          refine Ord3.in_turn (fun u => u = .bool b1) _ rfl hT9.out rfl (by decide) (by rfl) ?_ (Or.inr ⟨_, 5, [4, 2], rfl, by kernel_rfl, by kernel_rfl, rfl⟩) (by rfl) ?_ ?_
          · rfl
          · rintro w7 hC7 ⟨P7, hP7, hA7⟩
            cases hP7
            go_simp
            simp only [Ord3.Lands]
            refine (is_any x i HX.out (by omega) (HSL.out _ hC7)).mono ?_
            rintro e w8 ⟨rfl, hb8⟩; exact ⟨_, by first | (rw [HB1.out]; done) | rw [HB1.out, hb3], rfl, HT0.out _ _ hC7 hb8, _, rfl, trivial⟩
          rintro _ rfl
          (try simp only [Act.put, List.setIfInBounds_toArray, List.set_cons_zero, List.set_cons_succ])
          repeat (first
            | (focus (refine Ord3.in_value (v := ?_) hT9.out (by decide) ?_ (by rfl) ?_ ?_; rotate_left 2; (focus (intro w5 hS; skip; go_simp <;> with_reducible rfl)); rotate_right; (focus rfl); (try simp only [Act.put, List.setIfInBounds_toArray, List.set_cons_zero, List.set_cons_succ])))
            | (focus (refine Ord3.in_off hT9.out (by decide) ?_ (by rfl) ?_; (focus rfl); (try simp only [Act.put, List.setIfInBounds_toArray, List.set_cons_zero, List.set_cons_succ]))))
          refine Ord3.in_turn (fun u => u = .int .i64 at0) _ rfl hT9.out rfl (by decide) (by rfl) ?_ (Or.inr ⟨_, 20, [19, 18, 10], rfl, by kernel_rfl, by kernel_rfl, rfl⟩) (by rfl) ?_ ?_
          · rfl
          · rintro w7 hC7 ⟨P7, hP7, hA7⟩
            cases hP7
            go_simp
            simp only [Ord3.Lands]
            refine (slotOf_any i HI.out (by omega) (HSL.out _ hC7)).mono ?_
            rintro e w8 ⟨rfl, rfl⟩; exact ⟨_, by rw [HAT.out], rfl, hC7, _, rfl, trivial⟩
          rintro _ rfl
          (try simp only [Act.put, List.setIfInBounds_toArray, List.set_cons_zero, List.set_cons_succ])
          repeat (first
            | (focus (refine Ord3.in_value (v := ?_) hT9.out (by decide) ?_ (by rfl) ?_ ?_; rotate_left 2; (focus (intro w5 hS; skip; go_simp <;> with_reducible rfl)); rotate_right; (focus rfl); (try simp only [Act.put, List.setIfInBounds_toArray, List.set_cons_zero, List.set_cons_succ])))
            | (focus (refine Ord3.in_off hT9.out (by decide) ?_ (by rfl) ?_; (focus rfl); (try simp only [Act.put, List.setIfInBounds_toArray, List.set_cons_zero, List.set_cons_succ]))))
          refine Ord3.in_turn (fun u => ∃ A c, u = .slice A m.length c) _ ⟨none, 0, rfl⟩ hT9.out rfl (by decide) (by rfl) ?_ (Or.inr ⟨_, 27, [26, 25, 23], rfl, by kernel_rfl, by kernel_rfl, rfl⟩) (by rfl) ?_ ?_
          · rfl
          · rintro w7 hC7 ⟨P7, hP7, hA7⟩
            cases hP7
            go_simp
            simp only [Ord3.Lands]
            refine (all_any x HX.out (by omega) (HSL.out _ hC7)).mono ?_
            rintro e w8 ⟨A1, c1, rfl, ho8, hb8⟩; rw [HMM.out] at ho8; exact ⟨_, by rw [HMM.out], ⟨A1, c1, rfl⟩, HT0.out _ _ hC7 hb8, _, rfl, ownsRow_base ho8 (Nat.zero_le _)⟩
          rintro _ ⟨A1, c1, rfl⟩
          (try simp only [Act.put, List.setIfInBounds_toArray, List.set_cons_zero, List.set_cons_succ])
          repeat (first
            | (focus (refine Ord3.in_value (v := ?_) hT9.out (by decide) ?_ (by rfl) ?_ ?_; rotate_left 2; (focus (intro w5 hS; skip; go_simp <;> with_reducible rfl)); rotate_right; (focus rfl); (try simp only [Act.put, List.setIfInBounds_toArray, List.set_cons_zero, List.set_cons_succ])))
            | (focus (refine Ord3.in_off hT9.out (by decide) ?_ (by rfl) ?_; (focus rfl); (try simp only [Act.put, List.setIfInBounds_toArray, List.set_cons_zero, List.set_cons_succ]))))
          refine Ord3.in_turn (fun u => ∃ A c, u = .slice A m.length c) _ ⟨none, 0, rfl⟩ hT9.out rfl (by decide) (by rfl) ?_ (Or.inr ⟨_, 30, [], rfl, by kernel_rfl, by kernel_rfl, rfl⟩) (by rfl) ?_ ?_
          · rfl
          · rintro w7 hC7 ⟨P7, hP7, hA7⟩
            cases hP7
            go_simp
            simp only [Ord3.Lands]
            refine (rall_any x (by omega) (HRL.out _ hC7)).mono ?_
            rintro e w8 ⟨g2, c2, rfl, ho8, hb8⟩; rw [HMM.out] at ho8; exact ⟨_, by rw [HMM.out], ⟨_, c2, rfl⟩, HT0.out _ _ hC7 hb8, _, rfl, ownsRow_kept hA7 fun k e => hb8.block k (ownsRow_lt hA7 k e), ownsRow_base ho8 (Nat.zero_le _)⟩
          rintro _ ⟨A2, c2, rfl⟩
          (try simp only [Act.put, List.setIfInBounds_toArray, List.set_cons_zero, List.set_cons_succ])
          repeat (first
            | (focus (refine Ord3.in_value (v := ?_) hT9.out (by decide) ?_ (by rfl) ?_ ?_; rotate_left 2; (focus (intro w5 hS; skip; go_simp <;> with_reducible rfl)); rotate_right; (focus rfl); (try simp only [Act.put, List.setIfInBounds_toArray, List.set_cons_zero, List.set_cons_succ])))
            | (focus (refine Ord3.in_off hT9.out (by decide) ?_ (by rfl) ?_; (focus rfl); (try simp only [Act.put, List.setIfInBounds_toArray, List.set_cons_zero, List.set_cons_succ]))))
          refine Ord3.in_turn (fun u => u = .bool true) _ rfl hT9.out rfl (by decide) (by rfl) ?_ (Or.inr ⟨_, 33, [], rfl, by kernel_rfl, by kernel_rfl, rfl⟩) (by rfl) ?_ ?_
          · rfl
          · rintro w7 hC7 ⟨P7, hP7, hA7⟩
            cases hP7
            go_simp
            simp only [Ord3.Lands]
            refine (ints_any (by omega) (by omega) (cells1 hA7.1) (cells1 hA7.2)).mono ?_
            rintro e w8 ⟨rfl, hb8⟩; exact ⟨_, by rw [decide_eq_true rfl], rfl, HT0.out _ _ hC7 hb8, _, rfl, trivial⟩
          rintro _ rfl
          (try simp only [Act.put, List.setIfInBounds_toArray, List.set_cons_zero, List.set_cons_succ])
          repeat (first
            | (focus (refine Ord3.in_value (v := ?_) hT9.out (by decide) ?_ (by rfl) ?_ ?_; rotate_left 2; (focus (intro w5 hS; skip; go_simp <;> with_reducible rfl)); rotate_right; (focus rfl); (try simp only [Act.put, List.setIfInBounds_toArray, List.set_cons_zero, List.set_cons_succ])))
            | (focus (refine Ord3.in_off hT9.out (by decide) ?_ (by rfl) ?_; (focus rfl); (try simp only [Act.put, List.setIfInBounds_toArray, List.set_cons_zero, List.set_cons_succ]))))
          refine Ord3.in_turn (fun u => u = .int .i64 l.length) _ rfl hT9.out rfl (by decide) (by rfl) ?_ (Or.inr ⟨_, 37, [36, 35, 34], rfl, by kernel_rfl, by kernel_rfl, rfl⟩) (by rfl) ?_ ?_
          · rfl
          · rintro w7 hC7 ⟨P7, hP7, hA7⟩
            cases hP7
            go_simp
            simp only [Ord3.Lands]
            refine (count_any (by omega) (HSL.out _ hC7)).mono ?_
            rintro e w8 ⟨rfl, rfl⟩; exact ⟨_, rfl, rfl, hC7, _, rfl, trivial⟩
          rintro _ rfl
          (try simp only [Act.put, List.setIfInBounds_toArray, List.set_cons_zero, List.set_cons_succ])
          repeat (first
            | (focus (refine Ord3.in_value (v := ?_) hT9.out (by decide) ?_ (by rfl) ?_ ?_; rotate_left 2; (focus (intro w5 hS; have ru := HRU.out _ hS; go_simp <;> with_reducible rfl)); rotate_right; (focus rfl); (try simp only [Act.put, List.setIfInBounds_toArray, List.set_cons_zero, List.set_cons_succ])))
            | (focus (refine Ord3.in_off hT9.out (by decide) ?_ (by rfl) ?_; (focus rfl); (try simp only [Act.put, List.setIfInBounds_toArray, List.set_cons_zero, List.set_cons_succ]))))
          refine Ord3.in_turn (fun u => ∃ A c, u = .slice A M.length c) _ ⟨none, 0, rfl⟩ hT9.out rfl (by decide) (by rfl) ?_ (Or.inr ⟨_, 47, [46, 45, 39], rfl, by kernel_rfl, by kernel_rfl, rfl⟩) (by rfl) ?_ ?_
          · rfl
          · rintro w7 hC7 ⟨P7, hP7, hA7⟩
            cases hP7
            go_simp
            simp only [Ord3.Lands]
            refine (slots_is HM.out (by omega) (HSL.out _ hC7)).mono ?_
            rintro e w8 ⟨A3, c3, rfl, ho8, hb8⟩; exact ⟨_, rfl, ⟨A3, c3, rfl⟩, HT0.out _ _ hC7 hb8, _, rfl, ownsRow_base ho8 (Nat.zero_le _)⟩
          rintro _ ⟨A3, c3, rfl⟩
          (try simp only [Act.put, List.setIfInBounds_toArray, List.set_cons_zero, List.set_cons_succ])
          repeat (first
            | (focus (refine Ord3.in_value (v := ?_) hT9.out (by decide) ?_ (by rfl) ?_ ?_; rotate_left 2; (focus (intro w5 hS; skip; go_simp <;> with_reducible rfl)); rotate_right; (focus rfl); (try simp only [Act.put, List.setIfInBounds_toArray, List.set_cons_zero, List.set_cons_succ])))
            | (focus (refine Ord3.in_off hT9.out (by decide) ?_ (by rfl) ?_; (focus rfl); (try simp only [Act.put, List.setIfInBounds_toArray, List.set_cons_zero, List.set_cons_succ]))))
          refine Ord3.in_turn (fun u => ∃ A c, u = .slice A M.length c) _ ⟨none, 0, rfl⟩ hT9.out rfl (by decide) (by rfl) ?_ (Or.inr ⟨_, 49, [], rfl, by kernel_rfl, by kernel_rfl, rfl⟩) (by rfl) ?_ ?_
          · rfl
          · rintro w7 hC7 ⟨P7, hP7, hA7⟩
            cases hP7
            go_simp
            simp only [Ord3.Lands]
            refine (rslots_is HM.out (by omega) (HRL.out _ hC7)).mono ?_
            rintro e w8 ⟨A4, c4, rfl, ho8, hb8⟩; exact ⟨_, rfl, ⟨A4, c4, rfl⟩, HT0.out _ _ hC7 hb8, _, rfl, ownsRow_kept hA7 fun k e => hb8.block k (ownsRow_lt hA7 k e), ownsRow_base ho8 (Nat.zero_le _)⟩
          rintro _ ⟨A4, c4, rfl⟩
          (try simp only [Act.put, List.setIfInBounds_toArray, List.set_cons_zero, List.set_cons_succ])
          repeat (first
            | (focus (refine Ord3.in_value (v := ?_) hT9.out (by decide) ?_ (by rfl) ?_ ?_; rotate_left 2; (focus (intro w5 hS; skip; go_simp <;> with_reducible rfl)); rotate_right; (focus rfl); (try simp only [Act.put, List.setIfInBounds_toArray, List.set_cons_zero, List.set_cons_succ])))
            | (focus (refine Ord3.in_off hT9.out (by decide) ?_ (by rfl) ?_; (focus rfl); (try simp only [Act.put, List.setIfInBounds_toArray, List.set_cons_zero, List.set_cons_succ]))))
          refine Ord3.in_turn (fun u => u = .bool true) _ rfl hT9.out rfl (by decide) (by rfl) ?_ (Or.inr ⟨_, 51, [], rfl, by kernel_rfl, by kernel_rfl, rfl⟩) (by rfl) ?_ ?_
          · rfl
          · rintro w7 hC7 ⟨P7, hP7, hA7⟩
            cases hP7
            go_simp
            simp only [Ord3.Lands]
            refine (ints_any (by omega) (by omega) (cells1 hA7.1) (cells1 hA7.2)).mono ?_
            rintro e w8 ⟨rfl, hb8⟩; exact ⟨_, by rw [decide_eq_true rfl], rfl, HT0.out _ _ hC7 hb8, _, rfl, trivial⟩
          rintro _ rfl
          (try simp only [Act.put, List.setIfInBounds_toArray, List.set_cons_zero, List.set_cons_succ])
          repeat (first
            | (focus (refine Ord3.in_value (v := ?_) hT9.out (by decide) ?_ (by rfl) ?_ ?_; rotate_left 2; (focus (intro w5 hS; skip; go_simp <;> with_reducible rfl)); rotate_right; (focus rfl); (try simp only [Act.put, List.setIfInBounds_toArray, List.set_cons_zero, List.set_cons_succ])))
            | (focus (refine Ord3.in_off hT9.out (by decide) ?_ (by rfl) ?_; (focus rfl); (try simp only [Act.put, List.setIfInBounds_toArray, List.set_cons_zero, List.set_cons_succ]))))
          refine Ord3.in_nil rfl ?_
          rintro w6 hC6 -
          have hB6 := HEND.out.trans (hC6.mono HEND.out.size)
          clear hT9 hC6 h0u
          have cB : ∀ v : World, Calls Try.prog 7 #[.pointer none, .int .i64 x] v fun e w' => e = .returned (.int .i64 0) ∧ w' = v := fun v => born_low (s := none) x (.inl rfl)
          clear hcc
          go_wp2_with (first
            |
              (with_reducible refine (cB _).mono ?_; rintro e w1 ⟨rfl, rfl⟩)
            |
              (with_reducible refine (now_nil x).mono ?_; rintro e w1 ⟨rfl, rfl⟩)
            |
              (with_reducible refine (slotOf_nil i).mono ?_; rintro e w1 ⟨rfl, rfl⟩)
            |
              (with_reducible refine (count_nil).mono ?_; rintro e w1 ⟨rfl, rfl⟩)
            |
              (with_reducible refine (all_nil x).mono ?_; rintro e w1 ⟨rfl, rfl⟩)
            |
              (with_reducible refine (slots_nil).mono ?_; rintro e w1 ⟨rfl, rfl⟩)
            | (with_reducible refine (is_nil x i).mono ?_; rintro e w8 ⟨rfl, hb8⟩))
          go_ret
          exact ⟨ret_bool (by simp), hB6.trans (hb8.mono hB6.size)⟩

theorem cellsInt : Try.prog.cellsOf 3 = 1 := by kernel_rfl

theorem own : ownKnob Try.prog.godebug = none := by kernel_rfl
theorem laidOut : laidOutB Try.prog = true := by kernel_rfl

set_option maxRecDepth 100000 in
theorem lifted (os : Os) (started : os.Started) (H : Type) (enc : TypeId × Value → H) :
    ReturnsInHanded {} Try.checked os 3 .any (Rows.soulExactSpec.pre6 enc Try.prog Try.f3 Rows.soulExactRow.domain false) (Rows.soulExactSpec.post enc Try.prog Try.f3 false true false false) := by
  refine returnsInHanded_of_change (C := Try.checked) own started (by kernel_rfl) Try.func3
    (ChangeSpec.witness6 (enc := enc) (C := Try.checked) false ⟨#[], #[.slice none 0 0, .int .i64 0, .int .i64 0], []⟩ 8 (by kernel_rfl) (by kernel_rfl) (by kernel_rfl) (by kernel_rfl)) ?_
  intro W base args ds gs before hval0 hW hcnd _
  have hval : ∀ (j : Nat) t v, Try.f3.params[j]? = some t → args[j]? = some v → Value.okWide Try.prog W .any base t v := hval0
  have hW' := hW
  obtain ⟨p, q, hA0, hV, rfl, hfz, hnd⟩ := hW
  have hA : DataW.TrodAll enc Try.prog W 0 (fun _ => true) true Try.f3.params.toList args.toList ds p := hA0
  rw [Try.params3] at hA hval
  obtain ⟨v0, vs0, d0, ds0, p0, q0, hargs, rfl, rfl, g0, r0⟩ := trodAll_cons hA
  obtain ⟨v1, vs1, d1, ds1, p1, q1, rfl, rfl, rfl, g1, r1⟩ := trodAll_cons r0
  obtain ⟨v2, vs2, d2, ds2, p2, q2, rfl, rfl, rfl, g2, r2⟩ := trodAll_cons r1
  obtain ⟨rfl, rfl, rfl⟩ := trodAll_nil r2
  obtain rfl : args = #[v0, v1, v2] := by cases args; simp_all
  obtain ⟨rfl, rfl⟩ := trodVars_none hV
  obtain ⟨a1, rfl, rfl, rfl, w1⟩ := open_int Try.underlying3 (hval 1 3 v1 rfl rfl) g1
  have h1 := i64_in w1
  obtain ⟨a2, rfl, rfl, rfl, w2⟩ := open_int Try.underlying3 (hval 2 3 v2 rfl rfl) g2
  have h2 := i64_in w2
  obtain ⟨A0, n0, cap0, rfl⟩ := okWide_slice Try.underlying22 (hval 0 22 v0 rfl rfl)
  obtain ⟨zs0, rfl, h0, w0, row0⟩ := open_num_row Try.underlying22 Try.underlying3 cellsInt g0 (fun x hx => hW'.lt x (by simp [hx]))
  unfold maxLen at h0
  clear hA0 hval0
  refine (walk zs0 A0 cap0 a1 a2 (fun z hz => i64_in (w0 z hz)) h0 h1 h2 W row0).mono fun e W' ⟨he, hg⟩ => ?_
  subst he
  exact ⟨_, rfl, law_post laidOut (by kernel_rfl) (by kernel_rfl) Try.underlying4 rfl rfl hW' hg⟩

theorem over : Rows.soulExactRow.holds Try.pinned (OpenSpec.ofChange Rows.soulExactSpec) :=
  OpenClaim.holds_of_wide 3 Try.f3 rfl rfl rfl rfl rfl rfl rfl ⟨rfl, rfl, rfl, rfl, rfl⟩ rfl rfl rfl rfl rfl (by kernel_rfl) Try.func3 (by kernel_rfl)
    (of_decide_eq_true (by kernel_rfl)) (by unfold Func.isWrapper; first | (rw [if_pos (by decide +kernel)]; kernel_rfl) | (rw [if_neg (by decide +kernel)]; exact ⟨rfl, rfl⟩))
    (fun os started H enc _ => lifted os started H enc)

/-- THE STATEMENT. -/
theorem proved : Rows.SoulExactSaid := over
#print axioms proved
end Go.Proofs.Ytlefhcaoblenaaa.soulExact
