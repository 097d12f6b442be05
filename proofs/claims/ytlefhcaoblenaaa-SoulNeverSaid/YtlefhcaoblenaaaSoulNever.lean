/- SoulNever: who isn't any more never is again; no two slots are the same one; each identity was born in just one slot: so the law answers true, for every input. -/
import Derived.Test.YtlefhcaoblenaaaSoulW
import Derived.Test.YtlefhcaoblenaaaSoulV
import Derived.Test.YtlefhcaoblenaaaSeq
import Derived.Test.YtlefhcaoblenaaaLaw
import Derived.Test.YtlefhcaoblenaaaOpenRows
import Derived.Test.YtlefhcaoblenaaaRows
import Derived.Deep.CutRange
import Derived.Deep.CutBlock
namespace Go.Proofs.Ytlefhcaoblenaaa.soulNever
open Go.ChangeShapes Go.WideShapes Go.ChangeAt Go.RowKit Go.Maps

theorem bornL_in {l : List Int} {z : Int} (h : ∀ y ∈ l, In64 y) (hz : In64 z) : ∀ y ∈ bornL l z, In64 y := by
  unfold bornL
  split
  · exact h
  · intro y hy
    rcases List.mem_append.1 hy with hy | hy
    · exact h y hy
    · rw [List.mem_singleton.1 hy]; exact hz

set_option maxRecDepth 100000 in
set_option maxHeartbeats 6400000 in
theorem walk (zs ys : List Int) (A B : Option Addr) (cap cap2 : Nat) (hz : ∀ z ∈ zs, In64 z) (hy : ∀ z ∈ ys, In64 z) (hlen : zs.length ≤ 9223372036854775807) (hlen2 : ys.length ≤ 9223372036854775807) (w : World)
    (hr : zs = [] ∨ ∃ blk off, A = some ⟨blk, off, none⟩ ∧ blk < w.heap.size ∧ ∀ i, i < zs.length → w.cell? ⟨blk, off + i, none⟩ = some (.int .i64 (zs.getD i 0)))
    (hr2 : ys = [] ∨ ∃ blk off, B = some ⟨blk, off, none⟩ ∧ blk < w.heap.size ∧ ∀ i, i < ys.length → w.cell? ⟨blk, off + i, none⟩ = some (.int .i64 (ys.getD i 0))) :
    Calls Try.prog 4 #[.slice A zs.length cap, .slice B ys.length cap2] w fun e w' => e = .returned (.bool true) ∧ Below w.heap.size w w' := by
  have hE := Env.start w
  have HZ := Lib.hid hz
  have HY := Lib.hid hy
  have HR := Lib.hid hr
  have HR2 := Lib.hid hr2
  clear hz hy hr hr2
  go_enter Try.func4, Try.ntmps4
  go_wp2_with fail
  refine (awake6 _).mono ?_
  rintro e w1 ⟨rfl, hb⟩
  replace hE := hE.over hb
  clear hb
  by_cases h50 : 50 < zs.length
  · have hb50 : decide (50 < (zs.length : Int)) = true := by simp; omega
    go_wp2
    go_ret
    exact ⟨rfl, hE.below⟩
  by_cases h51 : 50 < ys.length
  · have hb50 : decide (50 < (zs.length : Int)) = false := by simp; omega
    have hb51 : decide (50 < (ys.length : Int)) = true := by simp; omega
    go_wp2
    go_ret
    exact ⟨rfl, hE.below⟩
  have hb50 : decide (50 < (zs.length : Int)) = false := by simp; omega
  have hb51 : decide (50 < (ys.length : Int)) = false := by simp; omega
  go_wp2_with fail
  refine (new_any w1).mono ?_
  rintro e w2 ⟨rfl, hC, hb⟩
  replace hE := hE.madeS hC (Nat.le_refl _) hb
  clear hC hb hb50 hb51
  generalize w1.heap.size = s at *
  go_upto_block 0 with fail
  go_cut [6] from 30 to 41 (fun _ wx => ∃ (F : Nat → Prop) (l : List Int), l.length ≤ 50 ∧ (∀ y ∈ l, In64 y) ∧ Env w [soulI s F l] wx)
  case first =>
    go_wp2_with fail
    go_loopw [6] (fun iv wr => ∃ (k : Nat) (F : Nat → Prop) (l : List Int), k ≤ zs.length ∧ l.length ≤ k ∧ (∀ y ∈ l, In64 y) ∧ iv = .int .i64 k ∧ Env w [soulI s F l] wr) (fun iv _ => zs.length - (intOf iv).toNat)
    case atStart => exact ⟨0, _, [], by omega, by simp, by simp, rfl, hE⟩
    case round =>
      obtain ⟨k, F, l, hk, hl, hin, rfl, hEr⟩ := hrel
      clear hE
      by_cases hlt : k < zs.length
      · rcases HR.out with hz0 | ⟨blk, off, rfl, hbw, hc⟩
        · rw [hz0] at hlt; simp at hlt
        have hxk : In64 (zs.getD k 0) := HZ.out _ (by simp [hlt])
        have c0 : wr.cell? ⟨blk, off + k, none⟩ = some (.int .i64 (zs.getD k 0)) := by rw [hEr.below.cell (p := ⟨blk, off + k, none⟩) hbw]; exact hc k hlt
        clear hc
        generalize zs.getD k 0 = z at *
        have hb1 : decide ((k : Int) < zs.length) = true := by simp; omega
        have hi1 : (0 : Int) ≤ (k : Int) ∧ (k : Int) < zs.length := by omega
        have HIN := Lib.hid hin
        have HXK := Lib.hid hxk
        clear hin hxk
        go_wp2_with fail
        refine (bornX_any z HXK.out (by omega) (hEr.soul 0 rfl)).mono ?_
        rintro e w5 ⟨rfl, F5, hC, hs⟩
        have hE5 := hEr.turnS 0 rfl hC hs
        clear c0 hC hs
        go_wp2_with fail
        exact ⟨⟨k + 1, F5, _, by omega, by have := bornL_length l z; omega, bornL_in HIN.out HXK.out, by simp, hE5⟩, by simp [intOf]; omega⟩
      · have hb1 : decide ((k : Int) < zs.length) = false := by simp; omega
        go_wp2_with fail
        go_meet
        case rel => exact ⟨F, l, by omega, hin, hEr⟩
  case rest =>
    obtain ⟨F, l, hl, hin, hEr⟩ := hcut
    clear hE
    have HIN := Lib.hid hin
    clear hin
    go_wp2_with fail
    refine (count_any (by omega) (hEr.soul 0 rfl)).mono ?_
    rintro e wn ⟨rfl, rfl⟩
    have hE2 := hEr.addEmpty wn.heap.size rfl
    clear hEr
    go_upto_block 2 with fail
    go_cut [8, 9] from 45 to 61 (fun v8 _ wx => ∃ g cap, v8 = .slice (some ⟨g, 0, none⟩) l.length cap ∧ Env w [intsI (.slice (some ⟨g, 0, none⟩) l.length cap) (wasL l l.length), soulI s F l] wx)
    case first =>
      go_wp2_with fail
      go_loopw [8, 9] (fun v8 iv wr => ∃ k g cap : Nat, k ≤ l.length ∧ iv = .int .i64 ((k : Int) + 1) ∧ v8 = .slice (some ⟨g, 0, none⟩) k cap ∧ Env w [intsI (.slice (some ⟨g, 0, none⟩) k cap) (wasL l k), soulI s F l] wr) (fun _ iv _ => l.length + 1 - (intOf iv).toNat)
      case atStart => exact ⟨0, _, 0, by omega, rfl, rfl, hE2⟩
      case round =>
        obtain ⟨k, g, cap, hk, rfl, rfl, hEr⟩ := hrel
        clear hE2
        by_cases hlt : k < l.length
        · have hb1 : decide ((k : Int) + 1 ≤ l.length) = true := by simp; omega
          have hi : In64 ((k : Int) + 1) := by unfold In64; omega
          obtain ⟨y, hy⟩ : ∃ y, slotL l ((k : Int) + 1) = y := ⟨_, rfl⟩
          have hyI : In64 y := by rw [← hy]; exact HIN.out _ (slotL_mem (by omega) (by omega))
          have hw1 : was1 l ((k : Int) + 1) = if nowL l y = (k : Int) + 1 then 1 else 0 := by unfold was1; rw [hy]
          have HYI := Lib.hid hyI
          have HYY := Lib.hid hy
          have HWS := Lib.hid (wasL_succ l k)
          have HW1 := Lib.hid hw1
          have hwr : wrap64 ((k : Int) + 1 + 1) = (k : Int) + 1 + 1 := w64 _ (by omega)
          obtain ⟨n, hn⟩ : ∃ n, nowL l y = n := ⟨_, rfl⟩
          rw [hn] at HW1
          have HN := Lib.hid hn
          clear hyI hy hw1 hn
          go_wp2_with fail
          refine (slotOf_any ((k : Int) + 1) hi (by omega) (hEr.soul 1 rfl)).mono ?_
          rintro e w5 ⟨rfl, rfl⟩
          rw [HYY.out]
          go_wp2_with fail
          refine (is_any y ((k : Int) + 1) HYI.out (by omega) (hEr.soul 1 rfl)).mono ?_
          rintro e w6 ⟨rfl, hb6⟩
          have hE6 := hEr.over hb6
          rw [HN.out]
          clear hb6 hEr
          have hlw := wasL_length l k
          by_cases hnk : n = (k : Int) + 1
          · have hd : decide ((k : Int) + 1 ≠ 0 ∧ n = (k : Int) + 1) = true := by rw [decide_eq_true_iff]; omega
            obtain ⟨g1, cap1, w7, hrun, hE7, -⟩ := hE6.append1 0 rfl 1 (by omega) w6.heap.size rfl
            rw [hlw] at hrun hE7
            have HRUN := Lib.hid hrun
            have hw1 := HW1.out
            rw [if_pos hnk] at hw1
            clear hrun
            rw [hd]
            go_wp2_with (first | (at_builtin; refine wpList_append_run rfl _ _ 22 rfl HRUN.out rfl rfl ?_))
            exact ⟨⟨k + 1, g1, cap1, by omega, by simp, rfl, by rw [HWS.out, hw1]; exact hE7⟩, by simp [intOf]; omega⟩
          · have hd : decide ((k : Int) + 1 ≠ 0 ∧ n = (k : Int) + 1) = false := by rw [decide_eq_false_iff_not]; omega
            obtain ⟨g1, cap1, w7, hrun, hE7, -⟩ := hE6.append1 0 rfl 0 (by omega) w6.heap.size rfl
            rw [hlw] at hrun hE7
            have HRUN := Lib.hid hrun
            have hw1 := HW1.out
            rw [if_neg hnk] at hw1
            clear hrun
            rw [hd]
            go_wp2_with (first | (at_builtin; refine wpList_append_run rfl _ _ 22 rfl HRUN.out rfl rfl ?_))
            exact ⟨⟨k + 1, g1, cap1, by omega, by simp, rfl, by rw [HWS.out, hw1]; exact hE7⟩, by simp [intOf]; omega⟩
        · have hke : k = l.length := by omega
          subst hke
          have hb1 : decide ((l.length : Int) + 1 ≤ l.length) = false := by simp; omega
          go_wp2_with fail
          go_meet
          case rel => exact ⟨g, cap, rfl, hEr⟩
    case rest =>
      obtain ⟨gw, cw, rfl, hE3⟩ := hcut
      clear hE2
      go_upto_block 4 with fail
      go_cut [12] from 62 to 91 (fun _ wx => ∃ (F2 : Nat → Prop) (r : List Int), (l ++ r).length ≤ 100 ∧ (∀ y ∈ l ++ r, In64 y) ∧ Env w [intsI (.slice (some ⟨gw, 0, none⟩) l.length cw) (wasL l l.length), soulI s F2 (l ++ r)] wx)
      case first =>
        go_wp2_with fail
        go_loopw [12] (fun iv wr => ∃ (k : Nat) (F2 : Nat → Prop) (r : List Int), k ≤ ys.length ∧ (l ++ r).length ≤ l.length + k ∧ (∀ y ∈ l ++ r, In64 y) ∧ iv = .int .i64 k ∧ Env w [intsI (.slice (some ⟨gw, 0, none⟩) l.length cw) (wasL l l.length), soulI s F2 (l ++ r)] wr) (fun iv _ => ys.length - (intOf iv).toNat)
        case atStart => exact ⟨0, F, [], by omega, by simp, by simpa using HIN.out, rfl, by simpa using hE3⟩
        case round =>
          obtain ⟨k, F2, r, hk, hl2, hin, rfl, hEr⟩ := hrel
          clear hE3
          have hge : l.length ≤ (l ++ r).length := by simp
          have hass : ∀ z, (l ++ r) ++ [z] = l ++ (r ++ [z]) := fun z => by simp
          have HASS := Lib.hid hass
          clear hass
          by_cases hlt : k < ys.length
          · rcases HR2.out with hz0 | ⟨blk, off, rfl, hbw, hc⟩
            · rw [hz0] at hlt; simp at hlt
            have hxk : In64 (ys.getD k 0) := HY.out _ (by simp [hlt])
            have HC : Hid (∀ w', Below w.heap.size w w' → w'.cell? ⟨blk, off + k, none⟩ = some (.int .i64 (ys.getD k 0))) := Lib.hid fun w' h => by rw [h.cell (p := ⟨blk, off + k, none⟩) hbw]; exact hc k hlt
            clear hc
            generalize ys.getD k 0 = z at *
            have c0 := HC.out _ hEr.below
            have hb1 : decide ((k : Int) < ys.length) = true := by simp; omega
            have hi1 : (0 : Int) ≤ (k : Int) ∧ (k : Int) < ys.length := by omega
            have HIN2 := Lib.hid hin
            have HXK := Lib.hid hxk
            clear hin hxk
            generalize hl3 : l ++ r = l3 at *
            have HL3 := Lib.hid hl3
            clear hl3
            by_cases hz1 : z < 1
            · have hbv : bornV l3 z = 0 := by unfold bornV; rw [if_pos hz1]
              have hbl : bornL l3 z = l3 := by unfold bornL; rw [if_pos hz1]
              go_wp2_with fail
              refine (bornX_any z HXK.out (by omega) (hEr.soul 1 rfl)).mono ?_
              rintro e w5 ⟨rfl, F5, hC, hs⟩
              rw [hbv]
              rw [hbl] at hC
              have hE5 := hEr.turnS 1 rfl hC hs
              clear c0 hC hs
              go_wp2_with fail
              exact ⟨⟨k + 1, F5, r, by omega, by rw [HL3.out]; omega, by rw [HL3.out]; exact HIN2.out, by simp, by rw [HL3.out]; exact hE5⟩, by simp [intOf]; omega⟩
            · have hbv : bornV l3 z = (l3.length : Int) + 1 := by unfold bornV; rw [if_neg hz1]
              have hbl : bornL l3 z = l3 ++ [z] := by unfold bornL; rw [if_neg hz1]
              have hnow : nowL (l3 ++ [z]) z = (l3.length : Int) + 1 := by rw [nowL_snoc, if_pos rfl]
              have hne : (((l3.length : Int) + 1) != 0) = true := by rw [bne_iff_ne]; omega
              have hle : decide ((l3.length : Int) + 1 ≤ l.length) = false := by rw [decide_eq_false_iff_not]; omega
              have HNOW := Lib.hid hnow
              clear hnow
              go_wp2_with fail
              refine (bornX_any z HXK.out (by omega) (hEr.soul 1 rfl)).mono ?_
              rintro e w5 ⟨rfl, F5, hC, hs⟩
              rw [hbv]
              rw [hbl] at hC
              have hE5 := hEr.turnS 1 rfl hC hs
              have c5 := HC.out _ hE5.below
              clear c0 hC hs hbv hbl
              go_wp2_with fail
              refine (is_any z ((l3.length : Int) + 1) HXK.out (by simp; omega) (hE5.soul 1 rfl)).mono ?_
              rintro e w6 ⟨rfl, hb6⟩
              rw [HNOW.out, show decide ((l3.length : Int) + 1 ≠ 0 ∧ (l3.length : Int) + 1 = (l3.length : Int) + 1) = true by rw [decide_eq_true_iff]; omega]
              have hE6 := hE5.over hb6
              clear c5 hb6
              go_wp2_with fail
              refine ⟨⟨k + 1, F5, r ++ [z], by omega, ?_, ?_, by simp, by rw [← HASS.out]; exact hE6⟩, by simp [intOf]; omega⟩
              · have := congrArg List.length HL3.out
                simp at this
                simp; omega
              · intro y hy
                rw [← HASS.out] at hy
                rcases List.mem_append.1 hy with hy | hy
                · exact HIN2.out y hy
                · rw [List.mem_singleton.1 hy]; exact HXK.out
          · have hb1 : decide ((k : Int) < ys.length) = false := by simp; omega
            go_wp2_with fail
            go_meet
            case rel => exact ⟨F2, r, by omega, hin, hEr⟩
      case rest =>
        obtain ⟨F2, r, hl2, hin2, hE4⟩ := hcut
        clear hE3
        have HIN2 := Lib.hid hin2
        clear hin2
        have hge : l.length ≤ (l ++ r).length := by simp
        go_upto_block 6 with fail
        go_cut [14] from 92 to 111 (fun _ wx => Env w [intsI (.slice (some ⟨gw, 0, none⟩) l.length cw) (wasL l l.length), soulI s F2 (l ++ r)] wx)
        case first =>
          go_wp2_with fail
          go_loopw [14] (fun iv wr => ∃ k : Nat, k ≤ l.length ∧ iv = .int .i64 ((k : Int) + 1) ∧ Env w [intsI (.slice (some ⟨gw, 0, none⟩) l.length cw) (wasL l l.length), soulI s F2 (l ++ r)] wr) (fun iv _ => l.length + 1 - (intOf iv).toNat)
          case atStart => exact ⟨0, by omega, rfl, hE4⟩
          case round =>
            obtain ⟨k, hk, rfl, hEr⟩ := hrel
            clear hE4
            by_cases hlt : k < l.length
            · have hb1 : decide ((k : Int) + 1 ≤ l.length) = true := by simp; omega
              have hi : In64 ((k : Int) + 1) := by unfold In64; omega
              have hwr : wrap64 ((k : Int) + 1 + 1) = (k : Int) + 1 + 1 := w64 _ (by omega)
              have hwr1 : wrap64 ((k : Int) + 1 - 1) = (k : Int) := by rw [w64 _ (by omega)]; omega
              have hi1 : (0 : Int) ≤ (k : Int) ∧ (k : Int) < l.length := by omega
              have hck : wr.cell? ⟨gw, k, none⟩ = some (.int .i64 (was1 l ((k : Int) + 1))) := by
                rcases hEr.rowCells 0 (wasL_length l l.length).symm rfl with h0 | ⟨g', hgg, hg, hc⟩
                · have := wasL_length l l.length
                  rw [h0] at this; simp at this; omega
                · obtain rfl : gw = g' := by simpa using hgg
                  have := hc k (by rw [wasL_length]; exact hlt)
                  rwa [wasL_get hlt] at this
              obtain ⟨y, hy⟩ : ∃ y, slotL l ((k : Int) + 1) = y := ⟨_, rfl⟩
              have hyI : In64 y := by rw [← hy]; exact HIN.out _ (slotL_mem (by omega) (by omega))
              have hw1 : was1 l ((k : Int) + 1) = if nowL l y = (k : Int) + 1 then 1 else 0 := by unfold was1; rw [hy]
              have hy2 : slotL (l ++ r) ((k : Int) + 1) = y := by rw [slotL_append l r _ (by omega)]; exact hy
              have HYI := Lib.hid hyI
              have HY2 := Lib.hid hy2
              clear hyI hy2 hy
              by_cases hnk : nowL l y = (k : Int) + 1
              · rw [hw1, if_pos hnk] at hck
                clear hw1
                go_wp2_with fail
                exact ⟨⟨k + 1, by omega, by simp, hEr⟩, by simp [intOf]; omega⟩
              · rw [hw1, if_neg hnk] at hck
                have hnv := never_again (by omega) hnk r
                have HNV := Lib.hid hnv
                clear hw1 hnk hnv
                generalize hl3 : l ++ r = l3 at *
                go_wp2_with fail
                refine (slotOf_any ((k : Int) + 1) hi (by omega) (hEr.soul 1 rfl)).mono ?_
                rintro e w5 ⟨rfl, rfl⟩
                rw [HY2.out]
                go_wp2_with fail
                refine (is_any y ((k : Int) + 1) HYI.out (by omega) (hEr.soul 1 rfl)).mono ?_
                rintro e w6 ⟨rfl, hb6⟩
                have hE6 := hEr.over hb6
                rw [show decide ((k : Int) + 1 ≠ 0 ∧ nowL l3 y = (k : Int) + 1) = false by rw [decide_eq_false_iff_not]; exact fun h => HNV.out h.2]
                clear hb6 hck
                go_wp2_with fail
                exact ⟨⟨k + 1, by omega, by simp, hE6⟩, by simp [intOf]; omega⟩
            · have hke : k = l.length := by omega
              subst hke
              have hb1 : decide ((l.length : Int) + 1 ≤ l.length) = false := by simp; omega
              go_wp2_with fail
              go_meet
              case rel => exact hEr
        case rest =>
          have hE5 := hcut.sub (List.Sublist.cons _ (List.Sublist.refl _))
          clear hcut hE4 HIN
          generalize l ++ r = l2 at *
          obtain ⟨M, hM, hMl⟩ := slots_ex l2
          have HM := Lib.hid hM
          have hMN : M.length ≤ l2.length := hMl
          clear hM hMl hge
          go_wp2_with fail
          refine (slots_is HM.out (by omega) (hE5.soul 0 rfl)).mono ?_
          rintro e w5 ⟨A5, c5, rfl, ho5, hb5⟩
          have hE6 := hE5.addRow ho5 hb5
          clear ho5 hb5 hE5
          go_wp2_with fail
          go_loopw [16, 17] (fun sv iv wr => ∃ k : Nat, k ≤ M.length ∧ sv = .int .i64 (sumN l2 M k) ∧ iv = .int .i64 k ∧ Env w [intsI (.slice A5 M.length c5) M, soulI s F2 l2] wr) (fun _ iv _ => M.length - (intOf iv).toNat)
          case atStart => exact ⟨0, by omega, rfl, rfl, hE6⟩
          case round =>
            obtain ⟨k, hk, rfl, rfl, hEr⟩ := hrel
            clear hE6
            by_cases hlt : k < M.length
            · have hb1 : decide ((k : Int) < M.length) = true := by simp; omega
              have hi1 : (0 : Int) ≤ (k : Int) ∧ (k : Int) < M.length := by omega
              rcases hEr.rowCells 0 rfl rfl with h0 | ⟨g, rfl, hg, hc⟩
              · rw [h0] at hlt; simp at hlt
              have hxm : M.getD k 0 ∈ M := by simp [hlt]
              have hxl : M.getD k 0 ∈ l2 := (HM.out.2 _).1 hxm
              have hsum := sumN_succ (l := l2) hlt
              have hsle := sumN_le HM.out (k + 1)
              have hprev : 0 < k → nowL l2 (M.getD (k - 1) 0) ≠ nowL l2 (M.getD k 0) := fun h => slots_prev HM.out hlt (by omega)
              have HCK : Hid (∀ w' : World, w'.ownsRow 0 3 1 (.slice (some ⟨g, 0, none⟩) M.length c5) M.length (ints M) → ∀ j, j < M.length → w'.cell? ⟨g, j, none⟩ = some (.int .i64 (M.getD j 0))) := Lib.hid fun w' h j hj => by
                rcases cells1 h with h0 | ⟨g', hgg, hg, hc⟩
                · rw [h0] at hj; simp at hj
                · obtain rfl : g = g' := by simpa using hgg
                  exact hc j hj
              have ck := hc k hlt
              clear hc
              have hxI := HIN2.out _ hxl
              have hne := ids_ne_nil.2 hxl
              generalize hxe : M.getD k 0 = x at *
              have HXE := Lib.hid hxe
              have HXI := Lib.hid hxI
              have HPREV := Lib.hid hprev
              have HSUM := Lib.hid hsum
              have hml := ids_length_le l2 x
              have hlast := getLastD_eq hne
              have hnow : nowL l2 x = (ids l2 x).getLastD 0 := rfl
              have hpos : 0 < (ids l2 x).length := List.length_pos_iff.2 hne
              rw [hsum] at hsle
              generalize hm : ids l2 x = m at *
              have HM2 := Lib.hid hm
              have HNOW := Lib.hid (hnow.trans hlast)
              clear hxe hxI hprev hsum hlast hnow hm hne
              go_wp2_with fail
              refine (all_any x HXI.out (by omega) (hEr.soul 1 rfl)).mono ?_
              rintro e w6 ⟨A6, c6, rfl, ho6, hb6⟩
              rw [HM2.out] at ho6 ⊢
              have hE6 := hEr.addRow ho6 hb6
              clear ho6 hb6 ck
              have hws : wrap64 ((sumN l2 M k : Int) + m.length) = ((sumN l2 M k + m.length : Nat) : Int) := by rw [w64 _ (by omega)]; omega
              go_wp2_with fail
              obtain ⟨n, hn⟩ : ∃ n, nowL l2 x = n := ⟨_, rfl⟩
              rw [hn] at HNOW HPREV
              have HCA : Hid (∀ w' : World, w'.ownsRow 0 3 1 (.slice A6 m.length c6) m.length (ints m) → ∃ g6, A6 = some ⟨g6, 0, none⟩ ∧ w'.cell? ⟨g6, m.length - 1, none⟩ = some (.int .i64 n)) := Lib.hid fun w' h => by
                rcases cells1 h with h0 | ⟨g', hgg, hg, hc⟩
                · rw [h0] at hpos; simp at hpos
                · exact ⟨g', hgg, by rw [hc _ (by omega), HNOW.out]⟩
              obtain ⟨g6, rfl, -⟩ := HCA.out _ (hE6.row 0 rfl)
              have HC6 : Hid (∀ w' : World, w'.ownsRow 0 3 1 (.slice (some ⟨g6, 0, none⟩) m.length c6) m.length (ints m) → w'.cell? ⟨g6, m.length - 1, none⟩ = some (.int .i64 n)) := Lib.hid fun w' h => by
                obtain ⟨g', hgg, hc⟩ := HCA.out w' h
                obtain rfl : g6 = g' := by simpa using hgg
                exact hc
              have HNN : Hid (∀ v : World, Env w [intsI (.slice (some ⟨g6, 0, none⟩) m.length c6) m, intsI (.slice (some ⟨g, 0, none⟩) M.length c5) M, soulI s F2 l2] v → Calls Try.prog 9 #[.pointer (some ⟨s, 0, none⟩), .int .i64 x] v fun e w' => e = .returned (.int .i64 n) ∧ w' = v) := Lib.hid fun v hv => by
                rw [← hn]; exact now_any x HXI.out (by omega) (hv.soul 2 rfl)
              have hm0 : ((m.length : Int) == 0) = false := by rw [beq_eq_false_iff_ne]; omega
              have hwm : IntKind.i64.wrap ((m.length : Int) - 1) = ((m.length - 1 : Nat) : Int) := by rw [wrap_i, w64 _ (by omega)]; omega
              have him : (0 : Int) ≤ ((m.length - 1 : Nat) : Int) ∧ ((m.length - 1 : Nat) : Int) < m.length := by omega
              have him2 : m.length - 1 < m.length := by omega
              clear HCA hn
              by_cases hk0 : k = 0
              · have hgt : decide ((k : Int) > 0) = false := by rw [decide_eq_false_iff_not]; omega
                have hgt2 : decide (0 < (k : Int)) = false := hgt
                have hgt3 : decide (0 < k) = false := by rw [decide_eq_false_iff_not]; omega
                clear hk0
                refine wp_text (S := Env w [intsI (.slice (some ⟨g6, 0, none⟩) m.length c6) m, intsI (.slice (some ⟨g, 0, none⟩) M.length c5) M, soulI s F2 l2]) (by kernel_rfl) (by kernel_rfl) hE6.drew (fun hT => ?_)
                have hT9 := Lib.hid hT
                clear hT
                repeat (first
                  | (refine text_value (v := ?_) hT9.out (by rfl) ?_ ?_; rotate_left; (focus (intro w5 hS; have c0 := HC6.out _ (hS.row 0 rfl); have c1 := HCK.out _ (hS.row 1 rfl) k hlt; rw [HXE.out] at c1; go_simp <;> with_reducible rfl)); (try simp only [Act.put, List.setIfInBounds_toArray, List.set_cons_zero, List.set_cons_succ]))
                  | (refine text_off hT9.out (by rfl) ?_; (try simp only [Act.put, List.setIfInBounds_toArray, List.set_cons_zero, List.set_cons_succ]))
                  | (refine text_call (v := ?_) (f := ?_) (args := ?_) hT9.out (by rfl) ?_ ?_ ?_; rotate_left 3; (focus (intro w5 hS; have c0 := HC6.out _ (hS.row 0 rfl); have c1 := HCK.out _ (hS.row 1 rfl) k hlt; rw [HXE.out] at c1; go_simp; constructor <;> with_reducible rfl)); (focus (intro w5 hS; (first | (with_reducible refine (HNN.out _ hS).mono ?_; rintro e w7 ⟨rfl, rfl⟩; constructor; with_reducible rfl; exact hS)))); (try simp only [Act.put, List.setIfInBounds_toArray, List.set_cons_zero, List.set_cons_succ])))
                refine InText.nil fun w5 hS5 => ?_
                clear hT9
                have hE7 := hS5.sub (List.Sublist.cons _ (List.Sublist.refl _))
                clear hE6 hS5
                go_wp2_with fail
                exact ⟨⟨k + 1, by omega, by rw [HSUM.out, hws], by simp, hE7⟩, by simp [intOf]; omega⟩
              · have hgt : decide ((k : Int) > 0) = true := by rw [decide_eq_true_iff]; omega
                have hgt2 : decide (0 < (k : Int)) = true := hgt
                have hgt3 : decide (0 < k) = true := by rw [decide_eq_true_iff]; omega
                have hwk : IntKind.i64.wrap ((k : Int) - 1) = ((k - 1 : Nat) : Int) := by rw [wrap_i, w64 _ (by omega)]; omega
                have hik : (0 : Int) ≤ ((k - 1 : Nat) : Int) ∧ ((k - 1 : Nat) : Int) < M.length := by omega
                have hik2 : k - 1 < M.length := by omega
                obtain ⟨x0, hx0⟩ : ∃ x0, M.getD (k - 1) 0 = x0 := ⟨_, rfl⟩
                have hx0I : In64 x0 := HIN2.out _ ((HM.out.2 _).1 (by rw [← hx0]; simp [hik2]))
                obtain ⟨n0, hn0⟩ : ∃ n0, nowL l2 x0 = n0 := ⟨_, rfl⟩
                have hnn : (n0 == n) = false := by
                  have := HPREV.out (by omega)
                  rw [hx0, hn0] at this
                  simpa using this
                have HX0 := Lib.hid hx0
                have HN0 : Hid (∀ v : World, Env w [intsI (.slice (some ⟨g6, 0, none⟩) m.length c6) m, intsI (.slice (some ⟨g, 0, none⟩) M.length c5) M, soulI s F2 l2] v → Calls Try.prog 9 #[.pointer (some ⟨s, 0, none⟩), .int .i64 x0] v fun e w' => e = .returned (.int .i64 n0) ∧ w' = v) := Lib.hid fun v hv => by
                  rw [← hn0]; exact now_any x0 hx0I (by omega) (hv.soul 2 rfl)
                clear hx0 hx0I hn0 hk0
                refine wp_text (S := Env w [intsI (.slice (some ⟨g6, 0, none⟩) m.length c6) m, intsI (.slice (some ⟨g, 0, none⟩) M.length c5) M, soulI s F2 l2]) (by kernel_rfl) (by kernel_rfl) hE6.drew (fun hT => ?_)
                have hT9 := Lib.hid hT
                clear hT
                repeat (first
                  | (refine text_value (v := ?_) hT9.out (by rfl) ?_ ?_; rotate_left; (focus (intro w5 hS; have c0 := HC6.out _ (hS.row 0 rfl); have c1 := HCK.out _ (hS.row 1 rfl) k hlt; rw [HXE.out] at c1; have c2 := HCK.out _ (hS.row 1 rfl) (k - 1) hik2; rw [HX0.out] at c2; go_simp <;> with_reducible rfl)); (try simp only [Act.put, List.setIfInBounds_toArray, List.set_cons_zero, List.set_cons_succ]))
                  | (refine text_off hT9.out (by rfl) ?_; (try simp only [Act.put, List.setIfInBounds_toArray, List.set_cons_zero, List.set_cons_succ]))
                  | (refine text_call (v := ?_) (f := ?_) (args := ?_) hT9.out (by rfl) ?_ ?_ ?_; rotate_left 3; (focus (intro w5 hS; have c0 := HC6.out _ (hS.row 0 rfl); have c1 := HCK.out _ (hS.row 1 rfl) k hlt; rw [HXE.out] at c1; have c2 := HCK.out _ (hS.row 1 rfl) (k - 1) hik2; rw [HX0.out] at c2; go_simp; constructor <;> with_reducible rfl)); (focus (intro w5 hS; (first | (with_reducible refine (HNN.out _ hS).mono ?_; rintro e w7 ⟨rfl, rfl⟩; constructor; with_reducible rfl; exact hS) | (with_reducible refine (HN0.out _ hS).mono ?_; rintro e w7 ⟨rfl, rfl⟩; constructor; with_reducible rfl; exact hS)))); (try simp only [Act.put, List.setIfInBounds_toArray, List.set_cons_zero, List.set_cons_succ])))
                refine InText.nil fun w5 hS5 => ?_
                clear hT9
                have hE7 := hS5.sub (List.Sublist.cons _ (List.Sublist.refl _))
                clear hE6 hS5
                go_wp2_with fail
                exact ⟨⟨k + 1, by omega, by rw [HSUM.out, hws], by simp, hE7⟩, by simp [intOf]; omega⟩
            · have hke : k = M.length := by omega
              subst hke
              have hb1 : decide ((M.length : Int) < M.length) = false := by simp
              have hsa := sumN_all HM.out
              rw [hsa]
              go_wp2_with fail
              refine (count_any (by omega) (hEr.soul 1 rfl)).mono ?_
              rintro e w6 ⟨rfl, rfl⟩
              go_wp2
              go_ret
              exact ⟨ret_bool (by simp), hEr.below⟩

theorem cellsInt : Try.prog.cellsOf 3 = 1 := by kernel_rfl

theorem own : ownKnob Try.prog.godebug = none := by kernel_rfl
theorem laidOut : laidOutB Try.prog = true := by kernel_rfl

set_option maxRecDepth 100000 in
theorem lifted (os : Os) (started : os.Started) (H : Type) (enc : TypeId × Value → H) :
    ReturnsInHanded {} Try.checked os 4 .any (Rows.soulNeverSpec.pre6 enc Try.prog Try.f4 Rows.soulNeverRow.domain false) (Rows.soulNeverSpec.post enc Try.prog Try.f4 false true false false) := by
  refine returnsInHanded_of_change (C := Try.checked) own started (by kernel_rfl) Try.func4
    (ChangeSpec.witness6 (enc := enc) (C := Try.checked) false ⟨#[], #[.slice none 0 0, .slice none 0 0], []⟩ 8 (by kernel_rfl) (by kernel_rfl) (by kernel_rfl) (by kernel_rfl)) ?_
  intro W base args ds gs before hval0 hW hcnd _
  have hval : ∀ (j : Nat) t v, Try.f4.params[j]? = some t → args[j]? = some v → Value.okWide Try.prog W .any base t v := hval0
  have hW' := hW
  obtain ⟨p, q, hA0, hV, rfl, hfz, hnd⟩ := hW
  have hA : DataW.TrodAll enc Try.prog W 0 (fun _ => true) true Try.f4.params.toList args.toList ds p := hA0
  rw [Try.params4] at hA hval
  obtain ⟨v0, vs0, d0, ds0, p0, q0, hargs, rfl, rfl, g0, r0⟩ := trodAll_cons hA
  obtain ⟨v1, vs1, d1, ds1, p1, q1, rfl, rfl, rfl, g1, r1⟩ := trodAll_cons r0
  obtain ⟨rfl, rfl, rfl⟩ := trodAll_nil r1
  obtain rfl : args = #[v0, v1] := by cases args; simp_all
  obtain ⟨rfl, rfl⟩ := trodVars_none hV
  obtain ⟨A0, n0, cap0, rfl⟩ := okWide_slice Try.underlying22 (hval 0 22 v0 rfl rfl)
  obtain ⟨zs0, rfl, h0, w0, row0⟩ := open_num_row Try.underlying22 Try.underlying3 cellsInt g0 (fun x hx => hW'.lt x (by simp [hx]))
  unfold maxLen at h0
  obtain ⟨A1, n1, cap1, rfl⟩ := okWide_slice Try.underlying22 (hval 1 22 v1 rfl rfl)
  obtain ⟨zs1, rfl, h1, w1, row1⟩ := open_num_row Try.underlying22 Try.underlying3 cellsInt g1 (fun x hx => hW'.lt x (by simp [hx]))
  unfold maxLen at h1
  clear hA0 hval0
  refine (walk zs0 zs1 A0 A1 cap0 cap1 (fun z hz => i64_in (w0 z hz)) (fun z hz => i64_in (w1 z hz)) h0 h1 W row0 row1).mono fun e W' ⟨he, hg⟩ => ?_
  subst he
  exact ⟨_, rfl, law_post laidOut (by kernel_rfl) (by kernel_rfl) Try.underlying4 rfl rfl hW' hg⟩

theorem over : Rows.soulNeverRow.holds Try.pinned (OpenSpec.ofChange Rows.soulNeverSpec) :=
  OpenClaim.holds_of_wide 4 Try.f4 rfl rfl rfl rfl rfl rfl rfl ⟨rfl, rfl, rfl, rfl, rfl⟩ rfl rfl rfl rfl rfl (by kernel_rfl) Try.func4 (by kernel_rfl)
    (of_decide_eq_true (by kernel_rfl)) (by unfold Func.isWrapper; first | (rw [if_pos (by decide +kernel)]; kernel_rfl) | (rw [if_neg (by decide +kernel)]; exact ⟨rfl, rfl⟩))
    (fun os started H enc _ => lifted os started H enc)

/-- THE STATEMENT. -/
theorem proved : Rows.SoulNeverSaid := over
#print axioms proved
end Go.Proofs.Ytlefhcaoblenaaa.soulNever
