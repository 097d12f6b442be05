/- QueueExact (P11.1, P11.2): of every row of deeds each answer, the entries in order, and the room, are the document's. Of all first rows and all rows of deeds; first rows of more than 50 entries and deeds of more than 20 are answered true by the statement itself, deeds behind the hundredth are not looked at. -/
import Derived.Test.YtjiohencpopbeaaF2
import Derived.Test.YtjiohencpopbeaaChecked
import Derived.WalkKit
import Derived.ProofKit
import Derived.OpenShut
import Derived.Test.YtjiohencpopbeaaRows

/- Queues: the contract of grow. -/
namespace Go.Proofs.Ytjiohencpopbeaa
open Go.RowKit Go.Maps
set_option maxRecDepth 100000

theorem round_apart (g a b : Nat) (h : a ≤ 1048576) (h' : b ≤ 1048576) : ((cnt (g + a)) != (cnt (g + b))) = decide (a ≠ b) := by
  unfold cnt
  by_cases e : a = b
  · subst e; simp
  · have : (g + a) % 18446744073709551616 ≠ (g + b) % 18446744073709551616 := by omega
    have h2 : (((g + a) % 18446744073709551616 : Nat) : Int) ≠ (((g + b) % 18446744073709551616 : Nat) : Int) := by omega
    simp only [bne_iff_ne, ne_eq, h2, not_false_iff, e, decide_true]

theorem round_left (g a b : Nat) (h : a ≤ b) (h' : b ≤ 1048576) : ((cnt (g + b) - cnt (g + a)) % 18446744073709551616).toNat = b - a := by unfold cnt; omega

set_option maxHeartbeats 1600000 in
theorem grow_any {w : World} {q k n : Nat} {F : Nat → Prop} {l : List Trip} (hn : n ≤ 1048576) (hln : l.length ≤ n) (hQ : IsQ w q F l k) :
    Calls Try.prog 20 #[.pointer (some ⟨q, 0, none⟩), .int .i64 n] w fun e w' => e = .returned (.tuple #[]) ∧ ∃ k' F', Rm k n k' ∧ IsQ w' q F' l k' ∧ Step F F' w w' := by
  obtain ⟨hl1, hl2, hk2, hk⟩ := hQ.len
  have hQ0 := Lib.hid hQ
  obtain ⟨R, g, r, hq, hr, hring, _, _, hne, hF⟩ := hQ
  have hrl := hring.1
  have h4 := pow_four hk2
  have hs := pow_small hk
  have r0 := hq.rule
  unfold qv at r0
  have HQB := Lib.hid (And.intro hq (And.intro hr (And.intro hring hF)))
  have hqw := hq.1
  have hRw := hr.1
  clear hq hr hring hF
  generalize hN : 2 ^ k = N at *
  have HN : Hid (N = 2 ^ k) := Lib.hid hN.symm
  clear hN
  have HR0 := Lib.hid r0
  go_enter Try.func20, Try.ntmps20
  go_wp2_with fail
  all_goals (try omega)
  go_loopw [4] (fun i wr => ∃ j M : Nat, Hid (M = 2 ^ j) ∧ k ≤ j ∧ j ≤ 20 ∧ (j = k ∨ M < 2 * n) ∧ i = .int .i64 M ∧ w = wr) (fun i _ => 4194304 - (intOf i).toNat)
  case atStart => exact ⟨k, N, HN, Nat.le_refl _, hk, .inl rfl, rfl, rfl⟩
  case round =>
    obtain ⟨j, M, HM, hkj, hj20, hjn, rfl, rfl⟩ := hrel
    have hM4 : 4 ≤ M := by rw [HM.out]; exact pow_four (by omega)
    have hMs : M ≤ 1048576 := by rw [HM.out]; exact pow_small hj20
    by_cases hlt : M < n
    · go_wp2_with fail
      have hM2 : M * 2 = 2 ^ (j + 1) := by rw [HM.out, Nat.pow_succ]
      have hj : j + 1 ≤ 20 := by
        apply Classical.byContradiction
        intro hc
        have := Nat.pow_le_pow_right (n := 2) (by omega) (show 21 ≤ j + 1 by omega)
        simp only [← hM2] at this
        simp at this
        omega
      exact ⟨⟨j + 1, M * 2, Lib.hid hM2, by omega, hj, .inr (by omega), by simp⟩, by simp [intOf]; omega⟩
    · by_cases hjk : j = k
      · have hMN : M = N := by rw [HM.out, HN.out, hjk]
        subst hMN
        go_wp2_with fail
        refine bodyPost_ret (results_none rfl _ _ _) rfl ?_
        exact ⟨rfl, k, F, ⟨Nat.le_refl _, by rw [← HN.out]; omega, .inl rfl⟩, hQ0.out, Step.refl _ _⟩
      · have hNM : 2 * N ≤ M := by rw [HM.out, HN.out]; exact pow_up (by omega)
        have hMN : M ≠ N := by omega
        have hMb : ((M : Int) == (N : Int)) = false := by rw [beq_eq_false_iff_ne]; omega
        clear hQ0
        go_wp2_with (refine wpList_make3 _ rfl _ _ 22 rfl 35 Try.underlying22 infoEnt .i64 .i64 _ _ M rfl rfl rfl rfl (by omega) ?_)
        have hB0 := Blk.new 0 w (flat3 (List.replicate M t0)) 35
        have hE0 := (Below.refl w.heap.size w).alloc (Nat.le_refl _) (.cells (flat3 (List.replicate M t0)).toArray 35)
        have HJ := Lib.hid hjn
        clear HR0 hjn
        generalize hb1 : w.heap.size = b at *
        have HB1 := Lib.hid hb1
        clear hb1
        generalize w.alloc (.cells (flat3 (List.replicate M t0)).toArray 35) = w2 at *
        go_loopw [6] (fun c v => ∃ m : Nat, m ≤ l.length ∧ c = .int .u64 (cnt (g + m)) ∧ Below b w v ∧ ∃ r', Ring r' M g (l.take m) ∧ Blk 0 v b (flat3 r')) (fun c _ => ((cnt (g + l.length) - intOf c) % 18446744073709551616).toNat)
        case atStart => exact ⟨0, Nat.zero_le _, rfl, hE0, _, Ring.start M g, hB0⟩
        case round =>
          obtain ⟨m, hml, rfl, hB, r', hring, hb5⟩ := hrel
          clear hB0 hE0
          have hqb : q < b ∧ R < b := by rw [← HB1.out]; exact ⟨HQB.out.1.1, HQB.out.2.1.1⟩
          have hbs : b ≤ wr.heap.size := by rw [← HB1.out]; exact hB.size
          have hq5 : Blk 0 wr q _ := HQB.out.1.kept (by rw [HB1.out]; exact hbs) (hB.block _ hqb.1)
          have hr5 : Blk 0 wr R _ := HQB.out.2.1.kept (by rw [HB1.out]; exact hbs) (hB.block _ hqb.2)
          have rq := hq5.rule
          unfold qv at rq
          have hap := round_apart g m l.length (by omega) (by omega)
          by_cases hlt2 : m < l.length
          · rw [decide_eq_true (by omega)] at hap
            have hlen : (l.take m).length = m := by simp; omega
            have hpush := hring.push (by rw [hlen]; omega) (l.getD m t0)
            rw [hlen] at hpush
            have htk : l.take m ++ [l.getD m t0] = l.take (m + 1) := by
              rw [List.take_succ_eq_append_getElem hlt2, show l.getD m t0 = l[m] by simp [hlt2]]
            rw [htk] at hpush
            have hrl5 := hring.1
            have hp1 : (g + m) % M < M := Nat.mod_lt _ (by omega)
            have hp2 : (g + m) % N < N := Nat.mod_lt _ (by omega)
            have HA1 := Lib.hid fun w' => at_any b j (g + m) w' hj20
            have HA2 := Lib.hid fun w' => at_any R k (g + m) w' hk
            rw [← HM.out] at HA1
            rw [← HN.out] at HA2
            have hat := HQB.out.2.2.1.at m hlt2
            have hcell : ∀ w', Blk 0 w' R (flat3 r) → w'.cell? ⟨R, (g + m) % N * 3, none⟩ = some (.int .i64 (l.getD m t0).1) ∧ w'.cell? ⟨R, (g + m) % N * 3 + 1, none⟩ = some (.int .i64 (l.getD m t0).2.1) ∧ w'.cell? ⟨R, (g + m) % N * 3 + 2, none⟩ = some (.int .i64 (l.getD m t0).2.2) := fun w' h => by
              have e := fun c hc => (h.rule ((g + m) % N * 3 + c)).trans (flat3_get r ((g + m) % N) c (by omega) hc)
              rw [hat] at e
              exact ⟨e 0 (by omega), e 1 (by omega), e 2 (by omega)⟩
            clear hat hlen htk hring
            generalize l.getD m t0 = xx at *
            obtain ⟨x, y, z⟩ := xx
            simp only at hcell
            have HC := Lib.hid hcell
            have HP := Lib.hid hpush
            have HL := Lib.hid (round_left g m l.length (by omega) hl2)
            have HL1 := Lib.hid (round_left g (m + 1) l.length (by omega) hl2)
            have hup := round_up g m
            have hup1 := round_up (g + m) 1
            simp only [Int.natCast_one] at hup1
            clear hcell hpush
            generalize (g + m) % M = p1 at *
            generalize (g + m) % N = p2 at *
            unfold qv at hq5
            generalize cnt g = G at *
            generalize hcm : cnt (g + m) = CM at *
            generalize hcl : cnt (g + l.length) = CL at *
            generalize hcm1 : cnt (g + m + 1) = CM1 at *
            have HCM1 := Lib.hid hcm1
            clear hcm hcl hcm1 hup
            go_wp2_with fail
            refine Ord.wp_chain [12] (fun w' => Blk 0 w' q [.slice (some ⟨R, 0, none⟩) N N, .int .u64 G, .int .u64 CL] ∧ Blk 0 w' R (flat3 r)) (fun i w' => b ≤ w'.heap.size ∧ Below b w w' ∧ Blk 0 w' b (flat3 (if i = 0 then r' else r'.set p1 (x, y, z)))) (by kernel_rfl) (by kernel_rfl) (by kernel_rfl) ⟨hq5.drew, hr5.drew⟩ ⟨hbs, hB.drew, hb5.drew⟩ (fun hT => ?_)
            have hT9 := Lib.hid hT
            clear hT
            repeat (first
              | (refine Ord.ch_value (v := ?_) hT9.out (by decide) (by rfl) ?_ ?_; rotate_left; (focus (intro w5 hS; have r := Blk.rule hS.1; obtain ⟨c0, c1, c2⟩ := HC.out _ hS.2; go_simp <;> with_reducible rfl)); (try simp only [Act.put, List.setIfInBounds_toArray, List.set_cons_zero, List.set_cons_succ]))
              | (refine Ord.ch_off hT9.out (by decide) (by rfl) ?_; (try simp only [Act.put, List.setIfInBounds_toArray, List.set_cons_zero, List.set_cons_succ]))
              | (refine Ord.ch_call (v := ?_) (f := ?_) (args := ?_) hT9.out (by decide) (by rfl) ?_ ?_ ?_; rotate_left 3; (focus (intro w5 hS; have r := Blk.rule hS.1; obtain ⟨c0, c1, c2⟩ := HC.out _ hS.2; go_simp; constructor <;> with_reducible rfl)); (focus (intro w5 hS; (first | (with_reducible refine (HA1.out w5).mono ?_; rintro e w6 ⟨rfl, rfl⟩; constructor; with_reducible rfl; exact ⟨hS, fun _ h => h⟩) | (with_reducible refine (HA2.out w5).mono ?_; rintro e w6 ⟨rfl, rfl⟩; constructor; with_reducible rfl; exact ⟨hS, fun _ h => h⟩)))); (try simp only [Act.put, List.setIfInBounds_toArray, List.set_cons_zero, List.set_cons_succ])))
            refine Ord.ch_turn (v := undef) 0 hT9.out rfl (by decide) (Or.inl rfl) (by rfl) ?_ ?_
            · rintro w5 hS ⟨hA0, hA1, hA2⟩
              simp only [if_true] at hA2
              have hcells := fun c hc => (hA2.rule (p1 * 3 + c)).trans (flat3_get _ p1 c (by omega) hc)
              have r0 := hcells 0 (by omega)
              have r1 := hcells 1 (by omega)
              have r2 := hcells 2 (by omega)
              simp only [Nat.add_zero, enc3, List.getElem?_cons_zero, List.getElem?_cons_succ] at r0 r1 r2
              have hfl := flat3_length r'
              have f0 := hA2.thaw (p1 * 3) (by omega)
              have f1 := hA2.thaw (p1 * 3 + 1) (by omega)
              have f2 := hA2.thaw (p1 * 3 + 2) (by omega)
              clear hcells
              go_simp
              refine ⟨rfl, ⟨((hS.1.off (by omega) _).off (by omega) _).off (by omega) _, ((hS.2.off (by omega) _).off (by omega) _).off (by omega) _⟩, by simpa using hA0, ?_, ?_⟩
              · exact below_set (below_set (below_set hA1 hA0 (Nat.le_refl _) _) (by simp; omega) (Nat.le_refl _) _) (by simp; omega) (Nat.le_refl _) _
              · exact Blk.set3 hA2 (by omega) (x, y, z)
            (try simp only [Act.put, List.setIfInBounds_toArray, List.set_cons_zero, List.set_cons_succ])
            repeat (first
              | (refine Ord.ch_value (v := ?_) hT9.out (by decide) (by rfl) ?_ ?_; rotate_left; (focus (intro w5 hS; skip; go_simp <;> with_reducible rfl)); (try simp only [Act.put, List.setIfInBounds_toArray, List.set_cons_zero, List.set_cons_succ]))
              | (refine Ord.ch_off hT9.out (by decide) (by rfl) ?_; (try simp only [Act.put, List.setIfInBounds_toArray, List.set_cons_zero, List.set_cons_succ])))
            refine Ord.InText.nil fun w5 hS => ?_
            clear hT9
            obtain ⟨hC9, hA9⟩ := Ord.chain_end hS
            clear hS
            obtain ⟨hA0, hA1, hA2⟩ := hA9
            rw [if_neg (by decide)] at hA2
            go_wp2_with fail
            refine ⟨⟨m + 1, by omega, by rw [← HCM1.out]; rfl, hA1, _, HP.out, hA2⟩, ?_⟩
            show ((CL - CM1) % 18446744073709551616).toNat < ((CL - CM) % 18446744073709551616).toNat
            rw [HL.out, HL1.out]
            omega
          · have hml' : m = l.length := by omega
            subst hml'
            rw [decide_eq_false (by omega)] at hap
            rw [List.take_length] at hring
            have f0 := hq5.thaw 0 (by simp [qv])
            go_wp2_with fail
            go_end0
            have hset : (qv R N g l.length).set 0 (.slice (some ⟨b, 0, none⟩) M M) = qv b M g l.length := rfl
            have hq9 := hq5.set (i := 0) (by simp [qv]) (.slice (some ⟨b, 0, none⟩) M M)
            rw [hset] at hq9
            have hb9 := hb5.off (B := q) (i := 0) (by omega) (.slice (some ⟨b, 0, none⟩) M M)
            refine ⟨rfl, j, fun x => x = q ∨ x = b, ⟨hkj, by rw [← HM.out]; omega, .inr (by rw [← HM.out]; rcases HJ.out with h | h; exact absurd h hjk; exact h)⟩, ⟨b, g, r', by rw [← HM.out]; exact hq9, hb9, by rw [← HM.out]; exact hring, by omega, hj20, by omega, fun x => Iff.rfl⟩, ?_, ?_⟩
            · have hB' : Below w.heap.size w wr := by rw [HB1.out]; exact hB
              exact (Turn.of_below hB' : Turn F w wr).setCell (p := ⟨q, 0, none⟩) (fun _ => (HQB.out.2.2.2 q).2 (.inl rfl)) _
            · rintro x (rfl | rfl)
              · exact .inl ((HQB.out.2.2.2 x).2 (.inl rfl))
              · exact .inr (by rw [HB1.out]; exact Nat.le_refl _)
end Go.Proofs.Ytjiohencpopbeaa

/- Queues: the contracts of Push, New. -/
namespace Go.Proofs.Ytjiohencpopbeaa
open Go.RowKit Go.Maps
set_option maxRecDepth 100000

set_option maxHeartbeats 1600000 in
theorem push_any {w : World} {q k cap : Nat} {F : Nat → Prop} {l xs : List Trip} {A : Option Addr} (hn : l.length + xs.length ≤ 1048576) (hA : Row3 w A xs) (hoff : xs ≠ [] → ∀ b, In3 A b → ¬ F b) (hQ : IsQ w q F l k) :
    Calls Try.prog 9 #[.pointer (some ⟨q, 0, none⟩), .slice A xs.length cap] w fun e w' => e = .returned (.int .i64 0) ∧ ∃ k' F', Rm k (l.length + xs.length) k' ∧ IsQ w' q F' (l ++ xs) k' ∧ Step F F' w w' := by
  have hsum : wrap64 ((l.length : Int) + (xs.length : Int)) = ((l.length + xs.length : Nat) : Int) := by rw [w64 _ (by omega)]; omega
  go_enter Try.func9, Try.ntmps9
  go_wp2_with fail
  refine (len_any hQ).mono ?_
  rintro e w1 ⟨rfl, hb⟩
  have hlt1 := hQ.lt
  have hQ1 := hQ.below hb
  have hkle := hQ.len.2.2.2
  have HA := Lib.hid (And.intro hA (And.intro hoff (And.intro hb hlt1)))
  have HSUM := Lib.hid hsum
  clear hQ hA hoff hb hlt1 hsum
  go_wp2_with fail
  have HS1 : Hid (IntKind.i64.wrap ((l.length : Int) + (xs.length : Int)) = ((l.length + xs.length : Nat) : Int)) := Lib.hid (by rw [wrap_i]; exact HSUM.out)
  try rw [HS1.out]
  try rw [HSUM.out]
  refine (grow_any hn (by omega) hQ1).mono ?_
  rintro e w2 ⟨rfl, k', F1, hRm, hQ2, hs2⟩
  clear hQ1
  have hk20 := hRm.le hkle hn
  have hN := hRm.2.1
  have HRM := Lib.hid hRm
  clear hRm
  have hst : Step F F1 w w2 := (Step.of_below F HA.out.2.2.1).trans hs2
  clear hs2
  go_wp2_with fail
  go_loopw [6, 18] (fun _ i v => ∃ j : Nat, j ≤ xs.length ∧ i = .int .i64 j ∧ IsQ v q F1 (l ++ xs.take j) k' ∧ Step F F1 w v) (fun _ i _ => xs.length - (intOf i).toNat)
  case atStart => exact ⟨0, Nat.zero_le _, rfl, by simpa using hQ2, hst⟩
  case round =>
    clear hQ2 hst
    obtain ⟨j, hj, rfl, hQ5, hst5⟩ := hrel
    by_cases hlt : j < xs.length
    · have hrow : Row3 wr A xs := HA.out.1.kept (fun b hb => hst5.turn.block b (by
        rcases HA.out.1 with h0 | ⟨b', off, he, hl', hc⟩
        · rw [h0] at hlt; simp at hlt
        · obtain ⟨o, ho⟩ := hb
          rw [he] at ho
          cases ho
          exact hl') (HA.out.2.1 (by rintro rfl; simp at hlt) b hb)) hst5.turn.size
      rcases hrow with h0 | ⟨b, off, rfl, hbl, hc⟩
      · rw [h0] at hlt; simp at hlt
      have hc := hc j hlt
      have hlen : (l ++ xs.take j).length = l.length + j := by simp; omega
      obtain ⟨R, g, r, hq, hr, hring, hk2, _, hne, hF⟩ := hQ5
      have hpush := hring.push (by rw [hlen]; omega) (xs.getD j t0)
      rw [hlen] at hq hpush
      have htk : l ++ xs.take j ++ [xs.getD j t0] = l ++ xs.take (j + 1) := by
        rw [List.take_succ_eq_append_getElem hlt, show xs.getD j t0 = xs[j] by simp [hlt], List.append_assoc]
      rw [htk] at hpush
      have hrl := hring.1
      have hp1 : (g + (l.length + j)) % 2 ^ k' < 2 ^ k' := Nat.mod_lt _ (by have := pow_four hk2; omega)
      have HA1 := Lib.hid fun w' => at_any R k' (g + (l.length + j)) w' hk20
      have hup1 := round_up (g + (l.length + j)) 1
      simp only [Int.natCast_one] at hup1
      have HF := Lib.hid (And.intro hF (And.intro hk2 hne))
      have hqF : F1 q := (hF q).2 (.inl rfl)
      have hRF : F1 R := (hF R).2 (.inr rfl)
      clear hring htk hlen hF hk2
      rw [t0_default] at hc
      generalize xs.getD j t0 = xx at *
      obtain ⟨x, y, z⟩ := xx
      obtain ⟨c0, c1, c2⟩ := at3 hc
      clear hc
      have hset : (qv R (2 ^ k') g (l.length + j)).set 2 (.int .u64 (cnt (g + (l.length + j) + 1))) = qv R (2 ^ k') g (l.length + (j + 1)) := rfl
      have HSET := Lib.hid hset
      have HP := Lib.hid hpush
      clear hset hpush
      have hql := hq.1
      have hRl := hr.1
      generalize (g + (l.length + j)) % 2 ^ k' = p at *
      have HQ := Lib.hid hq
      have rq := hq.rule
      unfold qv at hq rq
      have hq1 := hq.more (.cells [.int .i64 x, .int .i64 y, .int .i64 z].toArray 35)
      have hr1 := hr.more (.cells [.int .i64 x, .int .i64 y, .int .i64 z].toArray 35)
      have hB1 := Blk.new 0 wr [.int .i64 x, .int .i64 y, .int .i64 z] 35
      have ht1 : Turn F1 wr (wr.alloc (.cells [.int .i64 x, .int .i64 y, .int .i64 z].toArray 35)) := (Turn.refl F1 wr).alloc _
      clear hq hr
      generalize hg : cnt g = G at *
      have HG := Lib.hid hg
      clear hg
      generalize cnt (g + (l.length + j)) = CN at *
      generalize hcn1 : cnt (g + (l.length + j) + 1) = CN1 at *
      have HCN1 := Lib.hid hcn1
      clear hcn1
      generalize hNN : 2 ^ k' = N at *
      have HNN := Lib.hid hNN
      clear hNN
      go_wp2_with fail
      refine Ord.wp_chain [11] (fun w' => Blk 0 w' q [.slice (some ⟨R, 0, none⟩) N N, .int .u64 G, .int .u64 CN] ∧ Blk 0 w' wr.heap.size [.int .i64 x, .int .i64 y, .int .i64 z]) (fun i w' => Turn F1 wr w' ∧ Blk 0 w' R (flat3 (if i = 0 then r else r.set p (x, y, z)))) (by kernel_rfl) (by kernel_rfl) (by kernel_rfl) ⟨hq1.drew, hB1.drew⟩ ⟨ht1.drew, hr1.drew⟩ (fun hT => ?_)
      have hT9 := Lib.hid hT
      clear hT
      repeat (first
        | (refine Ord.ch_value (v := ?_) hT9.out (by decide) (by rfl) ?_ ?_; rotate_left; (focus (intro w5 hS; have rr := Blk.rule hS.1; have r3 := Blk.rule hS.2; go_simp <;> with_reducible rfl)); (try simp only [Act.put, List.setIfInBounds_toArray, List.set_cons_zero, List.set_cons_succ]))
        | (refine Ord.ch_off hT9.out (by decide) (by rfl) ?_; (try simp only [Act.put, List.setIfInBounds_toArray, List.set_cons_zero, List.set_cons_succ]))
        | (refine Ord.ch_call (v := ?_) (f := ?_) (args := ?_) hT9.out (by decide) (by rfl) ?_ ?_ ?_; rotate_left 3; (focus (intro w5 hS; have rr := Blk.rule hS.1; have r3 := Blk.rule hS.2; go_simp; constructor <;> with_reducible rfl)); (focus (intro w5 hS; (first | (with_reducible refine (HA1.out w5).mono ?_; rintro e w6 ⟨rfl, rfl⟩; constructor; with_reducible rfl; exact ⟨hS, fun _ h => h⟩)))); (try simp only [Act.put, List.setIfInBounds_toArray, List.set_cons_zero, List.set_cons_succ])))
      refine Ord.ch_turn (v := undef) 0 hT9.out rfl (by decide) (Or.inl rfl) (by rfl) ?_ ?_
      · rintro w5 hS ⟨hA1, hA2⟩
        simp only [if_true] at hA2
        have hcells := fun c hc => (hA2.rule (p * 3 + c)).trans (flat3_get _ p c (by omega) hc)
        have r0 := hcells 0 (by omega)
        have r1 := hcells 1 (by omega)
        have r2 := hcells 2 (by omega)
        simp only [Nat.add_zero, enc3, List.getElem?_cons_zero, List.getElem?_cons_succ] at r0 r1 r2
        have hfl := flat3_length r
        have f0 := hA2.thaw (p * 3) (by omega)
        have f1 := hA2.thaw (p * 3 + 1) (by omega)
        have f2 := hA2.thaw (p * 3 + 2) (by omega)
        clear hcells rq
        go_simp
        refine ⟨rfl, ⟨((hS.1.off hne _).off hne _).off hne _, ((hS.2.off (by omega) _).off (by omega) _).off (by omega) _⟩, ?_, ?_⟩
        · exact ((hA1.setCell (p := ⟨R, p * 3, none⟩) (fun _ => hRF) _).setCell (p := ⟨R, p * 3 + 1, none⟩) (fun _ => hRF) _).setCell (p := ⟨R, p * 3 + 2, none⟩) (fun _ => hRF) _
        · exact Blk.set3 hA2 (by omega) (x, y, z)
      (try simp only [Act.put, List.setIfInBounds_toArray, List.set_cons_zero, List.set_cons_succ])
      repeat (first
        | (refine Ord.ch_value (v := ?_) hT9.out (by decide) (by rfl) ?_ ?_; rotate_left; (focus (intro w5 hS; skip; go_simp <;> with_reducible rfl)); (try simp only [Act.put, List.setIfInBounds_toArray, List.set_cons_zero, List.set_cons_succ]))
        | (refine Ord.ch_off hT9.out (by decide) (by rfl) ?_; (try simp only [Act.put, List.setIfInBounds_toArray, List.set_cons_zero, List.set_cons_succ])))
      refine Ord.InText.nil fun w5 hS => ?_
      clear hT9
      obtain ⟨hC9, hA9⟩ := Ord.chain_end hS
      clear hS
      obtain ⟨hA1, hA2⟩ := hA9
      rw [if_neg (by decide)] at hA2
      have hq9 := hC9.1
      have r9 := hq9.rule
      have f9 := hq9.thaw 2 (by simp)
      clear hC9 rq
      go_wp2_with fail
      have hqq := hq9.set (i := 2) (by simp) (.int .u64 CN1)
      have hrr := hA2.off (B := q) (i := 2) (fun e => hne e.symm) (.int .u64 CN1)
      refine ⟨⟨j + 1, by omega, by simp, ⟨R, g, r.set p (x, y, z), ?_, hrr, by rw [HNN.out]; exact HP.out, HF.out.2.1, hk20, hne, HF.out.1⟩, hst5.trans ⟨hA1.setCell (p := ⟨q, 2, none⟩) (fun _ => hqF) _, fun x hx => .inl hx⟩⟩, by simp [intOf]; omega⟩
      have hl9 : (l ++ xs.take (j + 1)).length = l.length + (j + 1) := by simp; omega
      rw [hl9, HNN.out]
      show Blk 0 _ q [.slice (some ⟨R, 0, none⟩) N N, .int .u64 (cnt g), .int .u64 (cnt (g + (l.length + j) + 1))]
      rw [HG.out, HCN1.out]
      exact hqq
    · go_wp2_with fail
      have : j = xs.length := by omega
      subst this
      rw [List.take_length] at hQ5
      go_ret
      exact ⟨rfl, k', F1, HRM.out, hQ5, hst5⟩
theorem pushNil_any (v : Value) (w : World) : Calls Try.prog 9 #[.pointer none, v] w fun e w' => e = .returned (.int .i64 2) ∧ w = w' := by
  go_enter Try.func9, Try.ntmps9
  go_wp2_with fail
  go_ret
  exact ⟨rfl, rfl⟩

set_option maxHeartbeats 800000 in
theorem newQ_any {w : World} {cap : Nat} {xs : List Trip} {A : Option Addr} (hn : xs.length ≤ 1048576) (hA : Row3 w A xs) :
    Calls Try.prog 6 #[.slice A xs.length cap] w fun e w' => ∃ q F k, e = .returned (.pointer (some ⟨q, 0, none⟩)) ∧ Rm 2 xs.length k ∧ IsQ w' q F xs k ∧ Below w.heap.size w w' ∧ (∀ j, F j → w.heap.size ≤ j) := by
  have hr := Blk.new 0 w (flat3 [t0, t0, t0, t0]) 35
  have hb1 := (Below.refl w.heap.size w).alloc (Nat.le_refl _) (.cells (flat3 [t0, t0, t0, t0]).toArray 35)
  have hs1 : (w.alloc (.cells (flat3 [t0, t0, t0, t0]).toArray 35)).heap.size = w.heap.size + 1 := by simp
  have hq := Blk.new 0 (w.alloc (.cells (flat3 [t0, t0, t0, t0]).toArray 35)) (qv w.heap.size 4 0 0) 54
  have hr2 := hr.more (.cells (qv w.heap.size 4 0 0).toArray 54)
  have hb2 := hb1.alloc (by rw [hs1]; omega) (.cells (qv w.heap.size 4 0 0).toArray 54)
  rw [hs1] at hq
  have hQ : IsQ _ (w.heap.size + 1) (fun j => j = w.heap.size + 1 ∨ j = w.heap.size) [] 2 := ⟨w.heap.size, 0, [t0, t0, t0, t0], hq, hr2, ⟨rfl, by simp, fun i h => by simp at h⟩, by omega, by omega, by omega, fun j => Iff.rfl⟩
  have hA2 := RowX.below hA hb2
  have hoff : xs ≠ [] → ∀ b, In3 A b → ¬ (b = w.heap.size + 1 ∨ b = w.heap.size) := fun hne b hb => by
    rcases hA with h0 | ⟨b', off, he, hl', hc⟩
    · exact absurd h0 hne
    · obtain ⟨o, ho⟩ := hb
      rw [he] at ho
      cases ho
      omega
  have hsz := hb2.size
  have HALL := Lib.hid (And.intro hQ (And.intro hA2 (And.intro hoff hb2)))
  clear hr hb1 hs1 hq hr2 hb2 hQ hA2 hoff hA hsz
  go_enter Try.func6, Try.ntmps6
  go_wp2_with (refine wpList_make3 _ rfl _ _ 22 rfl 35 Try.underlying22 infoEnt .i64 .i64 _ _ 4 rfl rfl rfl rfl (by omega) ?_)
  obtain ⟨hQ, hA2, hoff, hb2⟩ := HALL.out
  refine (push_any (by simpa using hn) hA2 hoff hQ).mono ?_
  rintro e w1 ⟨rfl, k', F', hRm, hQ9, hst⟩
  go_wp2_with fail
  go_ret
  have hsz := hb2.size
  refine ⟨_, F', k', rfl, by simpa using hRm, by simpa using hQ9, ?_, hst.base hsz ?_⟩
  · exact Turn.below hb2 hst.turn hsz (fun j hj => by omega)
  · intro j hj; omega
end Go.Proofs.Ytjiohencpopbeaa

/- Queues: slices.Equal of rows of entries; the contract of Same; queues among other things. -/
namespace Go.Proofs.Ytjiohencpopbeaa
open Go.RowKit Go.Maps
set_option maxRecDepth 100000

theorem take_next_eq {xs ys : List Trip} {j : Nat} (hx : j < xs.length) (hy : j < ys.length) : xs.take (j + 1) = ys.take (j + 1) ↔ xs.take j = ys.take j ∧ xs.getD j t0 = ys.getD j t0 := by
  rw [List.take_succ_eq_append_getElem hx, List.take_succ_eq_append_getElem hy, show xs.getD j t0 = xs[j] by simp [hx], show ys.getD j t0 = ys[j] by simp [hy]]
  constructor
  · intro h
    have := List.append_inj' h rfl
    exact ⟨this.1, by simpa using this.2⟩
  · rintro ⟨h1, h2⟩; rw [h1, h2]

set_option maxHeartbeats 1600000 in
theorem equal_any {w : World} {c d : Nat} {xs ys : List Trip} {A B : Option Addr} (hm : xs.length ≤ 1099511627776) (hx : Row3 w A xs) (hy : Row3 w B ys) :
    Calls Try.prog 22 #[.slice A xs.length c, .slice B ys.length d] w fun e w' => e = .returned (.bool (decide (xs = ys))) ∧ Below w.heap.size w w' := by
  by_cases hlen : xs.length = ys.length
  · have HX := Lib.hid hx
    have HY := Lib.hid hy
    have HLEN := Lib.hid hlen
    have hb0 : ((xs.length : Int) != (ys.length : Int)) = false := by rw [hlen]; simp
    have hl63 : Hid (∀ j : Nat, j < xs.length → (j : Int) < ys.length) := Lib.hid fun j h => by omega
    clear hlen hx hy
    go_enter Try.func22, Try.ntmps22
    go_wp2_with fail
    go_loopw [5, 13] (fun _ i v => ∃ j : Nat, j ≤ xs.length ∧ i = .int .i64 j ∧ xs.take j = ys.take j ∧ Below w.heap.size w v) (fun _ i _ => xs.length - (intOf i).toNat)
    case atStart => exact ⟨0, Nat.zero_le _, rfl, rfl, Below.refl _ _⟩
    case round =>
      obtain ⟨j, hj, rfl, htk, hB⟩ := hrel
      by_cases hlt : j < xs.length
      · have hlty : j < ys.length := by rw [← HLEN.out]; exact hlt
        rcases HX.out with h0 | ⟨b, off, rfl, hbl, hc⟩
        · rw [h0] at hlt; simp at hlt
        rcases HY.out with h0 | ⟨b', off', rfl, hbl', hc'⟩
        · rw [h0] at hlty; simp at hlty
        have h1 := (hc j hlt).below hB hbl
        have h2 := (hc' j hlty).below hB hbl'
        have h1' : ∀ v, Below w.heap.size w v → CellsAt v b (off + j * 3) (enc3 (xs.getD j default)) := fun v hv => (hc j hlt).below hv hbl
        have h2' : ∀ v, Below w.heap.size w v → CellsAt v b' (off' + j * 3) (enc3 (ys.getD j default)) := fun v hv => (hc' j hlty).below hv hbl'
        have HN := Lib.hid (take_next_eq hlt hlty)
        have HTK := Lib.hid htk
        clear hc hc' h1 h2 htk
        rw [t0_default] at h1' h2'
        generalize xs.getD j t0 = o at *
        generalize ys.getD j t0 = o' at *
        obtain ⟨x, y, z⟩ := o
        obtain ⟨a, b2, d2⟩ := o'
        have HC := Lib.hid fun v hv => at3 (h1' v hv)
        have HC' := Lib.hid fun v hv => at3 (h2' v hv)
        clear h1' h2'
        generalize hyl : ys.length = yl at *
        generalize hxl : xs.length = xl at *
        have HXL := Lib.hid hxl
        have HYL := Lib.hid hyl
        clear hxl hyl
        go_wp2_with fail
        refine Ord.wp_chain [] (fun v => Below w.heap.size w v) (fun _ _ => True) (by kernel_rfl) (by kernel_rfl) (by kernel_rfl) hB.drew trivial (fun hT => ?_)
        have hT9 := Lib.hid hT
        clear hT
        repeat (first
          | (refine Ord.ch_value (v := ?_) hT9.out (by decide) (by rfl) ?_ ?_; rotate_left; (focus (intro w5 hS; obtain ⟨c0, c1, c2⟩ := HC.out _ hS; obtain ⟨d0, d1, d3⟩ := HC'.out _ hS; go_simp <;> with_reducible rfl)); (try simp only [Act.put, List.setIfInBounds_toArray, List.set_cons_zero, List.set_cons_succ]))
          | (refine Ord.ch_off hT9.out (by decide) (by rfl) ?_; (try simp only [Act.put, List.setIfInBounds_toArray, List.set_cons_zero, List.set_cons_succ])))
        refine Ord.ch_value (v := .bool (!decide ((x, y, z) = (a, b2, d2)))) hT9.out (by decide) (by rfl) ?_ ?_
        · intro w5 hS
          clear hS HC HC' HX HY HN HTK HLEN
          by_cases e1 : x = a <;> by_cases e2 : y = b2 <;> by_cases e3 : z = d2 <;> simp [e1, e2, e3] <;> go_simp
        (try simp only [Act.put, List.setIfInBounds_toArray, List.set_cons_zero, List.set_cons_succ])
        refine Ord.InText.nil fun w5 hS => ?_
        clear hT9
        obtain ⟨hB9, hC9⟩ := Ord.chain_end hS
        clear hS
        by_cases hp : (x, y, z) = (a, b2, d2)
        · rw [decide_eq_true hp]
          have hn := HN.out.2 ⟨HTK.out, hp⟩
          have HN2 := Lib.hid hn
          clear hn hp
          go_wp2_with fail
          exact ⟨⟨j + 1, by omega, by simp, HN2.out, hB9⟩, by simp [intOf]; omega⟩
        · rw [decide_eq_false hp]
          go_wp2_with fail
          go_ret
          refine ⟨ret_bool ?_, hB9⟩
          symm
          rw [decide_eq_false_iff_not]
          rintro rfl
          exact hp (HN.out.1 rfl).2
      · go_wp2_with fail
        have : j = xs.length := by omega
        subst this
        go_ret
        refine ⟨ret_bool ?_, hB⟩
        symm
        rw [decide_eq_true_iff]
        rw [List.take_length, HLEN.out, List.take_length] at htk
        exact htk
  · have hb0 : ((xs.length : Int) != (ys.length : Int)) = true := by rw [bne_iff_ne]; omega
    have hne : decide (xs = ys) = false := by rw [decide_eq_false_iff_not]; rintro rfl; exact hlen rfl
    rw [hne]
    go_enter Try.func22, Try.ntmps22
    go_wp2_with fail
    go_ret
    exact ⟨rfl, Below.refl _ _⟩

theorem same_q {w : World} {q q' k k' : Nat} {F F' : Nat → Prop} {l m : List Trip} (hQ : IsQ w q F l k) (hQ' : IsQ w q' F' m k') :
    Calls Try.prog 19 #[.pointer (some ⟨q, 0, none⟩), .pointer (some ⟨q', 0, none⟩)] w fun e w' => e = .returned (.bool (decide (l = m))) ∧ Below w.heap.size w w' := by
  go_enter Try.func19, Try.ntmps19
  go_wp2_with fail
  refine (list_any hQ).mono ?_
  rintro e w1 ⟨b, rfl, hb, hbs, hB⟩
  go_wp2_with fail
  refine (list_any (hQ'.below hB)).mono ?_
  rintro e w2 ⟨b', rfl, hb', hbs', hB'⟩
  go_wp2_with fail
  refine (equal_any (by have := hQ.len; omega) (RowX.below hb.row3 hB') hb'.row3).mono ?_
  rintro e w3 ⟨rfl, hB3⟩
  go_wp2_with fail
  go_ret
  exact ⟨rfl, (hB.trans (hB'.mono hB.size)).trans (hB3.mono (Nat.le_trans hB.size hB'.size))⟩
theorem sameNil_q (w : World) : Calls Try.prog 19 #[.pointer none, .pointer none] w fun e w' => e = .returned (.bool true) ∧ w = w' := by
  go_enter Try.func19, Try.ntmps19
  go_wp2_with fail
  go_ret
  exact ⟨rfl, rfl⟩
theorem sameSome_q (w : World) (q : Nat) : Calls Try.prog 19 #[.pointer (some ⟨q, 0, none⟩), .pointer none] w fun e w' => e = .returned (.bool false) ∧ w = w' := by
  go_enter Try.func19, Try.ntmps19
  go_wp2_with fail
  go_ret
  exact ⟨rfl, rfl⟩

/-! ### among others -/
def queueI (q : Nat) (F : Nat → Prop) (l : List Trip) (k : Nat) : Item where
  F := F
  says := fun w => IsQ w q F l k
  loc := fun _ _ h hk hs => h.kept hk hs
section
variable {w0 w w' : World} {L : List Item} {q k k' : Nat} {F F' : Nat → Prop} {l l' : List Trip}
theorem Env.queue (h : Env w0 L w) (i : Nat) (hi : L[i]? = some (queueI q F l k)) : IsQ w q F l k := h.get i hi
theorem Env.turnQ (h : Env w0 L w) (i : Nat) (hi : L[i]? = some (queueI q F l k)) (hQ : IsQ w' q F' l' k') (hs : Step F F' w w') : Env w0 (L.set i (queueI q F' l' k')) w' :=
  h.step i (queueI q F' l' k') hi hs hQ hQ.lt
theorem Env.madeQ (h : Env w0 L w) (hQ : IsQ w' q F l k) (hF : ∀ j, F j → w.heap.size ≤ j) (hb : Below w.heap.size w w') : Env w0 (queueI q F l k :: L) w' :=
  h.add (queueI q F l k) hb hQ fun j hj => ⟨hF j hj, hQ.lt j hj⟩
/-- A row that came in lies apart from all that was made. -/
theorem Env.apart (h : Env w0 L w) (i : Nat) (hi : L[i]? = some (queueI q F l k)) {A : Option Addr} {xs : List Trip} (hr : Row3 w0 A xs) : xs ≠ [] → ∀ b, In3 A b → ¬ F b := fun hne b hb hF => by
  have h1 := ((h.2.2 _ (List.mem_of_getElem? hi)).2 b hF).1
  rcases hr with h0 | ⟨b', off, he, hl', hc⟩
  · exact hne h0
  · obtain ⟨o, ho⟩ := hb
    rw [he] at ho
    cases ho
    omega
end
end Go.Proofs.Ytjiohencpopbeaa

/- Queues beside the reference's: form, alike. -/
namespace Go.Proofs.Ytjiohencpopbeaa
open Go.RowKit Go.Maps
set_option maxRecDepth 100000

theorem form_any (x y z : Int) (w : World) : Calls Try.prog 8 #[.agg #[.int .i64 x, .int .i64 y, .int .i64 z]] w fun e w' => e = .returned (.agg #[.int .i64 x, .int .i64 y, .int .i64 z]) ∧ Below w.heap.size w w' := by
  have hB1 := Blk.new 0 w [.int .i64 x, .int .i64 y, .int .i64 z] 35
  have hE1 := (Below.refl w.heap.size w).alloc (Nat.le_refl _) (.cells [.int .i64 x, .int .i64 y, .int .i64 z].toArray 35)
  have hE2 := hE1.alloc hE1.size (.cells [.int .i64 x, .int .i64 y, .int .i64 z].toArray 33)
  go_enter Try.func8, Try.ntmps8
  go_wp2_with fail
  have q := (Blk.new 0 (w.alloc (.cells [.int .i64 x, .int .i64 y, .int .i64 z].toArray 35)) [.int .i64 x, .int .i64 y, .int .i64 z] 33).rule
  rw [show (w.alloc (.cells [.int .i64 x, .int .i64 y, .int .i64 z].toArray 35)).heap.size = w.heap.size + 1 by simp] at q
  exact bodyPost_ret (v := .agg #[.int .i64 x, .int .i64 y, .int .i64 z]) (by simp [results, Try.results8, go_sem, q]) rfl ⟨rfl, hE2⟩

set_option maxHeartbeats 1600000 in
theorem alike_yes {w0 w : World} {L : List Item} {q u k c : Nat} {F : Nat → Prop} {A : Option Addr} {l : List Trip} (i j : Nat) (hE : Env w0 L w) (hq : L[j]? = some (queueI q F l k)) (hu : L[i]? = some (rqI u A l.length c ((2 ^ k : Nat) : Int))) (hr : L[i + 1]? = some (rrI A c l)) :
    Calls Try.prog 15 #[.pointer (some ⟨q, 0, none⟩), .pointer (some ⟨u, 0, none⟩)] w fun e w' => e = .returned (.bool true) ∧ Env w0 L w' := by
  have hqn := (hE.queue j hq).len
  go_enter Try.func15, Try.ntmps15
  go_wp2_with fail
  refine (list_any (hE.queue j hq)).mono ?_
  rintro e w1 ⟨b, rfl, hb, hbs, hB⟩
  replace hE := hE.add (boxI b (flat3 l)) hB hb (fun x hx => by cases hx; exact ⟨hbs, hb.1⟩)
  clear hb hbs hB
  have HC : Hid (∀ v, Env w0 (boxI b (flat3 l) :: L) v → Blk 0 v u [.slice A l.length c, .int .i64 ((2 ^ k : Nat) : Int)]) := Lib.hid fun v hv => hv.get (i + 1) hu
  have c1 : Hid (∀ v, Env w0 (boxI b (flat3 l) :: L) v → Calls Try.prog 16 #[.pointer (some ⟨q, 0, none⟩)] v fun e w' => e = .returned (.int .i64 l.length) ∧ Below v.heap.size v w') := Lib.hid fun v hv => len_any (hv.queue (j + 1) hq)
  have c2 : Hid (∀ v, Env w0 (boxI b (flat3 l) :: L) v → Calls Try.prog 17 #[.pointer (some ⟨q, 0, none⟩)] v fun e w' => e = .returned (.int .i64 ((2 ^ k : Nat) : Int)) ∧ Below v.heap.size v w') := Lib.hid fun v hv => room_any (hv.queue (j + 1) hq)
  have hl1 : ((l.length : Int) != (l.length : Int)) = false := by simp
  generalize ((2 ^ k : Nat) : Int) = N at *
  have hl2 : (N != N) = false := by simp
  go_wp2_with fail
  refine Ord.wp_chain [] (fun v => Env w0 (boxI b (flat3 l) :: L) v) (fun _ _ => True) (by kernel_rfl) (by kernel_rfl) (by kernel_rfl) hE.drew trivial (fun hT => ?_)
  have hT9 := Lib.hid hT
  clear hT
  repeat (first
    | (refine Ord.ch_value (v := ?_) hT9.out (by decide) (by rfl) ?_ ?_; rotate_left; (focus (intro w5 hS; have r := (HC.out _ hS).rule; go_simp <;> with_reducible rfl)); (try simp only [Act.put, List.setIfInBounds_toArray, List.set_cons_zero, List.set_cons_succ]))
    | (refine Ord.ch_off hT9.out (by decide) (by rfl) ?_; (try simp only [Act.put, List.setIfInBounds_toArray, List.set_cons_zero, List.set_cons_succ]))
    | (refine Ord.ch_call (v := ?_) (f := ?_) (args := ?_) hT9.out (by decide) (by rfl) ?_ ?_ ?_; rotate_left 3; (focus (intro w5 hS; have r := (HC.out _ hS).rule; go_simp; constructor <;> with_reducible rfl)); (focus (intro w5 hS; (first | (with_reducible refine (c1.out _ hS).mono ?_; rintro e w6 ⟨rfl, hb⟩; constructor; with_reducible rfl; exact ⟨hS.over hb, fun _ h => h⟩) | (with_reducible refine (c2.out _ hS).mono ?_; rintro e w6 ⟨rfl, hb⟩; constructor; with_reducible rfl; exact ⟨hS.over hb, fun _ h => h⟩)))); (try simp only [Act.put, List.setIfInBounds_toArray, List.set_cons_zero, List.set_cons_succ])))
  refine Ord.InText.nil fun w5 hS => ?_
  clear hT9
  obtain ⟨hE5, hC5⟩ := Ord.chain_end hS
  clear hS
  clear hE c1 c2
  go_wp2_with fail
  go_loopw [6] (fun i v => ∃ m : Nat, m ≤ l.length ∧ i = .int .i64 m ∧ Env w0 (boxI b (flat3 l) :: L) v) (fun i _ => l.length - (intOf i).toNat)
  case atStart => exact ⟨0, Nat.zero_le _, rfl, hE5⟩
  case round =>
    clear hE5
    obtain ⟨m, hm, rfl, hE⟩ := hrel
    by_cases hlt : m < l.length
    · obtain ⟨g, off, rfl⟩ : ∃ g off, A = some ⟨g, off, none⟩ := by
        rcases hE.cells3 (i + 1 + 1) rfl hr with h0 | ⟨g, off, h, _⟩
        · rw [h0] at hlt; simp at hlt
        · exact ⟨g, off, h⟩
      have HC2 : Hid (∀ v, Env w0 (boxI b (flat3 l) :: L) v → CellsAt v b (0 + m * 3) (enc3 (l.getD m t0)) ∧ CellsAt v g (off + m * 3) (enc3 (l.getD m t0))) := Lib.hid fun v hv => by
        rw [← t0_default]
        constructor
        · rcases (show Blk 0 v b (flat3 l) from hv.get 0 rfl).row3 with h0 | ⟨b', off', he, _, hc⟩
          · rw [h0] at hlt; simp at hlt
          · cases he; exact hc m hlt
        · rcases hv.cells3 (i + 1 + 1) rfl hr with h0 | ⟨b', off', he, _, hc⟩
          · rw [h0] at hlt; simp at hlt
          · cases he; exact hc m hlt
      generalize l.getD m t0 = xx at *
      obtain ⟨x, y, z⟩ := xx
      have HC3 := Lib.hid fun v hv => And.intro (at3 (HC2.out v hv).1) (at3 (HC2.out v hv).2)
      simp only [Nat.zero_add] at HC3
      clear HC2
      go_wp2_with fail
      refine Ord.wp_chain [] (fun v => Env w0 (boxI b (flat3 l) :: L) v) (fun _ _ => True) (by kernel_rfl) (by kernel_rfl) (by kernel_rfl) hE.drew trivial (fun hT => ?_)
      have hT9 := Lib.hid hT
      clear hT
      repeat (first
        | (refine Ord.ch_value (v := ?_) hT9.out (by decide) (by rfl) ?_ ?_; rotate_left; (focus (intro w5 hS; have r := (HC.out _ hS).rule; obtain ⟨⟨c0, c1, c2⟩, ⟨d0, d1, d2⟩⟩ := HC3.out _ hS; go_simp <;> with_reducible rfl)); (try simp only [Act.put, List.setIfInBounds_toArray, List.set_cons_zero, List.set_cons_succ]))
        | (refine Ord.ch_off hT9.out (by decide) (by rfl) ?_; (try simp only [Act.put, List.setIfInBounds_toArray, List.set_cons_zero, List.set_cons_succ]))
        | (refine Ord.ch_call (v := ?_) (f := ?_) (args := ?_) hT9.out (by decide) (by rfl) ?_ ?_ ?_; rotate_left 3; (focus (intro w5 hS; have r := (HC.out _ hS).rule; obtain ⟨⟨c0, c1, c2⟩, ⟨d0, d1, d2⟩⟩ := HC3.out _ hS; go_simp; constructor <;> with_reducible rfl)); (focus (intro w5 hS; (first | (with_reducible refine (form_any _ _ _ _).mono ?_; rintro e w6 ⟨rfl, hb⟩; constructor; with_reducible rfl; exact ⟨hS.over hb, fun _ h => h⟩)))); (try simp only [Act.put, List.setIfInBounds_toArray, List.set_cons_zero, List.set_cons_succ])))
      refine Ord.InText.nil fun w5 hS => ?_
      clear hT9
      obtain ⟨hE5, hC5⟩ := Ord.chain_end hS
      clear hS
      go_wp2_with fail
      exact ⟨⟨m + 1, by omega, by simp, hE5⟩, by simp [intOf]; omega⟩
    · have : m = l.length := by omega
      subst this
      go_wp2_with fail
      go_ret
      exact ⟨rfl, hE.sub (.cons _ (List.Sublist.refl _))⟩
end Go.Proofs.Ytjiohencpopbeaa

/- Queues: awake, the anchor that each law asks first. -/
namespace Go.Proofs.Ytjiohencpopbeaa
open Go.RowKit Go.Maps
set_option maxRecDepth 100000

set_option maxHeartbeats 1600000 in
theorem awake11 (w : World) : Calls Try.prog 5 #[] w fun e w' => e = .returned (.bool true) ∧ Below w.heap.size w w' := by
  have hr1 := (Blk.new 0 w (flat3 [(1, 0, 0), (2, 5, 0)]) 35).row3
  have hE := (Env.start w).more (.cells (flat3 [(1, 0, 0), (2, 5, 0)]).toArray 35)
  go_enter Try.func5, Try.ntmps5
  go_wp2_with fail
  refine (newQ_any (xs := [(1, 0, 0), (2, 5, 0)]) (by decide) hr1).mono ?_
  rintro e w1 ⟨q, F, k, rfl, hk, hQ, hB, hF⟩
  obtain rfl : k = 2 := hk.unique (Rm.same (by decide))
  replace hE := hE.madeQ hQ hF hB
  clear hQ hF hB hk hr1
  go_wp2_with fail
  refine (pop_any 1 0 0 (hE.queue 0 rfl)).mono ?_
  rintro e w2 ⟨rfl, hQ, hs⟩
  replace hE := hE.turnQ 0 rfl hQ hs
  simp only [List.set_cons_zero] at hE
  clear hQ hs
  replace hE := hE.box w2.heap.size rfl [.int .i64 1, .int .i64 0, .int .i64 0] 35
  simp only [tv]
  go_wp2_with fail
  replace hE := hE.box (w2.heap.size + 1) (by simp) (flat3 [(3, 0, 0), (4, 0, 0), (5, 0, 0), (6, 0, 0)]) 35
  have hrow := (show Blk 0 _ _ (flat3 [(3, 0, 0), (4, 0, 0), (5, 0, 0), (6, 0, 0)]) from hE.get 0 rfl).row3
  have hoff := hE.off (i := 0) (j := 2) rfl rfl (by decide)
  refine (push_any (xs := [(3, 0, 0), (4, 0, 0), (5, 0, 0), (6, 0, 0)]) (by decide) hrow (fun _ b hb hF => ?_) (hE.queue 2 rfl)).mono ?_
  · obtain ⟨o, ho⟩ := hb
    cases ho
    exact hoff _ rfl hF
  rintro e w3 ⟨rfl, k', F1, hRm, hQ, hs⟩
  obtain rfl : k' = 3 := hRm.unique ⟨by decide, by decide, .inr (by decide)⟩
  replace hE := hE.turnQ 2 rfl hQ hs
  simp only [List.set_cons_succ, List.set_cons_zero] at hE
  clear hQ hs hRm hrow hoff
  generalize w2.heap.size = E at *
  simp only [List.cons_append, List.nil_append] at hE
  go_wp2_with fail
  refine (head_any 2 5 0 (hE.queue 2 rfl)).mono ?_
  rintro e w4 ⟨rfl, hb⟩
  replace hE := (hE.over hb).box w4.heap.size rfl [.int .i64 2, .int .i64 5, .int .i64 0] 35
  clear hb
  simp only [tv]
  have r1 := hE.rule 0 rfl
  have r2 := hE.rule 2 rfl
  go_wp2_with (first
    | (with_reducible refine (len_any (hE.queue 3 rfl)).mono ?_; rintro e w1 ⟨rfl, hb⟩; replace hE := hE.over hb; clear hb r1 r2; have r1 := hE.rule 0 rfl; have r2 := hE.rule 2 rfl)
    | (with_reducible refine (room_any (hE.queue 3 rfl)).mono ?_; rintro e w1 ⟨rfl, hb⟩; replace hE := hE.over hb; clear hb r1 r2; have r1 := hE.rule 0 rfl; have r2 := hE.rule 2 rfl)
    | (with_reducible refine (find_any _ (hE.queue 3 rfl)).mono ?_; rintro e w1 ⟨rfl, hb⟩; replace hE := hE.over hb; clear hb r1 r2; have r1 := hE.rule 0 rfl; have r2 := hE.rule 2 rfl))
  go_ret
  exact ⟨rfl, hE.below⟩
end Go.Proofs.Ytjiohencpopbeaa

/- Rows of entries and of bools that came in. -/
namespace Go.Proofs.Ytjiohencpopbeaa
open Go.RowKit Go.Maps Go.Deep
set_option maxRecDepth 100000

def OkEnt (x : Trip) : Prop := In64 x.1 ∧ In64 x.2.1 ∧ In64 x.2.2
theorem flatEnt : flatT Try.prog 6 35 = some [.num .i64, .num .i64, .num .i64] := by kernel_rfl
theorem cellsEnt : Try.prog.cellsOf 35 = 3 := by kernel_rfl
theorem dec_Ent (w : World) (b o : Nat) (hall : ∀ (j : Nat) (s : Sca), [Sca.num .i64, .num .i64, .num .i64][j]? = some s → ∃ v, w.cell? ⟨b, o + j, none⟩ = some v ∧ s.ok v) : ∃ r : Trip, CellsAt w b o (enc3 r) ∧ OkEnt r := by
  obtain ⟨_, c0, x0, rfl, w0⟩ := hall 0 _ rfl
  obtain ⟨_, c1, x1, rfl, w1⟩ := hall 1 _ rfl
  obtain ⟨_, c2, x2, rfl, w2⟩ := hall 2 _ rfl
  refine ⟨(x0, x1, x2), fun j v e => ?_, wf_i.1 w0, wf_i.1 w1, wf_i.1 w2⟩
  match j with
  | 0 => simp [enc3] at e; subst e; exact c0
  | 1 => simp [enc3] at e; subst e; exact c1
  | 2 => simp [enc3] at e; subst e; exact c2
  | j + 3 => simp [enc3] at e
theorem open_Ent {H : Type} {en : TypeId × Value → H} {W : World} {A : Option Addr} {len cap : Nat} {d : DataW H} {p : List MemPlace}
    (h : DataW.Trod en Try.prog W 0 (fun _ => true) true 22 (.slice A len cap) d p) (hlt : ∀ x ∈ p, x.block < W.heap.size) :
    ∃ xs : List Trip, xs.length = len ∧ len ≤ maxLen ∧ (∀ r ∈ xs, OkEnt r) ∧ RowX enc3 3 W A xs :=
  open_rowX Try.underlying22 flatEnt cellsEnt (by simp) dec_Ent h hlt
def encB (x : Bool) : List Value := [.bool x]
theorem open_Bools {H : Type} {en : TypeId × Value → H} {W : World} {A : Option Addr} {len cap : Nat} {d : DataW H} {p : List MemPlace}
    (h : DataW.Trod en Try.prog W 0 (fun _ => true) true 50 (.slice A len cap) d p) (hlt : ∀ x ∈ p, x.block < W.heap.size) :
    ∃ xs : List Bool, xs.length = len ∧ len ≤ maxLen ∧ (∀ r ∈ xs, True) ∧ RowX encB 1 W A xs := by
  refine open_rowX (ss := [.boo]) Try.underlying50 (dd := 6) (by kernel_rfl) (by kernel_rfl) (by simp) (fun w b o hall => ?_) h hlt
  obtain ⟨_, c0, x0, rfl⟩ := hall 0 _ rfl
  refine ⟨x0, fun j v e => ?_, trivial⟩
  match j with
  | 0 => simp [encB] at e; subst e; exact c0
  | j + 1 => simp [encB] at e
end Go.Proofs.Ytjiohencpopbeaa

/- Whatever comes to numbers, bools, structs and rows of such: what its cells hold, rows within rows too. General. -/
namespace Go.Proofs.Ytjiohencpopbeaa
open Go.RowKit Go.WideShapes Go.ChangeShapes Go.ChangeAt Go.Deep
set_option maxRecDepth 100000

/-- Types that this reads. -/
def plainT (P : Program) : Nat → TypeId → Bool
  | 0, _ => false
  | d + 1, t =>
    match P.underlying t with
    | some .bool => true
    | some (.int _) => true
    | some (.struct fs) => fs.toList.all fun f => plainT P d f.type
    | some (.slice e) => plainT P d e && decide (0 < P.cellsOf e)
    | _ => false
/-- The cells cs are a value of type t, and so is whatever they lead to. -/
def Good (P : Program) (w : World) : Nat → TypeId → List Value → Prop
  | 0, _, _ => False
  | d + 1, t, cs =>
    match P.underlying t with
    | some .bool => ∃ b, cs = [.bool b]
    | some (.int k) => ∃ n, cs = [.int k n] ∧ (Lit.int k n).wf = true
    | some (.struct fs) => cs.length = P.cellsOf t ∧ ∀ f ∈ fs.toList, Good P w d f.type ((cs.drop f.offset).take (P.cellsOf f.type))
    | some (.slice e) => ∃ A len cap, cs = [.slice A len cap] ∧ len ≤ maxLen ∧ (len = 0 ∨ ∃ b off, A = some ⟨b, off, none⟩ ∧ b < w.heap.size ∧ ∀ i, i < len → ∃ us : List Value, us.length = P.cellsOf e ∧ CellsAt w b (off + i * P.cellsOf e) us ∧ Good P w d e us)
    | _ => False

section
variable {H : Type} {enc : TypeId × Value → H} {P : Program} {w : World} {held : Bool}
theorem good_of_trod : ∀ (d : Nat) {t : TypeId} {fuel : Nat} {cs : List Value} {x : DataW H × List MemPlace}, plainT P d t = true → DataW.trod enc P w 0 (fun _ => true) held fuel t cs = some x → (∀ p ∈ x.2, p.block < w.heap.size) → Good P w d t cs
  | 0, _, _, _, _, h, _, _ => by simp [plainT] at h
  | d + 1, t, fuel, cs, x, h, hx, hlt => by
    unfold plainT at h
    unfold Good
    split at h
    · rename_i hu
      obtain ⟨b, rfl, _⟩ := DataW.trod_bool hu hx
      try rw [hu]
      exact ⟨b, rfl⟩
    · rename_i k hu
      obtain ⟨n, rfl, _, hw⟩ := DataW.trod_int hu hx
      try rw [hu]
      exact ⟨n, rfl, hw⟩
    · rename_i fs hu
      obtain ⟨xs, n, _, rfl, hl, hlen, hall⟩ := DataW.trod_struct hu hx
      try rw [hu]
      refine ⟨hl, fun f hf => ?_⟩
      obtain ⟨i, hi, he⟩ := List.getElem_of_mem hf
      have hi' : i < fs.size := by simpa using hi
      have h1 := hall i f (by simp [hi']; simpa using he)
      have hix : i < xs.length := by omega
      rw [List.getElem?_eq_getElem hix] at h1
      exact good_of_trod d (List.all_eq_true.1 h f hf) h1 fun p hp => hlt p (List.mem_flatMap.2 ⟨xs[i], List.getElem_mem hix, hp⟩)
    · rename_i e hu
      rw [Bool.and_eq_true, decide_eq_true_iff] at h
      obtain ⟨h1, h0⟩ := h
      try rw [hu]
      rcases open_slice hu hx with ⟨rfl, _⟩ | ⟨a, len, cap, m, n, D, Pl, rfl, _, hl, hm, hmm, rfl, hall⟩
      · exact ⟨none, 0, 0, rfl, Nat.zero_le _, .inl rfl⟩
      · simp only [if_true] at hmm
        subst hmm
        refine ⟨some a, len, m, rfl, by omega, ?_⟩
        by_cases hz : len = 0
        · exact .inl hz
        · right
          have each : ∀ i, i < m → ∃ us : List Value, us.length = P.cellsOf e ∧ (∀ j v, us[j]? = some v → w.cell? (a.add (i * P.cellsOf e + j)) = some v) ∧ Good P w d e us := fun i hi => by
            obtain ⟨cs', h2, h3⟩ := hall i hi
            obtain ⟨_, hlen, hcell⟩ := World.cells?_some h2
            refine ⟨cs', hlen, fun j v hj => ?_, good_of_trod d h1 h3 fun p hp => hlt p (List.mem_append_right _ (List.mem_flatMap.2 ⟨i, by simpa using hi, hp⟩))⟩
            have hjl : j < P.cellsOf e := by have := (List.getElem?_eq_some_iff.1 hj).1; omega
            have := hcell j hjl
            rw [add_add, hj] at this
            exact this
          obtain ⟨b, off, spot⟩ := a
          have hspot : spot = none := by
            obtain ⟨us, hl', hc, _⟩ := each 0 (by omega)
            have := hc 0 (us[0]'(by omega)) (by simp)
            simpa [Addr.add] using World.cell?_spot this
          subst hspot
          refine ⟨b, off, rfl, hlt (.cell b off) (List.mem_append_left _ (MemPlace.mem_row.2 ⟨0, Nat.mul_pos (by omega) h0, by simp⟩)), fun i hi => ?_⟩
          obtain ⟨us, h4, h5, h6⟩ := each i (by omega)
          refine ⟨us, h4, fun j v hj => ?_, h6⟩
          have := h5 j v hj
          rw [add_plain] at this
          rw [Nat.add_assoc]; exact this
    · cases h
end

/-- A row within: its elements, decoded. -/
theorem Good.row {α : Type} [Inhabited α] {enc : α → List Value} {Ok : α → Prop} {P : Program} {w : World} {t e : TypeId} {d : Nat} {cs : List Value} (ht : P.underlying t = some (.slice e)) (h : Good P w (d + 1) t cs)
    (hdec : ∀ us, us.length = P.cellsOf e → Good P w d e us → ∃ r : α, enc r = us ∧ Ok r) :
    ∃ A cap, ∃ xs : List α, cs = [.slice A xs.length cap] ∧ xs.length ≤ maxLen ∧ (∀ r ∈ xs, Ok r) ∧ RowX enc (P.cellsOf e) w A xs := by
  unfold Good at h
  rw [ht] at h
  obtain ⟨A, len, cap, rfl, hm, hz | ⟨b, off, rfl, hb, hall⟩⟩ := h
  · subst hz
    exact ⟨A, cap, [], rfl, hm, by simp, .inl rfl⟩
  · have each : ∀ i, i < len → ∃ r : α, CellsAt w b (off + i * P.cellsOf e) (enc r) ∧ Ok r := fun i hi => by
      obtain ⟨us, h1, h2, h3⟩ := hall i hi
      obtain ⟨r, rfl, hr⟩ := hdec us h1 h3
      exact ⟨r, h2, hr⟩
    obtain ⟨f, hf⟩ := choose_lt each
    refine ⟨some ⟨b, off, none⟩, cap, (List.range len).map f, by simp, by simpa using hm, fun r hr => ?_, ?_⟩
    · obtain ⟨i, hi, rfl⟩ := List.mem_map.1 hr
      exact (hf i (by simpa using hi)).2
    · refine .inr ⟨b, off, rfl, hb, fun i hi => ?_⟩
      have hi' : i < len := by simpa using hi
      have e : ((List.range len).map f).getD i default = f i := by simp [hi']
      rw [e]
      exact (hf i hi').1
/-- A row that came in, whatever its elements lead to. -/
theorem open_rowG {α : Type} [Inhabited α] {enc : α → List Value} {Ok : α → Prop} {P : Program} {H : Type} {en : TypeId × Value → H} {W : World} {t e : TypeId} {d : Nat} {A : Option Addr} {len cap : Nat} {dt : DataW H} {p : List MemPlace}
    (ht : P.underlying t = some (.slice e)) (hpl : plainT P (d + 1) t = true)
    (hdec : ∀ us, us.length = P.cellsOf e → Good P W d e us → ∃ r : α, enc r = us ∧ Ok r)
    (h : DataW.Trod en P W 0 (fun _ => true) true t (.slice A len cap) dt p) (hlt : ∀ x ∈ p, x.block < W.heap.size) :
    ∃ xs : List α, xs.length = len ∧ len ≤ maxLen ∧ (∀ r ∈ xs, Ok r) ∧ RowX enc (P.cellsOf e) W A xs := by
  obtain ⟨fuel, hf⟩ := h
  have hg := good_of_trod (d + 1) hpl hf hlt
  obtain ⟨A', cap', xs, he, h1, h2, h3⟩ := hg.row ht hdec
  simp only [Value.cells, List.cons.injEq, Value.slice.injEq, and_true] at he
  obtain ⟨rfl, rfl, rfl⟩ := he
  exact ⟨xs, rfl, h1, h2, h3⟩
/-- A number, a bool within. -/
theorem Good.int {P : Program} {w : World} {t : TypeId} {k : IntKind} {d : Nat} {cs : List Value} (ht : P.underlying t = some (.int k)) (h : Good P w (d + 1) t cs) : ∃ n, cs = [.int k n] ∧ (Lit.int k n).wf = true := by
  unfold Good at h; rw [ht] at h; exact h
theorem Good.bool {P : Program} {w : World} {t : TypeId} {d : Nat} {cs : List Value} (ht : P.underlying t = some .bool) (h : Good P w (d + 1) t cs) : ∃ b, cs = [.bool b] := by
  unfold Good at h; rw [ht] at h; exact h
theorem Good.struct {P : Program} {w : World} {t : TypeId} {fs : Array Field} {d : Nat} {cs : List Value} (ht : P.underlying t = some (.struct fs)) (h : Good P w (d + 1) t cs) : cs.length = P.cellsOf t ∧ ∀ f ∈ fs.toList, Good P w d f.type ((cs.drop f.offset).take (P.cellsOf f.type)) := by
  unfold Good at h; rw [ht] at h; exact h
end Go.Proofs.Ytjiohencpopbeaa

/- Rows of deeds of a queue that came in, with their own rows of entries. -/
namespace Go.Proofs.Ytjiohencpopbeaa
open Go.RowKit Go.Maps Go.Deep
set_option maxRecDepth 100000

structure DeedQ where
  k : Int
  A : Option Addr
  cap : Nat
  xs : List Trip
  s : Int
instance : Inhabited DeedQ := ⟨⟨0, none, 0, [], 0⟩⟩
def encD (r : DeedQ) : List Value := [.int .i64 r.k, .slice r.A r.xs.length r.cap, .int .i64 r.s]
def OkD (W : World) (r : DeedQ) : Prop := r.xs.length ≤ maxLen ∧ Row3 W r.A r.xs
theorem cellsInt1 : Try.prog.cellsOf 3 = 1 := by kernel_rfl
theorem cellsRowE : Try.prog.cellsOf 22 = 1 := by kernel_rfl
theorem cellsDeed : Try.prog.cellsOf 37 = 3 := by kernel_rfl
theorem dec_Deed (W : World) (us : List Value) (hl : us.length = Try.prog.cellsOf 37) (h : Good Try.prog W 6 37 us) : ∃ r : DeedQ, encD r = us ∧ OkD W r := by
  rw [cellsDeed] at hl
  match us, hl with
  | [u0, u1, u2], _ =>
    obtain ⟨_, hf⟩ := Good.struct Try.underlying37 h
    have h0 := hf _ (List.Mem.head _)
    have h1 := hf _ (List.Mem.tail _ (List.Mem.head _))
    have h2 := hf _ (List.Mem.tail _ (List.Mem.tail _ (List.Mem.head _)))
    simp only [cellsInt1, cellsRowE, List.drop_zero, List.drop_succ_cons, List.take_succ_cons, List.take_zero] at h0 h1 h2
    obtain ⟨n0, e0, _⟩ := Good.int Try.underlying3 h0
    obtain ⟨n2, e2, _⟩ := Good.int Try.underlying3 h2
    obtain ⟨A, cap, xs, e1, hx1, _, hx3⟩ := Good.row (α := Trip) (enc := enc3) (Ok := fun _ => True) Try.underlying22 h1 (fun us hus hg => by
      rw [cellsEnt] at hus
      match us, hus with
      | [v0, v1, v2], _ =>
        obtain ⟨_, hf⟩ := Good.struct Try.underlying35 hg
        have g0 := hf _ (List.Mem.head _)
        have g1 := hf _ (List.Mem.tail _ (List.Mem.head _))
        have g2 := hf _ (List.Mem.tail _ (List.Mem.tail _ (List.Mem.head _)))
        simp only [cellsInt1, List.drop_zero, List.drop_succ_cons, List.take_succ_cons, List.take_zero] at g0 g1 g2
        obtain ⟨m0, f0, _⟩ := Good.int Try.underlying3 g0
        obtain ⟨m1, f1, _⟩ := Good.int Try.underlying3 g1
        obtain ⟨m2, f2, _⟩ := Good.int Try.underlying3 g2
        simp only [List.cons.injEq, and_true] at f0 f1 f2
        exact ⟨(m0, m1, m2), by rw [f0, f1, f2]; rfl, trivial⟩)
    simp only [List.cons.injEq, and_true] at e0 e1 e2
    rw [cellsEnt] at hx3
    exact ⟨⟨n0, A, cap, xs, n2⟩, by rw [e0, e1, e2]; rfl, hx1, hx3⟩
theorem plainDeeds : plainT Try.prog 7 23 = true := by kernel_rfl
theorem open_Deeds {H : Type} {en : TypeId × Value → H} {W : World} {A : Option Addr} {len cap : Nat} {d : DataW H} {p : List MemPlace}
    (h : DataW.Trod en Try.prog W 0 (fun _ => true) true 23 (.slice A len cap) d p) (hlt : ∀ x ∈ p, x.block < W.heap.size) :
    ∃ xs : List DeedQ, xs.length = len ∧ len ≤ maxLen ∧ (∀ r ∈ xs, OkD W r) ∧ RowX encD 3 W A xs := by
  obtain ⟨xs, h1, h2, h3, h4⟩ := open_rowG (d := 6) Try.underlying23 plainDeeds (dec_Deed W) h hlt
  rw [cellsDeed] at h4
  exact ⟨xs, h1, h2, h3, h4⟩
end Go.Proofs.Ytjiohencpopbeaa

/- What closes every law's row: it answers true, and below the old heap nothing has turned: so each argument reads as it did, whatever its type. -/
namespace Go.Proofs.Ytjiohencpopbeaa
open Go.RowKit Go.WideShapes Go.ChangeShapes Go.ChangeAt
set_option maxRecDepth 100000

section
variable {H : Type} {enc : TypeId × Value → H} {P : Program}
/-- The arguments' places lie below the heap's end: each reads behind the call as it did. -/
theorem args_stay (hl : laidOutB P = true) {W W' : World} (hb : Below W.heap.size W W') : ∀ (ts : List TypeId) (_ : (ts.all fun t => P.readableRec t && decide (t < P.types.size)) = true) (vs : List Value) (ds : List (DataW H)) (ps : List MemPlace),
    DataW.TrodAll enc P W 0 (fun _ => true) true ts vs ds ps → (∀ x ∈ ps, x.block < W.heap.size) → DataW.TrodAll enc P W' 0 (fun b => decide (b < W.heap.size)) true ts vs ds ps := by
  intro ts
  induction ts with
  | nil =>
    intro _ vs ds ps h _
    obtain ⟨rfl, rfl, rfl⟩ := trodAll_nil h
    exact trodAll_mk0
  | cons t ts ih =>
    intro hts vs ds ps h hlt
    rw [List.all_cons, Bool.and_eq_true, Bool.and_eq_true] at hts
    obtain ⟨v, vs', d, ds', p, q, rfl, rfl, rfl, h0, r0⟩ := trodAll_cons h
    exact trodAll_cons_mk (Below.trod hl hts.1.1 (of_decide_eq_true hts.1.2) h0 hb fun x hx => hlt x (List.mem_append_left _ hx))
      (ih hts.2 _ _ _ r0 fun x hx => hlt x (List.mem_append_right _ hx))

/-- The post of a law that answered true. -/
theorem law_post {f : Func} {s : ChangeSpec} {W W' : World} {args : Array Value} {ds : List (DataW H)} {before : List MemPlace} {tb : TypeId}
    (hl : laidOutB P = true) (hts : (f.params.toList.all fun t => P.readableRec t && decide (t < P.types.size)) = true) (hres : f.resultTypes = #[tb]) (htb : P.underlying tb = some .bool)
    (hv : s.vars = []) (hfn : s.fn H (ds ++ []) = { results := [.lit (.bool true)], args := ds })
    (hW : DataW.Whole enc P f.params.toList s.vars false W args.toList ds [] before) (hb : Below W.heap.size W W') :
    s.post enc P f false true false false W args (.bool true) W' := by
  have hlt : ∀ p ∈ before, p.block < W.heap.size := fun p hp => hW.lt p hp
  have hW2 := hW
  obtain ⟨p, q, hA, hV, rfl, hz, hn⟩ := hW2
  have hq : q = [] := by rw [hv] at hV; exact (trodVars_none hV).2
  subst hq
  refine ⟨ds, [], _, [], p, [], hW, ?_, ?_, ?_, World.keptBut_mono (fun x hx => ⟨hx, Or.inr (Or.inl (by simpa using hx))⟩) (hb.frame (· ∈ p ++ [])), fun h => by cases h⟩
  · rw [hfn, hres]
    exact trodAll_mk1 (shut_bool htb _)
  · rw [hfn]
    exact args_stay hl hb _ hts _ _ _ hA fun x hx => hlt x (by simpa using hx)
  · rw [hfn, hv]
    exact rfl
end

theorem u64_in {n : Int} (h : (Lit.int .u64 n).wf = true) : 0 ≤ n ∧ n ≤ 18446744073709551615 := by
  simpa [Lit.wf, IntKind.min, IntKind.max, IntKind.signed, IntKind.bits] using h
theorem i64_in {n : Int} (h : (Lit.int .i64 n).wf = true) : -9223372036854775808 ≤ n ∧ n ≤ 9223372036854775807 := by
  simpa [Lit.wf, IntKind.min, IntKind.max, IntKind.signed, IntKind.bits] using h
end Go.Proofs.Ytjiohencpopbeaa

namespace Go.Proofs.Ytjiohencpopbeaa.queueExact
open Go.RowKit Go.Maps Go.Deep Go.WideShapes Go.ChangeShapes Go.ChangeAt
set_option maxRecDepth 100000

theorem room_next {K n k1 : Nat} (h : Rm K n k1) (hn : n ≤ 1000000) : ∃ k2, roomN ((2 ^ k1 : Nat) : Int) (n + 1) = ((2 ^ k2 : Nat) : Int) ∧ Rm K (n + 1) k2 := by
  obtain ⟨h1, h2, h3⟩ := h
  have e : 2 ^ (k1 + 1) = 2 ^ k1 * 2 := Nat.pow_succ _ _
  have h5 := Nat.one_le_two_pow (n := k1)
  by_cases hlt : 2 ^ k1 < n + 1
  · refine ⟨k1 + 1, ?_, Nat.le_succ_of_le h1, by rw [e]; omega, .inr (by rw [e]; omega)⟩
    unfold roomN
    generalize 2 ^ (k1 + 1) = M at *
    generalize 2 ^ k1 = N at *
    rw [if_pos (by omega)]
    omega
  · refine ⟨k1, ?_, h1, by omega, by omega⟩
    unfold roomN
    generalize 2 ^ (k1 + 1) = M at *
    generalize 2 ^ k1 = N at *
    rw [if_neg (by omega)]
theorem rm_small {K n k : Nat} (h : Rm K n k) (hK : 2 ≤ K ∧ K ≤ 20) (hn : n ≤ 1000000) : 4 ≤ ((2 ^ k : Nat) : Int) ∧ ((2 ^ k : Nat) : Int) ≤ 1099511627776 := by
  have h1 := h.le hK.2 (by omega)
  have h2 := pow_small h1
  have h3 := pow_four (show 2 ≤ k from Nat.le_trans hK.1 h.1)
  omega

set_option maxHeartbeats 6400000 in
theorem walk (xs : List Trip) (ds : List DeedQ) (A A' : Option Addr) (cap cap' : Nat) (W : World) (hxs : xs.length ≤ maxLen) (hds : ds.length ≤ maxLen) (hx : Row3 W A xs) (hok : ∀ r ∈ ds, OkD W r) (hp : RowX encD 3 W A' ds) :
    Calls Try.prog 3 #[.slice A xs.length cap, .slice A' ds.length cap'] W fun e w' => e = .returned (.bool true) ∧ Below W.heap.size W w' := by
  unfold maxLen at hxs hds
  have HX := Lib.hid hx
  have HP := Lib.hid hp
  have HOK := Lib.hid hok
  clear hx hp hok
  have hE := Env.start W
  go_enter Try.func3, Try.ntmps3
  go_wp2_with fail
  refine (awake11 W).mono ?_
  rintro e w1 ⟨rfl, hb⟩
  replace hE := hE.over hb
  clear hb
  by_cases hlen : 50 < xs.length
  · have hd : decide ((50 : Int) < (xs.length : Int)) = true := by simp; omega
    go_wp2_with fail
    go_ret
    exact ⟨rfl, hE.below⟩
  have hd : decide ((50 : Int) < (xs.length : Int)) = false := by simp; omega
  go_wp2_with fail
  refine (newQ_any (xs := xs) (by omega) (hE.seen3 HX.out)).mono ?_
  rintro e w2 ⟨q, F, k, rfl, hk, hQ, hB, hF⟩
  replace hE := hE.madeQ hQ hF hB
  clear hQ hF hB
  replace hE := (hE.box w2.heap.size rfl [.slice none 0 0, .int .i64 4] 30).addNone3 33
  replace hE := hE.perm (List.reverse_perm [_, _, _]).symm
  simp only [List.reverse_cons, List.reverse_nil, List.nil_append, List.cons_append] at hE
  go_wp2_with fail
  generalize w2.heap.size = u at *
  go_loopw [7] (fun i wr => ∃ (j kj c : Nat) (B : Option Addr), j ≤ xs.length ∧ i = .int .i64 j ∧ Rm 2 j kj ∧ Env W [queueI q F xs k, rqI u B (xs.take j).length c ((2 ^ kj : Nat) : Int), rrI B c (xs.take j)] wr) (fun i _ => xs.length - (intOf i).toNat)
  case atStart => exact ⟨0, 2, 0, none, Nat.zero_le _, rfl, Rm.same (by simp), hE⟩
  case round =>
    clear hE
    obtain ⟨j, kj, c, B, hj, rfl, hrm, hE⟩ := hrel
    by_cases hlt : j < xs.length
    · rcases hE.seen3 HX.out with h0 | ⟨b, off, rfl, hbl, hc⟩
      · rw [h0] at hlt; simp at hlt
      have hcj := hc j hlt
      have htk : xs.take j ++ [xs.getD j t0] = xs.take (j + 1) := by
        rw [List.take_succ_eq_append_getElem hlt, show xs.getD j t0 = xs[j] by simp [hlt]]
      have hjl : (xs.take j).length = j := by simp; omega
      rw [t0_default] at hcj
      generalize xs.getD j t0 = xx at *
      obtain ⟨x, y, z⟩ := xx
      obtain ⟨c0, c1, c2⟩ := at3 hcj
      have HTK := Lib.hid htk
      clear hc hcj htk
      go_wp2_with fail
      refine (form_any x y z _).mono ?_
      rintro e w3 ⟨rfl, hb⟩
      replace hE := hE.over hb
      clear hb c0 c1 c2
      go_wp2_with fail
      refine (refPush_any x y z 1 hE rfl rfl (by omega) (rm_small (K := 2) (n := j) hrm ⟨by omega, by omega⟩ (by omega))).mono ?_
      rintro e w4 ⟨rfl, B', c', hE4⟩
      simp only [List.set_cons_succ, List.set_cons_zero] at hE4
      obtain ⟨k2, hk2, hrm2⟩ := room_next hrm (by omega)
      rw [hjl, hk2, HTK.out] at hE4
      have hjl2 : (xs.take (j + 1)).length = j + 1 := by simp; omega
      clear hE hk2
      go_wp2_with fail
      exact ⟨⟨j + 1, k2, c', B', by omega, by simp, hrm2, by rw [hjl2]; exact hE4⟩, by simp [intOf]; omega⟩
    · have hjx : j = xs.length := by omega
      subst hjx
      rw [List.take_length] at hE
      have hkk := hk.unique hrm
      subst hkk
      clear hk hrm
      go_wp2_with fail
      go_loopw [8] (fun i wr => ∃ (n k c : Nat) (B : Option Addr) (F : Nat → Prop) (l : List Trip), n ≤ ds.length ∧ i = .int .i64 n ∧ l.length ≤ 50 + 20 * n ∧ n ≤ 100 ∧ Env W [queueI q F l k, rqI u B l.length c ((2 ^ k : Nat) : Int), rrI B c l] wr) (fun i _ => ds.length - (intOf i).toNat)
      case atStart => exact ⟨0, k, c, B, F, xs, Nat.zero_le _, rfl, by omega, by omega, hE⟩
      case round =>
        clear hE
        obtain ⟨n, k, c, B, F, l, hn, rfl, hl, hn1, hE⟩ := hrel
        by_cases hlt2 : n < ds.length
        · by_cases hlt3 : n < 100
          · have hb1 : decide ((n : Int) < ds.length) = true := by simp; omega
            have hb2 : decide ((n : Int) < 100) = true := by simp; omega
            rcases HP.out with h0 | ⟨b, off, rfl, hbl, hc⟩
            · rw [h0] at hlt2; simp at hlt2
            have hcn := (hc n hlt2).below hE.below hbl
            obtain ⟨ho1, ho2⟩ := HOK.out (ds.getD n default) (by simp [hlt2])
            clear hc
            generalize ds.getD n default = r at *
            obtain ⟨kd, Ax, cx, ys, s⟩ := r
            simp only at ho1 ho2
            unfold maxLen at ho1
            have e0 : wr.cell? ⟨b, off + n * 3, none⟩ = some (.int .i64 kd) := hcn 0 _ rfl
            have e1 : wr.cell? ⟨b, off + n * 3 + 1, none⟩ = some (.slice Ax ys.length cx) := hcn 1 _ rfl
            have e2 : wr.cell? ⟨b, off + n * 3 + 2, none⟩ = some (.int .i64 s) := hcn 2 _ rfl
            clear hcn
            replace hE := hE.box wr.heap.size rfl [.int .i64 kd, .slice Ax ys.length cx, .int .i64 s] 37
            have rX := hE.rule 0 rfl
            have HY := Lib.hid ho2
            clear ho2
            by_cases hy20 : 20 < ys.length
            · have hd20 : decide ((20 : Int) < (ys.length : Int)) = true := by simp; omega
              go_wp2_with fail
              go_ret
              exact ⟨rfl, hE.below⟩
            have hd20 : decide ((20 : Int) < (ys.length : Int)) = false := by simp; omega
            go_upto_region 17 with fail
            clear e0 e1 e2
            generalize wr.heap.size = X at *
            generalize wr.alloc _ = w3 at *
            have HT : ∀ v m k1 c1 B1 F1 l1, Env W [boxI X [.int .i64 kd, .slice Ax ys.length cx, .int .i64 s], queueI q F1 l1 k1, rqI u B1 m c1 ((2 ^ k1 : Nat) : Int), rrI B1 c1 l1] v → Env W [queueI q F1 l1 k1, rqI u B1 m c1 ((2 ^ k1 : Nat) : Int), rrI B1 c1 l1] v := fun v m k1 c1 B1 F1 l1 h => h.sub (.cons _ (List.Sublist.refl _))
            have hE0 := hE
            by_cases hp3 : kd = 1 ∨ kd = 2 ∨ kd = 3
            · rcases hp3 with rfl | rfl | rfl
              all_goals
                clear hE0
                go_wp2_with fail
                go_loopw [10] (fun i wr => ∃ (j kj c' : Nat) (B' : Option Addr), j ≤ ys.length ∧ i = .int .i64 j ∧ Rm k (l.length + j) kj ∧ Env W [boxI X [.int .i64 _, .slice Ax ys.length cx, .int .i64 s], queueI q F l k, rqI u B' (l ++ ys.take j).length c' ((2 ^ kj : Nat) : Int), rrI B' c' (l ++ ys.take j)] wr) (fun i _ => ys.length - (intOf i).toNat)
                case atStart => exact ⟨0, k, c, B, Nat.zero_le _, rfl, Rm.same (hE.queue 1 rfl).len.1, by simpa using hE⟩
                case round =>
                  have hqn := (hE.queue 1 rfl).len
                  clear hE rX
                  obtain ⟨j, kj, c', B', hj, rfl, hrm, hE⟩ := hrel
                  have rX := hE.rule 0 rfl
                  have hjl : (l ++ ys.take j).length = l.length + j := by simp; omega
                  by_cases hlt : j < ys.length
                  · rcases hE.seen3 HY.out with h0 | ⟨b', off', rfl, hbl', hc⟩
                    · rw [h0] at hlt; simp at hlt
                    have hcj := hc j hlt
                    have htk : l ++ ys.take j ++ [ys.getD j t0] = l ++ ys.take (j + 1) := by
                      rw [List.take_succ_eq_append_getElem hlt, show ys.getD j t0 = ys[j] by simp [hlt], List.append_assoc]
                    rw [t0_default] at hcj
                    generalize ys.getD j t0 = xx at *
                    obtain ⟨x, y, z⟩ := xx
                    obtain ⟨c0, c1, c2⟩ := at3 hcj
                    have HTK := Lib.hid htk
                    clear hc hcj htk
                    go_wp2_with fail
                    refine (form_any x y z _).mono ?_
                    rintro e w4 ⟨rfl, hb⟩
                    replace hE := hE.over hb
                    clear hb c0 c1 c2 rX
                    go_wp2_with fail
                    refine (refPush_any x y z 2 hE rfl rfl (by omega) (rm_small (K := k) (n := l.length + j) hrm ⟨by omega, by omega⟩ (by omega))).mono ?_
                    rintro e w5 ⟨rfl, B2, c2, hE5⟩
                    simp only [List.set_cons_succ, List.set_cons_zero] at hE5
                    obtain ⟨k2, hk2, hrm2⟩ := room_next hrm (by omega)
                    rw [hjl, hk2, HTK.out] at hE5
                    have hjl2 : (l ++ ys.take (j + 1)).length = l.length + j + 1 := by simp; omega
                    clear hE hk2
                    go_wp2_with fail
                    exact ⟨⟨j + 1, k2, c2, B2, by omega, by simp, hrm2, by rw [hjl2]; exact hE5⟩, by simp [intOf]; omega⟩
                  · have hjx : j = ys.length := by omega
                    subst hjx
                    rw [List.take_length] at hE
                    go_wp2_with fail
                    refine (push_any (xs := ys) (by omega) (hE.seen3 HY.out) (hE.apart 1 rfl HY.out) (hE.queue 1 rfl)).mono ?_
                    rintro e w4 ⟨rfl, k4, F4, hrm4, hQ, hs⟩
                    have hkk := hrm4.unique hrm
                    subst hkk
                    replace hE := hE.turnQ 1 rfl hQ hs
                    simp only [List.set_cons_succ, List.set_cons_zero] at hE
                    clear hQ hs rX hrm hrm4
                    replace hE := hE.sub (L' := [queueI q F4 (l ++ ys) k4, rqI u B' (l ++ ys).length c' ((2 ^ k4 : Nat) : Int), rrI B' c' (l ++ ys)]) (.cons _ (List.Sublist.refl _))
                    go_wp2_with fail
                    refine (alike_yes 1 0 hE rfl rfl rfl).mono ?_
                    rintro e w20 ⟨rfl, hE20⟩
                    clear hE
                    have hE := hE20
                    clear hE20
                    go_wp2_with fail
                    exact ⟨⟨n + 1, k4, c', B', F4, l ++ ys, by omega, by simp, by (simp; omega), by omega, hE⟩, by simp [intOf]; omega⟩
            by_cases hp5 : kd = 4 ∨ kd = 5
            · rcases hp5 with rfl | rfl
              all_goals
                clear hE0
                cases l with
                | nil =>
                  go_wp2_with fail
                  refine (popNone_any (hE.queue 1 rfl)).mono ?_
                  rintro e w4 ⟨rfl, hb⟩
                  replace hE := (hE.over hb).box w4.heap.size rfl [.int .i64 0, .int .i64 0, .int .i64 0] 35
                  clear hb rX
                  simp only [tv, t0]
                  go_wp2_with fail
                  refine (refPopNone_any 3 hE rfl).mono ?_
                  rintro e w5 ⟨rfl, hE5⟩
                  clear hE
                  have hE := hE5.box w5.heap.size rfl [.int .i64 0, .int .i64 0, .int .i64 0] 33
                  clear hE5
                  simp only [tv, t0]
                  have HE1 := Lib.hid hE
                  clear hE
                  go_wp2_with fail
                  have hE := HE1.out
                  generalize w4.heap.size = E4 at *
                  generalize w5.heap.size = E5 at *
                  clear HE1
                  refine Ord.wp_chain [] (fun v => Env W [boxI E5 [.int .i64 0, .int .i64 0, .int .i64 0], boxI E4 [.int .i64 0, .int .i64 0, .int .i64 0], boxI X [.int .i64 _, .slice Ax ys.length cx, .int .i64 s], queueI q F [] k, rqI u B ([] : List Trip).length c ((2 ^ k : Nat) : Int), rrI B c []] v) (fun _ _ => True) (by kernel_rfl) (by kernel_rfl) (by kernel_rfl) hE.drew trivial (fun hT => ?_)
                  have hT9 := Lib.hid hT
                  clear hT
                  repeat (first
                    | (refine Ord.ch_value (v := ?_) hT9.out (by decide) (by rfl) ?_ ?_; rotate_left; (focus (intro w5 hS; have r0 := hS.rule 0 rfl; have r1 := hS.rule 1 rfl; go_simp <;> with_reducible rfl)); (try simp only [Act.put, List.setIfInBounds_toArray, List.set_cons_zero, List.set_cons_succ]))
                    | (refine Ord.ch_off hT9.out (by decide) (by rfl) ?_; (try simp only [Act.put, List.setIfInBounds_toArray, List.set_cons_zero, List.set_cons_succ]))
                    | (refine Ord.ch_call (v := ?_) (f := ?_) (args := ?_) hT9.out (by decide) (by rfl) ?_ ?_ ?_; rotate_left 3; (focus (intro w5 hS; have r0 := hS.rule 0 rfl; have r1 := hS.rule 1 rfl; go_simp; constructor <;> with_reducible rfl)); (focus (intro w5 hS; (first | (with_reducible refine (form_any _ _ _ _).mono ?_; rintro e w6 ⟨rfl, hb⟩; constructor; with_reducible rfl; exact ⟨hS.over hb, fun _ h => h⟩)))); (try simp only [Act.put, List.setIfInBounds_toArray, List.set_cons_zero, List.set_cons_succ])))
                  refine Ord.InText.nil fun w5 hS => ?_
                  clear hT9
                  obtain ⟨hE9, hC9⟩ := Ord.chain_end hS
                  clear hS
                  clear hE
                  have hE := hE9.sub (L' := [_, _, _]) (.cons _ (.cons _ (.cons _ (List.Sublist.refl _))))
                  clear hE9 hC9
                  go_wp2_with fail
                  refine (alike_yes 1 0 hE rfl rfl rfl).mono ?_
                  rintro e w20 ⟨rfl, hE20⟩
                  clear hE
                  have hE := hE20
                  clear hE20
                  go_wp2_with fail
                  exact ⟨⟨n + 1, k, c, B, F, [], by omega, by simp, by (simp), by omega, hE⟩, by simp [intOf]; omega⟩
                | cons o t =>
                  obtain ⟨x, y, z⟩ := o
                  go_wp2_with fail
                  refine (pop_any x y z (hE.queue 1 rfl)).mono ?_
                  rintro e w4 ⟨rfl, hQ, hs⟩
                  replace hE := hE.turnQ 1 rfl hQ hs
                  simp only [List.set_cons_succ, List.set_cons_zero] at hE
                  replace hE := hE.box w4.heap.size rfl [.int .i64 x, .int .i64 y, .int .i64 z] 35
                  clear hQ hs rX
                  simp only [tv]
                  go_wp2_with fail
                  refine (refPop_any x y z 3 hE rfl rfl (by simp at hl; omega)).mono ?_
                  rintro e w5 ⟨rfl, B2, c2, hE5⟩
                  simp only [List.set_cons_succ, List.set_cons_zero] at hE5
                  clear hE
                  have hE := hE5.box w5.heap.size rfl [.int .i64 x, .int .i64 y, .int .i64 z] 33
                  clear hE5
                  simp only [tv]
                  have HE1 := Lib.hid hE
                  clear hE
                  go_wp2_with fail
                  have hE := HE1.out
                  generalize w4.heap.size = E4 at *
                  generalize w5.heap.size = E5 at *
                  clear HE1
                  refine Ord.wp_chain [] (fun v => Env W [boxI E5 [.int .i64 x, .int .i64 y, .int .i64 z], boxI E4 [.int .i64 x, .int .i64 y, .int .i64 z], boxI X [.int .i64 _, .slice Ax ys.length cx, .int .i64 s], queueI q F t k, rqI u B2 (t : List Trip).length c2 ((2 ^ k : Nat) : Int), rrI B2 c2 t] v) (fun _ _ => True) (by kernel_rfl) (by kernel_rfl) (by kernel_rfl) hE.drew trivial (fun hT => ?_)
                  have hT9 := Lib.hid hT
                  clear hT
                  repeat (first
                    | (refine Ord.ch_value (v := ?_) hT9.out (by decide) (by rfl) ?_ ?_; rotate_left; (focus (intro w5 hS; have r0 := hS.rule 0 rfl; have r1 := hS.rule 1 rfl; go_simp <;> with_reducible rfl)); (try simp only [Act.put, List.setIfInBounds_toArray, List.set_cons_zero, List.set_cons_succ]))
                    | (refine Ord.ch_off hT9.out (by decide) (by rfl) ?_; (try simp only [Act.put, List.setIfInBounds_toArray, List.set_cons_zero, List.set_cons_succ]))
                    | (refine Ord.ch_call (v := ?_) (f := ?_) (args := ?_) hT9.out (by decide) (by rfl) ?_ ?_ ?_; rotate_left 3; (focus (intro w5 hS; have r0 := hS.rule 0 rfl; have r1 := hS.rule 1 rfl; go_simp; constructor <;> with_reducible rfl)); (focus (intro w5 hS; (first | (with_reducible refine (form_any _ _ _ _).mono ?_; rintro e w6 ⟨rfl, hb⟩; constructor; with_reducible rfl; exact ⟨hS.over hb, fun _ h => h⟩)))); (try simp only [Act.put, List.setIfInBounds_toArray, List.set_cons_zero, List.set_cons_succ])))
                  refine Ord.InText.nil fun w5 hS => ?_
                  clear hT9
                  obtain ⟨hE9, hC9⟩ := Ord.chain_end hS
                  clear hS
                  clear hE
                  have hE := hE9.sub (L' := [_, _, _]) (.cons _ (.cons _ (.cons _ (List.Sublist.refl _))))
                  clear hE9 hC9
                  go_wp2_with fail
                  refine (alike_yes 1 0 hE rfl rfl rfl).mono ?_
                  rintro e w20 ⟨rfl, hE20⟩
                  clear hE
                  have hE := hE20
                  clear hE20
                  go_wp2_with fail
                  exact ⟨⟨n + 1, k, c2, B2, F, t, by omega, by simp, by (simp at hl; omega), by omega, hE⟩, by simp [intOf]; omega⟩
            have b1 : (kd == 1) = false := by rw [beq_eq_false_iff_ne]; omega
            have b2 : (kd == 2) = false := by rw [beq_eq_false_iff_ne]; omega
            have b3 : (kd == 3) = false := by rw [beq_eq_false_iff_ne]; omega
            have b4 : (kd == 4) = false := by rw [beq_eq_false_iff_ne]; omega
            have b5 : (kd == 5) = false := by rw [beq_eq_false_iff_ne]; omega
            clear hp3 hp5
            by_cases hp6 : kd = 6
            · subst hp6
              clear b1 b2 b3 b4 b5
              clear hE0
              cases l with
              | nil =>
                go_wp2_with fail
                refine (headNone_any (hE.queue 1 rfl)).mono ?_
                rintro e w4 ⟨rfl, hb⟩
                replace hE := (hE.over hb).box w4.heap.size rfl [.int .i64 0, .int .i64 0, .int .i64 0] 35
                clear hb rX
                simp only [tv, t0]
                have HE1 := Lib.hid hE
                clear hE
                go_wp2_with fail
                have hE := HE1.out
                generalize w4.heap.size = E4 at *
                clear HE1
                refine Ord.wp_chain [] (fun v => Env W [boxI E4 [.int .i64 0, .int .i64 0, .int .i64 0], boxI X [.int .i64 6, .slice Ax ys.length cx, .int .i64 s], queueI q F [] k, rqI u B ([] : List Trip).length c ((2 ^ k : Nat) : Int), rrI B c []] v) (fun _ _ => True) (by kernel_rfl) (by kernel_rfl) (by kernel_rfl) hE.drew trivial (fun hT => ?_)
                have hT9 := Lib.hid hT
                clear hT
                repeat (first
                  | (refine Ord.ch_value (v := ?_) hT9.out (by decide) (by rfl) ?_ ?_; rotate_left; (focus (intro w5 hS; have r0 := hS.rule 0 rfl; have r1 := hS.rule 3 rfl; go_simp <;> with_reducible rfl)); (try simp only [Act.put, List.setIfInBounds_toArray, List.set_cons_zero, List.set_cons_succ]))
                  | (refine Ord.ch_off hT9.out (by decide) (by rfl) ?_; (try simp only [Act.put, List.setIfInBounds_toArray, List.set_cons_zero, List.set_cons_succ]))
                  | (refine Ord.ch_call (v := ?_) (f := ?_) (args := ?_) hT9.out (by decide) (by rfl) ?_ ?_ ?_; rotate_left 3; (focus (intro w5 hS; have r0 := hS.rule 0 rfl; have r1 := hS.rule 3 rfl; go_simp; constructor <;> with_reducible rfl)); (focus (intro w5 hS; (first | (with_reducible refine (form_any _ _ _ _).mono ?_; rintro e w6 ⟨rfl, hb⟩; constructor; with_reducible rfl; exact ⟨hS.over hb, fun _ h => h⟩)))); (try simp only [Act.put, List.setIfInBounds_toArray, List.set_cons_zero, List.set_cons_succ])))
                refine Ord.InText.nil fun w5 hS => ?_
                clear hT9
                obtain ⟨hE9, hC9⟩ := Ord.chain_end hS
                clear hS
                clear hE
                have hE := hE9.sub (L' := [_, _, _]) (.cons _ (.cons _ (List.Sublist.refl _)))
                clear hE9 hC9
                go_wp2_with fail
                refine (alike_yes 1 0 hE rfl rfl rfl).mono ?_
                rintro e w20 ⟨rfl, hE20⟩
                clear hE
                have hE := hE20
                clear hE20
                go_wp2_with fail
                exact ⟨⟨n + 1, k, c, B, F, [], by omega, by simp, by (simp), by omega, hE⟩, by simp [intOf]; omega⟩
              | cons o t =>
                obtain ⟨x, y, z⟩ := o
                obtain ⟨g, off2, rfl⟩ : ∃ g off2, B = some ⟨g, off2, none⟩ := by
                  rcases hE.cells3 3 rfl rfl with h0 | ⟨g, off2, h, _⟩
                  · cases h0
                  · exact ⟨g, off2, h⟩
                go_wp2_with fail
                refine (head_any x y z (hE.queue 1 rfl)).mono ?_
                rintro e w4 ⟨rfl, hb⟩
                replace hE := (hE.over hb).box w4.heap.size rfl [.int .i64 x, .int .i64 y, .int .i64 z] 35
                clear hb rX
                simp only [tv]
                have HE1 := Lib.hid hE
                clear hE
                have hgt : decide ((0 : Int) < (t.length : Int) + 1) = true := by rw [decide_eq_true_iff]; omega
                go_wp2_with fail
                have hE := HE1.out
                generalize w4.heap.size = E4 at *
                clear HE1
                have HC : Hid (∀ v, Env W [boxI E4 [.int .i64 x, .int .i64 y, .int .i64 z], boxI X [.int .i64 6, .slice Ax ys.length cx, .int .i64 s], queueI q F ((x, y, z) :: t) k, rqI u (some ⟨g, off2, none⟩) ((x, y, z) :: t).length c ((2 ^ k : Nat) : Int), rrI (some ⟨g, off2, none⟩) c ((x, y, z) :: t)] v → v.cell? ⟨g, off2, none⟩ = some (.int .i64 x) ∧ v.cell? ⟨g, off2 + 1, none⟩ = some (.int .i64 y) ∧ v.cell? ⟨g, off2 + 2, none⟩ = some (.int .i64 z)) := Lib.hid fun v hv => by
                  rcases hv.cells3 4 rfl rfl with h0 | ⟨g', off', he, _, hc⟩
                  · cases h0
                  · cases he
                    have := at3 (hc 0 (by simp))
                    simpa using this
                refine Ord.wp_chain [] (fun v => Env W [boxI E4 [.int .i64 x, .int .i64 y, .int .i64 z], boxI X [.int .i64 6, .slice Ax ys.length cx, .int .i64 s], queueI q F ((x, y, z) :: t) k, rqI u (some ⟨g, off2, none⟩) ((x, y, z) :: t).length c ((2 ^ k : Nat) : Int), rrI (some ⟨g, off2, none⟩) c ((x, y, z) :: t)] v) (fun _ _ => True) (by kernel_rfl) (by kernel_rfl) (by kernel_rfl) hE.drew trivial (fun hT => ?_)
                have hT9 := Lib.hid hT
                clear hT
                repeat (first
                  | (refine Ord.ch_value (v := ?_) hT9.out (by decide) (by rfl) ?_ ?_; rotate_left; (focus (intro w5 hS; have r0 := hS.rule 0 rfl; have r1 := hS.rule 3 rfl; obtain ⟨c0, c1, c2⟩ := HC.out _ hS; go_simp <;> with_reducible rfl)); (try simp only [Act.put, List.setIfInBounds_toArray, List.set_cons_zero, List.set_cons_succ]))
                  | (refine Ord.ch_off hT9.out (by decide) (by rfl) ?_; (try simp only [Act.put, List.setIfInBounds_toArray, List.set_cons_zero, List.set_cons_succ]))
                  | (refine Ord.ch_call (v := ?_) (f := ?_) (args := ?_) hT9.out (by decide) (by rfl) ?_ ?_ ?_; rotate_left 3; (focus (intro w5 hS; have r0 := hS.rule 0 rfl; have r1 := hS.rule 3 rfl; obtain ⟨c0, c1, c2⟩ := HC.out _ hS; go_simp; constructor <;> with_reducible rfl)); (focus (intro w5 hS; (first | (with_reducible refine (form_any _ _ _ _).mono ?_; rintro e w6 ⟨rfl, hb⟩; constructor; with_reducible rfl; exact ⟨hS.over hb, fun _ h => h⟩)))); (try simp only [Act.put, List.setIfInBounds_toArray, List.set_cons_zero, List.set_cons_succ])))
                refine Ord.InText.nil fun w5 hS => ?_
                clear hT9
                obtain ⟨hE9, hC9⟩ := Ord.chain_end hS
                clear hS
                clear hE
                have hE := hE9.sub (L' := [_, _, _]) (.cons _ (.cons _ (List.Sublist.refl _)))
                clear hE9 hC9
                go_wp2_with fail
                refine (alike_yes 1 0 hE rfl rfl rfl).mono ?_
                rintro e w20 ⟨rfl, hE20⟩
                clear hE
                have hE := hE20
                clear hE20
                go_wp2_with fail
                exact ⟨⟨n + 1, k, c, (some ⟨g, off2, none⟩), F, ((x, y, z) :: t), by omega, by simp, by (simp at hl ⊢; omega), by omega, hE⟩, by simp [intOf]; omega⟩
            have b6 : (kd == 6) = false := by rw [beq_eq_false_iff_ne]; omega
            clear hp6
            clear hE0
            have hc1 : Hid (∀ v, Env W [boxI X [.int .i64 kd, .slice Ax ys.length cx, .int .i64 s], queueI q F l k, rqI u B l.length c ((2 ^ k : Nat) : Int), rrI B c l] v → Calls Try.prog 13 #[.pointer (some ⟨q, 0, none⟩), .int .i64 s] v fun e w' => e = .returned (.int .i64 (findI l s)) ∧ Below v.heap.size v w') := Lib.hid fun v hv => find_any s (hv.queue 1 rfl)
            have hc2 : Hid (∀ v, Env W [boxI X [.int .i64 kd, .slice Ax ys.length cx, .int .i64 s], queueI q F l k, rqI u B l.length c ((2 ^ k : Nat) : Int), rrI B c l] v → Calls Try.prog 14 #[.pointer (some ⟨u, 0, none⟩), .int .i64 s] v fun e w' => e = .returned (.int .i64 (findI l s)) ∧ v = w') := Lib.hid fun v hv => refFind_any s 2 hv rfl rfl (by omega)
            generalize findI l s = fv at *
            have hfv : (fv != fv) = false := by simp
            have HE1 := Lib.hid hE
            clear hE
            go_wp2_with fail
            have hE := HE1.out
            clear HE1 rX
            refine Ord.wp_chain [] (fun v => Env W [boxI X [.int .i64 kd, .slice Ax ys.length cx, .int .i64 s], queueI q F l k, rqI u B l.length c ((2 ^ k : Nat) : Int), rrI B c l] v) (fun _ _ => True) (by kernel_rfl) (by kernel_rfl) (by kernel_rfl) hE.drew trivial (fun hT => ?_)
            have hT9 := Lib.hid hT
            clear hT
            repeat (first
              | (refine Ord.ch_value (v := ?_) hT9.out (by decide) (by rfl) ?_ ?_; rotate_left; (focus (intro w5 hS; have r0 := hS.rule 0 rfl; go_simp <;> with_reducible rfl)); (try simp only [Act.put, List.setIfInBounds_toArray, List.set_cons_zero, List.set_cons_succ]))
              | (refine Ord.ch_off hT9.out (by decide) (by rfl) ?_; (try simp only [Act.put, List.setIfInBounds_toArray, List.set_cons_zero, List.set_cons_succ]))
              | (refine Ord.ch_call (v := ?_) (f := ?_) (args := ?_) hT9.out (by decide) (by rfl) ?_ ?_ ?_; rotate_left 3; (focus (intro w5 hS; have r0 := hS.rule 0 rfl; go_simp; constructor <;> with_reducible rfl)); (focus (intro w5 hS; (first | (with_reducible refine (hc1.out _ hS).mono ?_; rintro e w6 ⟨rfl, hb⟩; constructor; with_reducible rfl; exact ⟨hS.over hb, fun _ h => h⟩) | (with_reducible refine (hc2.out _ hS).mono ?_; rintro e w6 ⟨rfl, rfl⟩; constructor; with_reducible rfl; exact ⟨hS, fun _ h => h⟩)))); (try simp only [Act.put, List.setIfInBounds_toArray, List.set_cons_zero, List.set_cons_succ])))
            refine Ord.InText.nil fun w5 hS => ?_
            clear hT9
            obtain ⟨hE9, hC9⟩ := Ord.chain_end hS
            clear hS
            clear hE hc1 hc2
            have hE := hE9.sub (L' := [_, _, _]) (.cons _ (List.Sublist.refl _))
            clear hE9 hC9
            go_wp2_with fail
            refine (alike_yes 1 0 hE rfl rfl rfl).mono ?_
            rintro e w20 ⟨rfl, hE20⟩
            clear hE
            have hE := hE20
            clear hE20
            go_wp2_with fail
            exact ⟨⟨n + 1, k, c, B, F, l, by omega, by simp, by omega, by omega, hE⟩, by simp [intOf]; omega⟩
          · have hb1 : decide ((n : Int) < ds.length) = true := by simp; omega
            have hb2 : decide ((n : Int) < 100) = false := by simp; omega
            go_wp2_with fail
            refine (headNil_any _).mono ?_
            rintro e w21 ⟨rfl, hb⟩
            replace hE := hE.over hb
            clear hb
            simp only [tv, t0]
            go_wp2_with fail
            replace hE := hE.more (.cells [.int .i64 0, .int .i64 0, .int .i64 0].toArray 35)
            refine (popNil_any _).mono ?_
            rintro e w22 ⟨rfl, hb⟩
            replace hE := hE.over hb
            clear hb
            simp only [tv, t0]
            replace hE := hE.more (.cells [.int .i64 0, .int .i64 0, .int .i64 0].toArray 35)
            go_wp2_with (first
              | (with_reducible refine (pushNil_any _ _).mono ?_; rintro e w1 ⟨rfl, rfl⟩)
              | (with_reducible refine (lenNil_any _).mono ?_; rintro e w1 ⟨rfl, hb⟩; replace hE := hE.over hb; clear hb)
              | (with_reducible refine (roomNil_any _).mono ?_; rintro e w1 ⟨rfl, hb⟩; replace hE := hE.over hb; clear hb)
              | (with_reducible refine (listNil_any _).mono ?_; rintro e w1 ⟨bb, rfl, hb⟩; replace hE := hE.over hb; clear hb)
              | (with_reducible refine (findNil_any _ _).mono ?_; rintro e w1 ⟨rfl, hb⟩; replace hE := hE.over hb; clear hb)
              | (with_reducible refine (sameNil_q _).mono ?_; rintro e w1 ⟨rfl, rfl⟩)
              | (with_reducible refine (sameSome_q _ _).mono ?_; rintro e w1 ⟨rfl, rfl⟩))
            go_ret
            exact ⟨rfl, hE.below⟩
        · have hb1 : decide ((n : Int) < ds.length) = false := by simp; omega
          go_wp2_with fail
          refine (headNil_any _).mono ?_
          rintro e w21 ⟨rfl, hb⟩
          replace hE := hE.over hb
          clear hb
          simp only [tv, t0]
          go_wp2_with fail
          replace hE := hE.more (.cells [.int .i64 0, .int .i64 0, .int .i64 0].toArray 35)
          refine (popNil_any _).mono ?_
          rintro e w22 ⟨rfl, hb⟩
          replace hE := hE.over hb
          clear hb
          simp only [tv, t0]
          replace hE := hE.more (.cells [.int .i64 0, .int .i64 0, .int .i64 0].toArray 35)
          go_wp2_with (first
            | (with_reducible refine (pushNil_any _ _).mono ?_; rintro e w1 ⟨rfl, rfl⟩)
            | (with_reducible refine (lenNil_any _).mono ?_; rintro e w1 ⟨rfl, hb⟩; replace hE := hE.over hb; clear hb)
            | (with_reducible refine (roomNil_any _).mono ?_; rintro e w1 ⟨rfl, hb⟩; replace hE := hE.over hb; clear hb)
            | (with_reducible refine (listNil_any _).mono ?_; rintro e w1 ⟨bb, rfl, hb⟩; replace hE := hE.over hb; clear hb)
            | (with_reducible refine (findNil_any _ _).mono ?_; rintro e w1 ⟨rfl, hb⟩; replace hE := hE.over hb; clear hb)
            | (with_reducible refine (sameNil_q _).mono ?_; rintro e w1 ⟨rfl, rfl⟩)
            | (with_reducible refine (sameSome_q _ _).mono ?_; rintro e w1 ⟨rfl, rfl⟩))
          go_ret
          exact ⟨rfl, hE.below⟩

theorem own : ownKnob Try.prog.godebug = none := by kernel_rfl
theorem laidOut : laidOutB Try.prog = true := by kernel_rfl

set_option maxRecDepth 100000 in
theorem lifted (os : Os) (started : os.Started) (H : Type) (enc : TypeId × Value → H) :
    ReturnsInHanded {} Try.checked os 3 .any (Rows.queueExactSpec.pre6 enc Try.prog Try.f3 Rows.queueExactRow.domain false) (Rows.queueExactSpec.post enc Try.prog Try.f3 false true false false) := by
  refine returnsInHanded_of_change (C := Try.checked) own started (by kernel_rfl) Try.func3
    (ChangeSpec.witness6 (enc := enc) (C := Try.checked) false ⟨#[], #[.slice none 0 0, .slice none 0 0], []⟩ 8 (by kernel_rfl) (by kernel_rfl) (by kernel_rfl) (by kernel_rfl)) ?_
  intro W base args ds gs before hval0 hW hcnd _
  have hval : ∀ (j : Nat) t v, Try.f3.params[j]? = some t → args[j]? = some v → Value.okWide Try.prog W .any base t v := hval0
  have hW' := hW
  obtain ⟨p, q, hA0, hV, rfl, hfz, hnd⟩ := hW
  have hA : DataW.TrodAll enc Try.prog W 0 (fun _ => true) true Try.f3.params.toList args.toList ds p := hA0
  rw [Try.params3] at hA hval
  obtain ⟨v0, vs0, d0, ds0, p0, q0, hargs, rfl, rfl, g0, r0⟩ := trodAll_cons hA
  obtain ⟨v1, vs1, d1, ds1, p1, q1, rfl, rfl, rfl, g1, r1⟩ := trodAll_cons r0
  obtain ⟨rfl, rfl, rfl⟩ := trodAll_nil r1
  obtain rfl : args = #[v0, v1] := by cases args; simp_all
  obtain ⟨rfl, rfl⟩ := trodVars_none hV
  obtain ⟨A0, n0, cap0, rfl⟩ := okWide_slice Try.underlying22 (hval 0 22 v0 rfl rfl)
  obtain ⟨zs0, rfl, h0, w0, row0⟩ := open_Ent g0 (fun x hx => hW'.lt x (by simp [hx]))
  unfold maxLen at h0
  obtain ⟨A1, n1, cap1, rfl⟩ := okWide_slice Try.underlying23 (hval 1 23 v1 rfl rfl)
  obtain ⟨zs1, rfl, h1, w1, row1⟩ := open_Deeds g1 (fun x hx => hW'.lt x (by simp [hx]))
  unfold maxLen at h1
  clear hA0 hval0
  refine (walk zs0 zs1 A0 A1 cap0 cap1 W h0 h1 row0 w1 row1).mono fun e W' ⟨he, hg⟩ => ?_
  subst he
  exact ⟨_, rfl, law_post laidOut (by kernel_rfl) (by kernel_rfl) Try.underlying4 rfl rfl hW' hg⟩

theorem over : Rows.queueExactRow.holds Try.pinned (OpenSpec.ofChange Rows.queueExactSpec) :=
  OpenClaim.holds_of_wide 3 Try.f3 rfl rfl rfl rfl rfl rfl rfl ⟨rfl, rfl, rfl, rfl, rfl⟩ rfl rfl rfl rfl rfl (by kernel_rfl) Try.func3 (by kernel_rfl)
    (of_decide_eq_true (by kernel_rfl)) (by unfold Func.isWrapper; first | (rw [if_pos (by decide +kernel)]; kernel_rfl) | (rw [if_neg (by decide +kernel)]; exact ⟨rfl, rfl⟩))
    (fun os started H enc _ => lifted os started H enc)

/-- THE STATEMENT. -/
theorem proved : Rows.QueueExactSaid := over
#print axioms proved
end Go.Proofs.Ytjiohencpopbeaa.queueExact
