/- Souls: Born. -/
import Derived.Test.YtnlepgbmbdmjbaaSoulA
namespace Go.Proofs.Ytnlepgbmbdmjbaa
open Go.RowKit Go.Maps
set_option maxRecDepth 100000

set_option maxRecDepth 100000 in
set_option maxHeartbeats 3200000 in
theorem born_any {s : Nat} {F : Nat → Prop} {l : List Int} {w : World} (x : Int) (hx : In64 x) (h1 : 1 ≤ x) (hl : l.length ≤ 100000) (hS : IsS w s F l) :
    Calls Try.prog 45 #[.pointer (some ⟨s, 0, none⟩), .int .i64 x] w fun e w' => e = .returned (.int .i64 ((l.length : Int) + 1)) ∧ ∃ F', IsS w' s F' (l ++ [x]) ∧ Step F F' w w' := by
  obtain ⟨v, mp, G, hb, ho, hm, hF, hvs, hGs, hvG⟩ := hS
  have hsl := hb.1
  have r0 := hb.rule
  have z0 : w.frozen? ⟨s, 1, none⟩ = false := hb.thaw 1 (by simp)
  have hx1 : decide (x < 1) = false := by simp; omega
  have hq := fun w => run_eql_map_nil_sl (P := Try.prog) w 75 _ _ mp Try.underlying75
  have hmm := @run_makeMap Try.prog
  have hE : Hid (∃ b W1 G', Blk 0 W1 s [v, .map (some b)] ∧ W1.ownsRow 0 3 1 v l.length (ints l) ∧ Lives W1 b G' l ∧ ¬ G' s ∧ (∀ g, v.ownBlock = some g → ¬ G' g) ∧ Turn F w W1 ∧ (∀ k, (k = s ∨ v.ownBlock = some k ∨ k = b ∨ G' k) → F k ∨ w.heap.size ≤ k) ∧
      (W1 = w ∧ mp = some b ∨ mp = none ∧ b = w.heap.size ∧ W1 = (w.setCell ⟨s, 1, none⟩ (.map (some w.heap.size))).alloc (.map #[] 0))) := by
    rcases hm with ⟨rfl, rfl, hn⟩ | ⟨b, rfl, hL⟩
    · have hLm := Lives.made (w.setCell ⟨s, 1, none⟩ (.map (some w.heap.size)))
      have hsz : (w.setCell ⟨s, 1, none⟩ (.map (some w.heap.size))).heap.size = w.heap.size := by simp
      rw [hsz] at hLm
      refine ⟨w.heap.size, _, fun _ => False, (hb.set (i := 1) (by simp) (.map (some w.heap.size))).more _, (ownsRow_setCell_other ho hvs _).alloc _, hLm, fun h => h, fun _ _ h => h, ((Turn.refl F w).setCell (p := ⟨s, 1, none⟩) (fun _ => (hF s).2 (.inl rfl)) _).alloc _, ?_, .inr ⟨rfl, rfl, rfl⟩⟩
      rintro k (rfl | h | rfl | h)
      · exact .inl ((hF _).2 (.inl rfl))
      · exact .inl ((hF _).2 (.inr (.inl h)))
      · exact .inr (Nat.le_refl _)
      · exact h.elim
    · refine ⟨b, w, G, hb, ho, hL, hGs, hvG, Turn.refl _ _, ?_, .inl ⟨rfl, rfl⟩⟩
      rintro k (rfl | h | rfl | h)
      · exact .inl ((hF _).2 (.inl rfl))
      · exact .inl ((hF _).2 (.inr (.inl h)))
      · exact .inl ((hF _).2 (.inr (.inr (.inl rfl))))
      · exact .inl ((hF _).2 (.inr (.inr (.inr h))))
  clear hm ho hvG hGs
  obtain ⟨b, W1, G', hb1, ho1, hL1, hG1, hv1, hT1, hF1, hW⟩ := hE.out
  obtain ⟨g, cap, W2, W3, A, c, g2, c2, W5, W6, F', hrun, hb2, hW3, hb3, hlook, hbl3, hrun5, hb5, hrun6, hb6, hS6, hT6, hF6⟩ := born_worlds x hx hl hb1 ho1 hL1 hvs hG1 hv1
  obtain ⟨A0, c0, rfl⟩ := ownsRow_slice ho1
  have hEND : Hid (IsS W6 s F' (l ++ [x]) ∧ Step F F' w W6) := Lib.hid ⟨hS6, ⟨hT1.then (hT6.mono (T' := fun k => k < w.heap.size → F k) fun k hk e hk' => (hF1 k e).resolve_right (by omega)) fun k hk e => e hk, fun k hk => by
    rcases hF6 k hk with h | h
    · exact hF1 k h
    · exact .inr (Nat.le_trans hT1.size h)⟩⟩
  have HRUN := Lib.hid hrun
  have HB1 := Lib.hid hb1.rule
  have HB2 := Lib.hid (And.intro hb2.rule (And.intro (hb2.thaw 0 (by simp)) hb2.1))
  have HB3 := Lib.hid (And.intro hb3.rule (And.intro hb3.drew.rule (And.intro (hb3.drew.more (.cells #[.int .i64 ((l.length : Int) + 1)] 3)).rule (And.intro hb5.rule hb6.rule))))
  have hk0 : W3.drew.heap[b]? = W3.heap[b]? := rfl
  have hk1 : (W3.drew.alloc (.cells #[.int .i64 ((l.length : Int) + 1)] 3)).heap[b]? = W3.heap[b]? := Below.heap_alloc _ _ _ hbl3
  have HLOOK := Lib.hid (And.intro (hlook _ hk0) (hlook _ hk1))
  have HR5 := Lib.hid hrun5
  have HR6 := Lib.hid hrun6
  have HEX := Lib.hid hx
  have hw64 : wrap64 ((l.length : Int) + 1) = (l.length : Int) + 1 := w64 _ (by omega)
  clear hE hb hF hT1 hF1 hlook hrun5 hrun6 hS6 hT6 hF6 hbl3 hk0 hk1 hrun ho1 hL1 hG1 hv1 hx hb5 hb6 hvs
  have hb2r := HB2.out.1
  have hb2z := HB2.out.2.1
  have HW3 := Lib.hid hW3
  clear hW3 hb1 hb2 hb3
  rcases hW with ⟨rfl, rfl⟩ | ⟨rfl, hbw, hWW⟩
  case' inr =>
    have hsz : W1.heap.size = w.heap.size + 1 := by rw [hWW]; simp
    rw [hsz] at HRUN
    subst hWW hbw
    clear hsz
  all_goals
    simp only [Option.isNone_some, Option.isNone_none] at hq
    go_enter Try.func45, Try.ntmps45
    go_wp2_with (first | (at_builtin; refine wpList_append_run rfl _ _ 30 rfl HRUN.out rfl rfl ?_))
    rw [← HW3.out]
    clear hq hmm r0 z0 hb2r hb2z HB1 HB2 HRUN HW3
    refine Ord.wp_chain2 [12, 13, 14] (fun w' => ∀ i, w'.cell? ⟨s, i, none⟩ = [Value.slice (some ⟨g, 0, none⟩) (l.length + 1) cap, .map (some _)][i]?) (fun j w' => [W3.drew, W3.drew.alloc (.cells #[.int .i64 ((l.length : Int) + 1)] 3), W5, W6][j]? = some w') (by kernel_rfl) (by kernel_rfl) (by kernel_rfl) HB3.out.2.1 rfl (fun hT => ?_)
    have hT9 := Lib.hid hT
    clear hT
    repeat (refine Ord.ch2_value (v := ?_) hT9.out (by decide) (by rfl) ?_ ?_; rotate_left; (focus (intro w5 hS; go_simp <;> with_reducible rfl)); (try simp only [Act.put, List.setIfInBounds_toArray, List.set_cons_zero, List.set_cons_succ]))
    refine Ord.ch2_early 1 hT9.out (by decide) (by rfl) (by kernel_rfl) (by decide) (by rfl) (v := .slice A (ids l x).length c) ?_ ?_
    · intro w5 j hj hS hA
      obtain ⟨l0, l1⟩ := HLOOK.out
      rw [show W3.drew.alloc (.cells #[.int .i64 ((l.length : Int) + 1)] 3) = (W3.alloc (.cells #[.int .i64 ((l.length : Int) + 1)] 3)).drew from rfl] at l1
      rcases j with _ | _ | j
      · cases hA; go_simp <;> with_reducible rfl
      · cases hA; go_simp <;> with_reducible rfl
      · omega
    (try simp only [Act.put, List.setIfInBounds_toArray, List.set_cons_zero, List.set_cons_succ])
    repeat (refine Ord.ch2_value (v := ?_) hT9.out (by decide) (by rfl) ?_ ?_; rotate_left; (focus (intro w5 hS; skip; go_simp <;> with_reducible rfl)); (try simp only [Act.put, List.setIfInBounds_toArray, List.set_cons_zero, List.set_cons_succ]))
    refine Ord.ch2_turn 0 hT9.out (by rfl) (by decide) (Or.inl rfl) (by rfl) (v := .slice (some ⟨W3.heap.size, 0, none⟩) 1 1) ?_ ?_
    · intro w5 hS hA
      cases hA
      go_simp
      simp only [Ord.LandsIn]
      exact ⟨trivial, HB3.out.2.2.1, trivial⟩
    (try simp only [Act.put, List.setIfInBounds_toArray, List.set_cons_zero, List.set_cons_succ])
    refine Ord.ch2_turn 1 hT9.out (by rfl) (by decide) (Or.inr ⟨_, rfl, by kernel_rfl⟩) (by rfl) (v := .slice (some ⟨g2, 0, none⟩) ((ids l x).length + 1) c2) ?_ ?_
    · intro w5 hS hA
      cases hA
      refine append_lands rfl HR5.out (by rfl) (by rfl) ⟨HB3.out.2.2.2.1, rfl⟩
    (try simp only [Act.put, List.setIfInBounds_toArray, List.set_cons_zero, List.set_cons_succ])
    refine Ord.ch2_turn 2 hT9.out (by rfl) (by decide) (Or.inr ⟨_, rfl, by kernel_rfl⟩) (by rfl) (v := undef) ?_ ?_
    · intro w5 hS hA
      cases hA
      have hr6 := HR6.out
      simp [execOp, Act.eval, hr6, Result.andThen]
      exact ⟨rfl, HB3.out.2.2.2.2, rfl⟩
    (try simp only [Act.put, List.setIfInBounds_toArray, List.set_cons_zero, List.set_cons_succ])
    refine Ord.InText.nil fun w5 hS => ?_
    clear hT9
    obtain ⟨hC, hA⟩ := Ord.chain2_end hS
    clear hS
    cases hA
    go_wp2_with fail
    go_ret
    exact ⟨rfl, F', hEND.out⟩
end Go.Proofs.Ytnlepgbmbdmjbaa
