/- What is proved on the way to the statement, part 5 of 7: contracts of the functions, among other things in memory. -/
import Derived.Test.YthiccboecimfjaaE4
import Derived.OneCell
import Derived.LoopN

/- The reference's words in a row: Set. -/
namespace Go.Proofs.Ythiccboecimfjaa
open Go.RowKit Go.Maps
set_option maxRecDepth 100000

theorem infoOne : (Try.prog.info? 94).map (fun i => (i.zero, i.size, i.bytes)) = some (some (.agg #[.int .i64 0, .int .i64 0, .int .i64 0, .int .u64 0]), 4, 32) := by kernel_rfl
theorem flatO_append (l m : List OneR) : flatO (l ++ m) = flatO l ++ flatO m := by simp [flatO]
theorem flatO_put (l : List OneR) (k : Nat) (hk : k < l.length) (p : Plc) (v0 v : Int) (h : l.getD k dO = (p, v0)) : flatO (l.take k ++ (p, v) :: l.drop (k + 1)) = (flatO l).set (k * 4 + 3) (.int .u64 v) := by
  have e : l = l.take k ++ (p, v0) :: l.drop (k + 1) := by
    conv => lhs; rw [← List.take_append_drop k l, List.drop_eq_getElem_cons hk]
    rw [show l[k] = (p, v0) by simpa [hk] using h]
  conv => rhs; rw [e]
  have hlen : (flatO (l.take k)).length = k * 4 := by rw [flatO_length]; simp; omega
  rw [flatO_append, flatO_append, List.set_append_right _ _ (by omega), hlen]
  congr 1
  rw [show k * 4 + 3 - k * 4 = 3 by omega]
  simp [flatO, encO]
theorem setL_skip {x : Plc} {v : Int} {l : List OneR} {k : Nat} (hk : k < l.length) {p : Plc} {v0 : Int} (h : l.getD k dO = (p, v0)) (hp : ¬ p = x) (hs : setL l x v = l.take k ++ setL (l.drop k) x v) : setL l x v = l.take (k + 1) ++ setL (l.drop (k + 1)) x v := by
  have e : l[k] = (p, v0) := by simpa [hk] using h
  rw [hs, List.drop_eq_getElem_cons hk, e, setL, if_neg hp, List.take_succ_eq_append_getElem hk, e]
  simp
theorem setL_hit {x : Plc} {v : Int} {l : List OneR} {k : Nat} (hk : k < l.length) {v0 : Int} (h : l.getD k dO = (x, v0)) (hs : setL l x v = l.take k ++ setL (l.drop k) x v) : setL l x v = l.take k ++ (x, v) :: l.drop (k + 1) := by
  have e : l[k] = (x, v0) := by simpa [hk] using h
  rw [hs, List.drop_eq_getElem_cons hk, e, setL, if_pos rfl]
/-- One of the words written: nothing but the row turns. -/
theorem row_wrote {w w' : World} {l : List OneR} {g cap k : Nat} {x : Plc} {v0 v : Int} (ho : w.ownsRow 0 94 4 (Value.slice (some ⟨g, 0, none⟩) l.length cap) l.length (flatO l))
    (hk : k < l.length) (h : l.getD k dO = (x, v0)) (hB : Below w.heap.size w w') :
    (w'.setCell ⟨g, k * 4 + 3, none⟩ (.int .u64 v)).ownsRow 0 94 4 (Value.slice (some ⟨g, 0, none⟩) (l.take k ++ (x, v) :: l.drop (k + 1)).length cap) (l.take k ++ (x, v) :: l.drop (k + 1)).length (flatO (l.take k ++ (x, v) :: l.drop (k + 1))) ∧ Turn (fun j => j = g) w (w'.setCell ⟨g, k * 4 + 3, none⟩ (.int .u64 v)) := by
  have hgl := (ho.lt g rfl).2
  have ho' : w'.ownsRow 0 94 4 (Value.slice (some ⟨g, 0, none⟩) l.length cap) l.length (flatO l) := ownsRow_kept ho fun k e => hB.block k (by cases e; exact hgl)
  have hlen : (l.take k ++ (x, v) :: l.drop (k + 1)).length = l.length := by simp; omega
  refine ⟨?_, (Turn.of_below hB : Turn (fun j => j = g) w w').setCell (p := ⟨g, k * 4 + 3, none⟩) (fun _ => rfl) _⟩
  rw [hlen, flatO_put l k hk x v0 v h]
  exact (ho'.stored _ _).1

set_option maxHeartbeats 3200000 in
theorem refSet_at {u o : Nat} {vs : List Value} {A : Option Addr} {cap : Nat} {l : List OneR} {w : World} (a b d v : Int) (hl : l.length ≤ 1000000) (hblk : Blk 0 w u vs) (hvo : vs[o]? = some (.slice A l.length cap)) (hown : w.ownsRow 0 94 4 (Value.slice A l.length cap) l.length (flatO l)) (hsep : (Value.slice A l.length cap).ownBlock ≠ some u) :
    Calls Try.prog 56 #[.pointer (some ⟨u, o, none⟩), .agg #[.int .i64 a, .int .i64 b, .int .i64 d], .int .u64 v] w fun e w' => e = .returned (.tuple #[]) ∧ ∃ A' cap', Blk 0 w' u (vs.set o (.slice A' (setL l (a, b, d) v).length cap')) ∧ w'.ownsRow 0 94 4 (.slice A' (setL l (a, b, d) v).length cap') (setL l (a, b, d) v).length (flatO (setL l (a, b, d) v)) ∧
      Turn (fun k => k = u ∨ (Value.slice A l.length cap).ownBlock = some k) w w' ∧ ∀ k, (Value.slice A' (setL l (a, b, d) v).length cap').ownBlock = some k → (Value.slice A l.length cap).ownBlock = some k ∨ w.heap.size ≤ k := by
  have hrow := ownsRow_words hown
  have hol : o < vs.length := (List.getElem?_eq_some_iff.1 hvo).1
  have r0 : w.cell? ⟨u, o, none⟩ = some (.slice A l.length cap) := by rw [hblk.rule o, hvo]
  have hul := hblk.1
  have hE := (Fr.start w).push w.heap.size rfl [.int .i64 a, .int .i64 b, .int .i64 d] 44
  have HROW := Lib.hid hrow
  have HR0 := Lib.hid r0
  have HALL := Lib.hid (And.intro hblk (And.intro hown (And.intro hsep hvo)))
  clear hrow r0 hblk hown hsep hvo
  obtain ⟨i0, hi, hz0, hz1, hz2⟩ := info_parts infoOne
  go_enter Try.func56, Try.ntmps56
  go_wp2_with fail
  go_loopw [6] (fun i wr => ∃ k : Nat, k ≤ l.length ∧ i = .int .i64 k ∧ setL l (a, b, d) v = l.take k ++ setL (l.drop k) (a, b, d) v ∧ Fr w [(w.heap.size, [.int .i64 a, .int .i64 b, .int .i64 d])] wr) (fun i _ => l.length - (intOf i).toNat)
  case atStart => exact ⟨0, by omega, rfl, rfl, hE⟩
  case round =>
    obtain ⟨k, hk, rfl, hg, hEr⟩ := hrel
    clear hE
    have hB : ∀ w', Below w.heap.size w w' → w'.cell? ⟨u, o, none⟩ = some (.slice A l.length cap) := fun w' hb => by rw [hb.cell (p := ⟨u, o, none⟩) hul]; exact HR0.out
    have ru := hB _ hEr.below
    have HG := Lib.hid hg
    have HB := Lib.hid hB
    clear hg hB
    by_cases hlt : k < l.length
    · rcases HROW.out with h0 | ⟨g, rfl, hgl, hc⟩
      · rw [h0] at hlt; simp at hlt
      obtain ⟨c0, c1, c2, c3⟩ := hc k hlt
      clear hc
      have hgk := Lib.hid (rfl : l.getD k dO = l.getD k dO)
      generalize ho : l.getD k dO = o at c0 c1 c2 c3
      obtain ⟨⟨x, y, z⟩, v0⟩ := o
      simp only at c0 c1 c2 c3
      have HC : Hid (∀ w', Below w.heap.size w w' → (w'.cell? ⟨g, k * 4, none⟩ = some (.int .i64 x) ∧ w'.cell? ⟨g, k * 4 + 1, none⟩ = some (.int .i64 y) ∧ w'.cell? ⟨g, k * 4 + 2, none⟩ = some (.int .i64 z) ∧ w'.cell? ⟨g, k * 4 + 3, none⟩ = some (.int .u64 v0))) := Lib.hid fun w' hb => by
        refine ⟨?_, ?_, ?_, ?_⟩
        · rw [hb.cell (p := ⟨g, k * 4, none⟩) hgl]; exact c0
        · rw [hb.cell (p := ⟨g, k * 4 + 1, none⟩) hgl]; exact c1
        · rw [hb.cell (p := ⟨g, k * 4 + 2, none⟩) hgl]; exact c2
        · rw [hb.cell (p := ⟨g, k * 4 + 3, none⟩) hgl]; exact c3
      have HO := Lib.hid ho
      clear c0 c1 c2 c3 ho hgk
      go_wp2_with fail
      refine Ord.wp_chain [] (fun w' => Fr w [(w.heap.size, [.int .i64 a, .int .i64 b, .int .i64 d])] w') (fun _ _ => True) (by kernel_rfl) (by kernel_rfl) (by kernel_rfl) hEr.drew trivial (fun hT => ?_)
      have hT9 := Lib.hid hT
      clear hT
      repeat (first
        | (refine Ord.ch_value (v := ?_) hT9.out (by decide) (by rfl) ?_ ?_; rotate_left; (focus (intro w5 hS; have r := hS.rule 0 rfl; have r1 := HB.out _ hS.below; obtain ⟨c0, c1, c2, c3⟩ := HC.out _ hS.below; go_simp <;> with_reducible rfl)); (try simp only [Act.put, List.setIfInBounds_toArray, List.set_cons_zero, List.set_cons_succ]))
        | (refine Ord.ch_off hT9.out (by decide) (by rfl) ?_; (try simp only [Act.put, List.setIfInBounds_toArray, List.set_cons_zero, List.set_cons_succ])))
      refine Ord.ch_value (v := .bool (decide ((x, y, z) = (a, b, d)))) hT9.out (by decide) (by rfl) ?_ ?_
      · intro w5 hS
        clear hS HC HB HG HROW HR0 HALL HO
        by_cases e1 : x = a <;> by_cases e2 : y = b <;> by_cases e3 : z = d <;> simp [e1, e2, e3] <;> go_simp
      (try simp only [Act.put, List.setIfInBounds_toArray, List.set_cons_zero, List.set_cons_succ])
      refine Ord.InText.nil fun w5 hS => ?_
      clear hT9
      obtain ⟨hEr, hC⟩ := Ord.chain_end hS
      clear hS
      clear hC
      have r := hEr.rule 0 rfl
      have r1 := HB.out _ hEr.below
      obtain ⟨c0, c1, c2, c3⟩ := HC.out _ hEr.below
      by_cases hp : (x, y, z) = (a, b, d)
      · rw [decide_eq_true hp]
        have hgl5 : g < w5.heap.size := Nat.lt_of_lt_of_le hgl hEr.below.size
        have hz : w5.frozen? ⟨g, k * 4 + 3, none⟩ = false := (ownsRow_kept HALL.out.2.1 fun k e => hEr.below.block k ((HALL.out.2.1.lt k e).2)).frozenAt _
        go_wp2_with fail
        refine bodyPost_ret (results_none rfl _ _ _) rfl ?_
        have hgd := HO.out
        rw [hp] at hgd
        obtain ⟨h1, h2⟩ := row_wrote (v := v) HALL.out.2.1 hlt hgd hEr.below
        have hgu : u ≠ g := fun e => HALL.out.2.2.1 (by simp [Value.ownBlock, e])
        have hlen : (setL l (a, b, d) v).length = l.length := by rw [setL_hit hlt hgd HG.out]; simp; omega
        have hb1 : Blk 0 w5 u vs := HALL.out.1.kept hEr.below.size (hEr.below.block u HALL.out.1.1)
        refine ⟨rfl, some ⟨g, 0, none⟩, cap, ?_, by rw [setL_hit hlt hgd HG.out]; exact h1, h2.mono fun k _ e => .inr (by simp [Value.ownBlock, e]), fun k e => .inl (by simpa [Value.ownBlock] using e)⟩
        have evs : vs.set o (.slice (some ⟨g, 0, none⟩) (setL l (a, b, d) v).length cap) = vs := by
          apply List.ext_getElem?
          intro j
          rw [List.getElem?_set]
          split
          · rename_i e; subst e; rw [HALL.out.2.2.2, hlen]
          · rfl
        rw [evs]
        exact hb1.kept (by simp) (Below.heap_setCell _ _ _ _ hgu)
      · rw [decide_eq_false hp]
        go_wp2_with fail
        exact ⟨⟨k + 1, by omega, rfl, setL_skip hlt HO.out hp HG.out, hEr⟩, by simp [intOf]; omega⟩
    · go_wp2_with fail
      have : k = l.length := by omega
      subst this
      obtain ⟨hblk, hown, hsep, hvo⟩ := HALL.out
      have hsz := hEr.below.size
      have hblk1 : Blk 0 wr u vs := hblk.kept hsz (hEr.below.block u hul)
      have hown1 : wr.ownsRow 0 94 4 (Value.slice A l.length cap) l.length (flatO l) := ownsRow_kept hown fun k e => hEr.below.block k ((hown.lt k e).2)
      have happ := run_append_lies (P := Try.prog) (wr.drew.alloc (.cells #[.int .i64 a, .int .i64 b, .int .i64 d, .int .u64 v] 94)) 28 28 0 94 i0 (.agg #[.int .i64 0, .int .i64 0, .int .i64 0, .int .u64 0]) 4 32 Try.underlying28 hi hz0 hz1 hz2 rfl (by decide)
        (Value.slice A l.length cap) l.length (flatO l) (hown1.drew.alloc _) ⟨wr.heap.size, 0, none⟩ 1 1 [.int .i64 a, .int .i64 b, .int .i64 d, .int .u64 v] rfl (cells_new _ _ _) (by simp [Value.oneCell']) (by omega) (by simp [maxLen]; omega) (by omega) (by simp) _ rfl
      obtain ⟨g, cap', W2, hrun, hown2, hgrow, hg2, hg2l⟩ := happ
      have hW1 := Below.alloc (Below.refl wr.heap.size wr.drew) (show wr.heap.size ≤ wr.drew.heap.size from Nat.le_refl _) (.cells #[.int .i64 a, .int .i64 b, .int .i64 d, .int .u64 v] 94)
      have hne2 : ∀ k, k < w.heap.size + 1 → some k ≠ (Value.slice A l.length cap).ownBlock → W2.heap[k]? = wr.heap[k]? := fun k hk hn => by
        have h1 := hEr.lt 0 rfl
        have h2 := hgrow.block k (by simp; omega) hn
        exact h2.trans (hW1.block k (by omega))
      have hblk2 : Blk 0 W2 u vs := hblk1.kept (by have := hgrow.size; simp at this; omega) (hne2 u (by omega) (fun e => hsep e.symm))
      have hgu : g ≠ u := fun e => by
        rcases hg2 with h | h
        · exact hsep (by rw [h, e])
        · rw [e] at h; simp at h; omega
      have hEd : Fr w [(w.heap.size, [.int .i64 a, .int .i64 b, .int .i64 d])] wr.drew := hEr.drew
      have hbx := hEr.2 _ (List.mem_singleton.2 rfl)
      have hB1 : Blk w.heap.size (wr.drew.alloc (.cells #[.int .i64 a, .int .i64 b, .int .i64 d, .int .u64 v] 94)) w.heap.size [.int .i64 a, .int .i64 b, .int .i64 d] := hbx.drew.more _
      have hB2 : Blk w.heap.size W2 w.heap.size [.int .i64 a, .int .i64 b, .int .i64 d] := hbx.kept (by have := hgrow.size; simp at this; omega) (hne2 _ (by omega) fun e => by
        have := (hown.lt _ e.symm).2
        omega)
      have hB3 : Blk w.heap.size (W2.setCell ⟨u, o, none⟩ (.slice (some ⟨g, 0, none⟩) (l.length + 1) cap')) w.heap.size [.int .i64 a, .int .i64 b, .int .i64 d] := hB2.kept (by simp) (Below.heap_setCell _ _ _ _ (by simp; omega))
      have HW : Hid ((∀ i, wr.drew.cell? ⟨w.heap.size, i, none⟩ = [Value.int .i64 a, .int .i64 b, .int .i64 d][i]?) ∧ (wr.drew.cell? ⟨u, o, none⟩ = some (.slice A l.length cap)) ∧ ((wr.drew.alloc (.cells #[.int .i64 a, .int .i64 b, .int .i64 d, .int .u64 v] 94)).cell? ⟨u, o, none⟩ = some (.slice A l.length cap))) := Lib.hid ⟨hbx.rule, by rw [hblk1.drew.rule o, hvo], by rw [(hblk1.drew.more _).rule o, hvo]⟩
      have HB1 := Lib.hid hB1.rule
      have HB2 : Hid ((∀ i, W2.cell? ⟨w.heap.size, i, none⟩ = [Value.int .i64 a, .int .i64 b, .int .i64 d][i]?) ∧ W2.cell? ⟨u, o, none⟩ = some (.slice A l.length cap) ∧ W2.frozen? ⟨u, o, none⟩ = false ∧ u < W2.heap.size) := Lib.hid ⟨hB2.rule, by rw [hblk2.rule o, hvo], hblk2.thaw o hol, hblk2.1⟩
      have HB3 := Lib.hid hB3.rule
      have HRUN := Lib.hid hrun
      have HEND := Lib.hid (And.intro hown2 (And.intro hgrow (And.intro hg2 (And.intro hg2l (And.intro hblk2 (And.intro hgu (And.intro hsz (And.intro hEr.below (And.intro hvo hW1)))))))))
      clear hB1 hB2 hB3 hrun hown2 hgrow hg2 hg2l hblk2 hgu hsz hblk1 hown1 hbx hEd hne2 hblk hown hsep hvo hW1 ru
      go_wp2_with fail
      refine Ord.wp_chain2 [8, 9, 12] (fun w' => ∀ i, w'.cell? ⟨w.heap.size, i, none⟩ = [Value.int .i64 a, .int .i64 b, .int .i64 d][i]?) (fun j w' => [wr.drew, wr.drew.alloc (.cells #[.int .i64 a, .int .i64 b, .int .i64 d, .int .u64 v] 94), W2, W2.setCell ⟨u, o, none⟩ (.slice (some ⟨g, 0, none⟩) (l.length + 1) cap')][j]? = some w') (by kernel_rfl) (by kernel_rfl) (by kernel_rfl) HW.out.1 rfl (fun hT => ?_)
      have hT9 := Lib.hid hT
      clear hT
      repeat (refine Ord.ch2_value (v := ?_) hT9.out (by decide) (by rfl) ?_ ?_; rotate_left; (focus (intro w5 hS; skip; go_simp <;> with_reducible rfl)); (try simp only [Act.put, List.setIfInBounds_toArray, List.set_cons_zero, List.set_cons_succ]))
      refine Ord.ch2_early 1 hT9.out (by decide) (by rfl) (by kernel_rfl) (by decide) (by rfl) (v := .slice A l.length cap) ?_ ?_
      · intro w5 j hj hS hA
        have r1 : w5.cell? ⟨u, o, none⟩ = some (.slice A l.length cap) := by
          rcases j with _ | _ | j
          · cases hA; exact HW.out.2.1
          · cases hA; exact HW.out.2.2
          · omega
        go_simp <;> with_reducible rfl
      (try simp only [Act.put, List.setIfInBounds_toArray, List.set_cons_zero, List.set_cons_succ])
      repeat (refine Ord.ch2_value (v := ?_) hT9.out (by decide) (by rfl) ?_ ?_; rotate_left; (focus (intro w5 hS; skip; go_simp <;> with_reducible rfl)); (try simp only [Act.put, List.setIfInBounds_toArray, List.set_cons_zero, List.set_cons_succ]))
      refine Ord.ch2_turn 0 hT9.out (by rfl) (by decide) (Or.inl rfl) (by rfl) (v := .slice (some ⟨wr.heap.size, 0, none⟩) 1 1) ?_ ?_
      · intro w5 hS hA
        cases hA
        go_simp
        simp only [Ord.LandsIn]
        exact ⟨trivial, HB1.out, trivial⟩
      (try simp only [Act.put, List.setIfInBounds_toArray, List.set_cons_zero, List.set_cons_succ])
      refine Ord.ch2_turn 1 hT9.out (by rfl) (by decide) (Or.inr ⟨_, rfl, by kernel_rfl⟩) (by rfl) (v := .slice (some ⟨g, 0, none⟩) (l.length + 1) cap') ?_ ?_
      · intro w5 hS hA
        cases hA
        refine append_lands rfl HRUN.out (by rfl) (by rfl) ⟨HB2.out.1, rfl⟩
      (try simp only [Act.put, List.setIfInBounds_toArray, List.set_cons_zero, List.set_cons_succ])
      repeat (refine Ord.ch2_value (v := ?_) hT9.out (by decide) (by rfl) ?_ ?_; rotate_left; (focus (intro w5 hS; skip; go_simp <;> with_reducible rfl)); (try simp only [Act.put, List.setIfInBounds_toArray, List.set_cons_zero, List.set_cons_succ]))
      refine Ord.ch2_turn 2 hT9.out (by rfl) (by decide) (Or.inr ⟨_, rfl, by kernel_rfl⟩) (by rfl) (v := undef) ?_ ?_
      · intro w5 hS hA
        cases hA
        obtain ⟨-, r1, z1, hcl⟩ := HB2.out
        go_simp
        exact ⟨rfl, HB3.out, rfl⟩
      (try simp only [Act.put, List.setIfInBounds_toArray, List.set_cons_zero, List.set_cons_succ])
      refine Ord.InText.nil fun w5 hS => ?_
      clear hT9
      obtain ⟨hC, hA⟩ := Ord.chain2_end hS
      clear hS
      cases hA
      go_wp2_with fail
      go_end0
      obtain ⟨hown2, hgrow, hg2, hg2l, hblk2, hgu, hsz, hbel, hvo, hW1⟩ := HEND.out
      have e2 : setL l (a, b, d) v = l ++ [((a, b, d), v)] := by simpa [setL] using HG.out
      rw [e2, flatO_append, List.length_append]
      refine ⟨rfl, some ⟨g, 0, none⟩, cap', hblk2.set hol _, ownsRow_setCell_other hown2 (by simp [Value.ownBlock, hgu]) _, ?_, fun k e => ?_⟩
      · exact (((((Turn.of_below hbel : Turn (fun k => k = u ∨ (Value.slice A l.length cap).ownBlock = some k) w wr).drew).alloc _).grown hgrow (fun k hk e => .inr e)).setCell (p := ⟨u, o, none⟩) (fun _ => .inl rfl) _)
      · rcases hg2 with h | h
        · exact .inl (by rw [h]; simpa [Value.ownBlock] using e)
        · right
          have : k = g := by simpa [Value.ownBlock, eq_comm] using e
          rw [this, h]; simp; omega
theorem refSet_any {u : Nat} {F : Nat → Prop} {l : List OneR} {w : World} (a b d v : Int) (hl : l.length ≤ 1000000) (hU : IsU w u F l) :
    Calls Try.prog 56 #[.pointer (some ⟨u, 0, none⟩), .agg #[.int .i64 a, .int .i64 b, .int .i64 d], .int .u64 v] w fun e w' => e = .returned (.tuple #[]) ∧ ∃ F', IsU w' u F' (setL l (a, b, d) v) ∧ Step F F' w w' := by
  obtain ⟨A, cap, hblk, hown, hsep, hF⟩ := hU.full
  refine (refSet_at a b d v hl hblk rfl hown hsep).mono ?_
  rintro e w' ⟨he, A', cap', h1, h2, h3, h4⟩
  have hu : u < w.heap.size := hblk.1
  refine ⟨he, fun k => k = u ∨ (Value.slice A' (setL l (a, b, d) v).length cap').ownBlock = some k, ⟨_, h1, h2, fun e => ?_, fun k => Iff.rfl⟩, h3.mono fun k _ e => (hF k).2 e, fun k hk => ?_⟩
  · rcases h4 u e with h | h
    · exact hsep h
    · omega
  · rcases hk with rfl | hk
    · exact .inl ((hF _).2 (.inl rfl))
    · rcases h4 k hk with h | h
      · exact .inl ((hF _).2 (.inr h))
      · exact .inr h
theorem IsU.over {w w' : World} {u : Nat} {F : Nat → Prop} {l : List OneR} (h : IsU w u F l) (hb : Below w.heap.size w w') : IsU w' u F l := (refI u F l).loc w w' h (fun k hk => hb.block k (h.lt k hk)) hb.size
end Go.Proofs.Ythiccboecimfjaa

/- The reference's souls: births in a row: Born, All, Now. -/
namespace Go.Proofs.Ythiccboecimfjaa
open Go.RowKit
set_option maxRecDepth 100000

/-- Block u is the reference's souls: the row l. -/
def IsR (w : World) (u : Nat) (F : Nat → Prop) (l : List Int) : Prop :=
  ∃ v, Blk 0 w u [v] ∧ w.ownsRow 0 3 1 v l.length (ints l) ∧ v.ownBlock ≠ some u ∧ ∀ k, F k ↔ (k = u ∨ v.ownBlock = some k)
section
variable {w w' : World} {u : Nat} {F : Nat → Prop} {l : List Int}
theorem IsR.lt (h : IsR w u F l) : ∀ k, F k → k < w.heap.size := by
  obtain ⟨v, hb, ho, hne, hF⟩ := h
  intro k hk
  rcases (hF k).1 hk with rfl | e
  · exact hb.1
  · exact ownsRow_lt ho k e
theorem IsR.loc (h : IsR w u F l) (hk : ∀ k, F k → w'.heap[k]? = w.heap[k]?) (hs : w.heap.size ≤ w'.heap.size) : IsR w' u F l := by
  obtain ⟨v, hb, ho, hne, hF⟩ := h
  exact ⟨v, hb.kept hs (hk u ((hF u).2 (.inl rfl))), ownsRow_kept ho fun k e => hk k ((hF k).2 (.inr e)), hne, hF⟩
theorem IsR.over (h : IsR w u F l) (hb : Below w.heap.size w w') : IsR w' u F l := h.loc (fun k hk => hb.block k (h.lt k hk)) hb.size
def rowRI (u : Nat) (F : Nat → Prop) (l : List Int) : Item where
  F := F
  says := fun w => IsR w u F l
  loc := fun _ _ h hk hs => h.loc hk hs
theorem IsR.laid (h : IsR w u F l) : ∃ A cap, Blk 0 w u [Value.slice A l.length cap] ∧ w.ownsRow 0 3 1 (.slice A l.length cap) l.length (ints l) ∧ (Value.slice A l.length cap).ownBlock ≠ some u ∧ ∀ k, F k ↔ (k = u ∨ (Value.slice A l.length cap).ownBlock = some k) := by
  obtain ⟨v, hb, ho, hne, hF⟩ := h
  obtain ⟨A, cap, rfl⟩ := ownsRow_slice ho
  exact ⟨A, cap, hb, ho, hne, hF⟩
theorem IsR.full (h : IsR w u F l) : ∃ A cap, (∀ i, w.cell? ⟨u, i, none⟩ = [Value.slice A l.length cap][i]?) ∧ u < w.heap.size ∧ Cells1 w A l := by
  obtain ⟨v, hb, ho, hne, hF⟩ := h
  obtain ⟨A, cap, rfl⟩ := ownsRow_slice ho
  exact ⟨A, cap, hb.rule, hb.1, cells1 ho⟩
/-- A row that has been boxed. -/
theorem IsR.new (w : World) : IsR (w.alloc (.cells #[.slice none 0 0] 33)) w.heap.size (fun k => k = w.heap.size) [] :=
  ⟨.slice none 0 0, Blk.new 0 w [.slice none 0 0] _, World.ownsRow_nil _ _ _ _, by simp [Value.ownBlock], fun k => by simp [Value.ownBlock]⟩
end

set_option maxHeartbeats 800000 in
theorem rborn_low {u : Nat} {o : Nat} {w : World} (x : Int) (hx : x < 1) :
    Calls Try.prog 36 #[.pointer (some ⟨u, o, none⟩), .int .i64 x] w fun e w' => e = .returned (.int .i64 0) ∧ w' = w := by
  have hb : decide (x < 1) = true := by simp [hx]
  go_enter Try.func36, Try.ntmps36
  go_wp2
  go_ret
  exact ⟨rfl, rfl⟩

set_option maxHeartbeats 1600000 in
theorem rborn_at {u o : Nat} {vs : List Value} {A : Option Addr} {c : Nat} {l : List Int} {w : World} (x : Int) (h1 : 1 ≤ x) (hl : l.length ≤ 100000) (hb : Blk 0 w u vs) (hvo : vs[o]? = some (.slice A l.length c)) (ho : w.ownsRow 0 3 1 (.slice A l.length c) l.length (ints l)) (hne : (Value.slice A l.length c).ownBlock ≠ some u) :
    Calls Try.prog 36 #[.pointer (some ⟨u, o, none⟩), .int .i64 x] w fun e w' => e = .returned (.int .i64 ((l.length : Int) + 1)) ∧ ∃ A' c', Blk 0 w' u (vs.set o (.slice A' (l ++ [x]).length c')) ∧ w'.ownsRow 0 3 1 (.slice A' (l ++ [x]).length c') (l ++ [x]).length (ints (l ++ [x])) ∧
      Turn (fun k => k = u ∨ (Value.slice A l.length c).ownBlock = some k) w w' ∧ ∀ k, (Value.slice A' (l ++ [x]).length c').ownBlock = some k → (Value.slice A l.length c).ownBlock = some k ∨ w.heap.size ≤ k := by
  have hol : o < vs.length := (List.getElem?_eq_some_iff.1 hvo).1
  obtain ⟨i0, hi0, hz0, hz1, hz2⟩ := info_parts infoInt
  obtain ⟨g, cap, W2, hrun, ho2, hgr, hg, hgl⟩ := run_append_lies (P := Try.prog) (w.alloc (.cells #[.int .i64 x] 3)) 31 31 0 3 i0 (.int .i64 0) 1 8 Try.underlying31 hi0 hz0 hz1 hz2 rfl (by decide) _ l.length (ints l) (ho.alloc _)
    ⟨w.heap.size, 0, none⟩ 1 1 [.int .i64 x] rfl (cells_new _ _ _) (by simp [Value.oneCell']) (by omega) (by simp [maxLen]; omega) (by omega) (by simp) _ rfl
  have t2 : Turn (fun k => (Value.slice A l.length c).ownBlock = some k) w W2 := ((Turn.refl _ w).alloc _).grown hgr fun k _ e => e
  have hg' : (Value.slice A l.length c).ownBlock = some g ∨ w.heap.size ≤ g := by
    rcases hg with h | h
    · exact .inl h
    · right; rw [h]; simp
  have hul := hb.1
  have hgu : g ≠ u := by
    rintro rfl
    rcases hg' with h | h
    · exact hne h
    · omega
  have hb2 : Blk 0 W2 u vs := hb.kept t2.size (t2.block u hul hne)
  have r0 : w.cell? ⟨u, o, none⟩ = some (.slice A l.length c) := by rw [hb.rule o, hvo]
  have r2 : W2.cell? ⟨u, o, none⟩ = some (.slice A l.length c) := by rw [hb2.rule o, hvo]
  have z2 := hb2.thaw o hol
  have hu2 := hb2.1
  have hx1 : decide (x < 1) = false := by simp; omega
  have hb3 := hb2.set (i := o) hol (.slice (some ⟨g, 0, none⟩) (l.length + 1) cap)
  have hEND : Hid (∃ A' c', Blk 0 (W2.setCell ⟨u, o, none⟩ (.slice (some ⟨g, 0, none⟩) (l.length + 1) cap)) u (vs.set o (.slice A' (l ++ [x]).length c')) ∧ (W2.setCell ⟨u, o, none⟩ (.slice (some ⟨g, 0, none⟩) (l.length + 1) cap)).ownsRow 0 3 1 (.slice A' (l ++ [x]).length c') (l ++ [x]).length (ints (l ++ [x])) ∧
      Turn (fun k => k = u ∨ (Value.slice A l.length c).ownBlock = some k) w (W2.setCell ⟨u, o, none⟩ (.slice (some ⟨g, 0, none⟩) (l.length + 1) cap)) ∧ ∀ k, (Value.slice A' (l ++ [x]).length c').ownBlock = some k → (Value.slice A l.length c).ownBlock = some k ∨ w.heap.size ≤ k) := by
    refine Lib.hid ⟨some ⟨g, 0, none⟩, cap, by rw [List.length_append]; exact hb3, ?_, (t2.mono (T' := fun k => k = u ∨ (Value.slice A l.length c).ownBlock = some k) fun k _ e => .inr e).setCell (p := ⟨u, o, none⟩) (fun _ => .inl rfl) _, fun k e => ?_⟩
    · rw [List.length_append, ints_append]
      exact ownsRow_setCell_other ho2 (by simp [Value.ownBlock, hgu]) _
    · have : k = g := by simpa [Value.ownBlock, eq_comm] using e
      subst this
      exact hg'
  have HRUN := Lib.hid hrun
  clear ho hne hvo ho2 hgr hg t2 hg' hrun hb hb2 hb3
  go_enter Try.func36, Try.ntmps36
  go_wp2_with (first | (at_builtin; refine wpList_append_run rfl _ _ 31 rfl HRUN.out rfl rfl ?_))
  go_ret
  exact ⟨ret_int (by simp), hEND.out⟩

theorem rborn_any {u : Nat} {F : Nat → Prop} {l : List Int} {w : World} (x : Int) (h1 : 1 ≤ x) (hl : l.length ≤ 100000) (hR : IsR w u F l) :
    Calls Try.prog 36 #[.pointer (some ⟨u, 0, none⟩), .int .i64 x] w fun e w' => e = .returned (.int .i64 ((l.length : Int) + 1)) ∧ ∃ F', IsR w' u F' (l ++ [x]) ∧ Step F F' w w' := by
  obtain ⟨A, c, hb, ho, hne, hF⟩ := hR.laid
  refine (rborn_at x h1 hl hb rfl ho hne).mono ?_
  rintro e w' ⟨he, A', c', h2, h3, h4, h5⟩
  have hu : u < w.heap.size := hb.1
  refine ⟨he, fun k => k = u ∨ (Value.slice A' (l ++ [x]).length c').ownBlock = some k, ⟨_, h2, h3, fun e => ?_, fun k => Iff.rfl⟩, h4.mono fun k _ e => (hF k).2 e, fun k hk => ?_⟩
  · rcases h5 u e with h | h
    · exact hne h
    · omega
  · rcases hk with rfl | hk
    · exact .inl ((hF _).2 (.inl rfl))
    · rcases h5 k hk with h | h
      · exact .inl ((hF _).2 (.inr h))
      · exact .inr h

theorem ids_take {l : List Int} {k : Nat} (hk : k < l.length) (x : Int) : ids (l.take (k + 1)) x = ids (l.take k) x ++ (if l.getD k 0 = x then [(k : Int) + 1] else []) := by
  rw [List.take_succ_eq_append_getElem hk, ids_snoc]
  have e : l.getD k 0 = l[k] := by simp [hk]
  rw [e, List.length_take, Nat.min_eq_left (Nat.le_of_lt hk)]

set_option maxRecDepth 100000 in
set_option maxHeartbeats 1600000 in
theorem rall_at {u o : Nat} {vs : List Value} {A : Option Addr} {c : Nat} {l : List Int} {w : World} (x : Int) (hl : l.length ≤ 100000) (hb : Blk 0 w u vs) (hvo : vs[o]? = some (.slice A l.length c)) (ho : w.ownsRow 0 3 1 (.slice A l.length c) l.length (ints l)) :
    Calls Try.prog 72 #[.pointer (some ⟨u, o, none⟩), .int .i64 x] w fun e w' => ∃ g cap, e = .returned (.slice (some ⟨g, 0, none⟩) (ids l x).length cap) ∧ w'.ownsRow w.heap.size 3 1 (.slice (some ⟨g, 0, none⟩) (ids l x).length cap) (ids l x).length (ints (ids l x)) ∧ Below w.heap.size w w' := by
  have r0 : w.cell? ⟨u, o, none⟩ = some (.slice A l.length c) := by rw [hb.rule o, hvo]
  have hul := hb.1
  have hrow := cells1 ho
  have HROW := Lib.hid hrow
  have HB : Hid (∀ w', Below w.heap.size w w' → w'.cell? ⟨u, o, none⟩ = some (.slice A l.length c)) := Lib.hid fun w' hb => by rw [hb.cell (p := ⟨u, o, none⟩) hul]; exact r0
  have hE := (Env.start w).addEmpty w.heap.size rfl
  clear hrow r0 hb hvo ho
  go_enter Try.func72, Try.ntmps72
  go_wp2_with fail
  go_loopw [5, 6] (fun v i wr => ∃ (k g cap : Nat), k ≤ l.length ∧ i = .int .i64 k ∧ v = .slice (some ⟨g, 0, none⟩) (ids (l.take k) x).length cap ∧ Env w [intsI (.slice (some ⟨g, 0, none⟩) (ids (l.take k) x).length cap) (ids (l.take k) x)] wr) (fun _ i _ => l.length - (intOf i).toNat)
  case atStart => exact ⟨0, w.heap.size, 0, by omega, rfl, rfl, hE⟩
  case round =>
    obtain ⟨k, g, cap, hk, rfl, rfl, hEr⟩ := hrel
    clear hE
    have ru := HB.out _ hEr.below
    by_cases hlt : k < l.length
    · rcases HROW.out with h0 | ⟨g0, rfl, hgl, hc⟩
      · rw [h0] at hlt; simp at hlt
      have hck : wr.cell? ⟨g0, k, none⟩ = some (.int .i64 (l.getD k 0)) := by rw [hEr.below.cell (p := ⟨g0, k, none⟩) hgl]; exact hc k hlt
      have HT := Lib.hid (ids_take hlt x)
      have hlen : (ids (l.take k) x).length ≤ k := by have := ids_length_le (l.take k) x; simp at this; omega
      obtain ⟨m1, hm1⟩ : ∃ m1, ids (l.take (k + 1)) x = m1 := ⟨_, rfl⟩
      rw [hm1] at HT
      have HM1 := Lib.hid hm1
      clear hc hm1
      generalize l.getD k 0 = z at *
      by_cases hz : z = x
      · subst hz
        obtain ⟨g1, cap1, w1, hrun, hE1, hst⟩ := hEr.append1 0 rfl ((k : Int) + 1) (by omega) wr.heap.size rfl
        have HRUN := Lib.hid hrun
        have hw : wrap64 ((k : Int) + 1) = (k : Int) + 1 := w64 _ (by omega)
        have hT := HT.out
        rw [if_pos rfl] at hT
        clear hrun hst
        go_wp2_with (first | (at_builtin; refine wpList_append_run rfl _ _ 31 rfl HRUN.out rfl rfl ?_))
        exact ⟨⟨k + 1, g1, cap1, by omega, by simp, by rw [HM1.out, hT]; simp, by rw [HM1.out, hT]; simpa using hE1⟩, by simp [intOf]; omega⟩
      · have hb : (z == x) = false := by simpa using hz
        have hT := HT.out
        rw [if_neg hz, List.append_nil] at hT
        clear hz
        go_wp2_with fail
        exact ⟨⟨k + 1, g, cap, by omega, by simp, by rw [HM1.out, hT], by rw [HM1.out, hT]; exact hEr⟩, by simp [intOf]; omega⟩
    · have hke : k = l.length := by omega
      subst hke
      rw [List.take_length] at hEr ⊢
      go_wp2_with fail
      go_ret
      refine ⟨g, cap, rfl, ?_, hEr.below⟩
      have h0 := hEr.row 0 rfl
      have hge := ((hEr.2.2 _ (List.mem_singleton.2 rfl)).2 g rfl).1
      refine ⟨h0.1, h0.2.imp id fun ⟨g', c', cur, h1, _, h3⟩ => ?_⟩
      simp only [Value.slice.injEq, Option.some.injEq, Addr.mk.injEq, and_true, true_and] at h1
      obtain ⟨rfl, rfl⟩ := h1
      exact ⟨g, cap, cur, rfl, hge, h3⟩

theorem rall_any {u : Nat} {F : Nat → Prop} {l : List Int} {w : World} (x : Int) (hl : l.length ≤ 100000) (hR : IsR w u F l) :
    Calls Try.prog 72 #[.pointer (some ⟨u, 0, none⟩), .int .i64 x] w fun e w' => ∃ g cap, e = .returned (.slice (some ⟨g, 0, none⟩) (ids l x).length cap) ∧ w'.ownsRow w.heap.size 3 1 (.slice (some ⟨g, 0, none⟩) (ids l x).length cap) (ids l x).length (ints (ids l x)) ∧ Below w.heap.size w w' := by
  obtain ⟨A, c, hb, ho, _, _⟩ := hR.laid
  exact rall_at x hl hb rfl ho

set_option maxHeartbeats 1600000 in
theorem rnow_at {u o : Nat} {vs : List Value} {A : Option Addr} {c : Nat} {l : List Int} {w : World} (x : Int) (hl : l.length ≤ 100000) (hb : Blk 0 w u vs) (hvo : vs[o]? = some (.slice A l.length c)) (ho : w.ownsRow 0 3 1 (.slice A l.length c) l.length (ints l)) :
    Calls Try.prog 68 #[.pointer (some ⟨u, o, none⟩), .int .i64 x] w fun e w' => e = .returned (.int .i64 (nowL l x)) ∧ Below w.heap.size w w' := by
  have c0 := rall_at x hl hb hvo ho
  have hidl := ids_length_le l x
  have hnow : nowL l x = (ids l x).getLastD 0 := rfl
  rw [hnow]
  generalize ids l x = m at c0 hidl hnow ⊢
  go_enter Try.func68, Try.ntmps68
  go_wp2_with fail
  refine c0.mono ?_
  rintro e w1 ⟨g, cap, rfl, ho1, hb1⟩
  have hc := cells1 ho1
  clear c0 ho1 hnow hvo ho hb
  by_cases h0 : m.length = 0
  · have hm : m = [] := List.eq_nil_of_length_eq_zero h0
    subst hm
    go_wp2
    go_ret
    exact ⟨rfl, hb1⟩
  · rcases hc with rfl | ⟨g', hgg, hg, hc⟩
    · simp at h0
    obtain rfl : g = g' := by simpa using hgg
    have hlast := hc (m.length - 1) (by omega)
    have e1 : m.getLastD 0 = m.getD (m.length - 1) 0 := by
      rcases m with _ | ⟨a, m⟩
      · simp at h0
      · rw [List.getLastD_cons]
        simp [List.getD, List.getLastD_eq_getLast?, List.getLast?_eq_getElem?]
        cases m <;> simp
    have E1 := Lib.hid e1
    clear e1
    generalize m.getD (m.length - 1) 0 = z at *
    have hb0 : ((m.length : Int) == 0) = false := by rw [beq_eq_false_iff_ne]; omega
    have hw : wrap64 ((m.length : Int) - 1) = ((m.length - 1 : Nat) : Int) := by rw [w64 _ (by omega)]; omega
    have hin : (0 : Int) ≤ ((m.length - 1 : Nat) : Int) ∧ ((m.length - 1 : Nat) : Int) < m.length := by omega
    clear hc
    go_wp2
    go_ret
    exact ⟨ret_int E1.out.symm, hb1⟩
theorem rnow_any {u : Nat} {F : Nat → Prop} {l : List Int} {w : World} (x : Int) (hl : l.length ≤ 100000) (hR : IsR w u F l) :
    Calls Try.prog 68 #[.pointer (some ⟨u, 0, none⟩), .int .i64 x] w fun e w' => e = .returned (.int .i64 (nowL l x)) ∧ Below w.heap.size w w' := by
  obtain ⟨A, c, hb, ho, _, _⟩ := hR.laid
  exact rnow_at x hl hb rfl ho
end Go.Proofs.Ythiccboecimfjaa

/- The reference's words at any place of a block, among other things; contracts. -/
namespace Go.Proofs.Ythiccboecimfjaa
open Go.RowKit Go.Maps
set_option maxRecDepth 100000

section
variable {w0 w w' : World} {L : List Item}
/-- A block and a row of it turn at once. -/
theorem Env.step2 (h : Env w0 L w) {i j : Nat} (hij : i ≠ j) {a a' b b' : Item} (hi : L[i]? = some a) (hj : L[j]? = some a') (ht : Turn (fun k => a.F k ∨ a'.F k) w w') (hb : b.says w') (hb' : b'.says w') (hlt : ∀ k, b.F k → k < w'.heap.size) (hlt' : ∀ k, b'.F k → k < w'.heap.size)
    (hF : ∀ k, b.F k → a.F k) (hF' : ∀ k, b'.F k → a'.F k ∨ w.heap.size ≤ k) : Env w0 ((L.set i b).set j b') w' := by
  have ha := h.2.2 a (List.mem_of_getElem? hi)
  have ha' := h.2.2 a' (List.mem_of_getElem? hj)
  have hB : Below w0.heap.size w0 w' := Turn.below h.1 ht h.1.size fun k hk => hk.elim (fun hk => (ha.2 k hk).1) fun hk => (ha'.2 k hk).1
  have hil := (List.getElem?_eq_some_iff.1 hi).1
  have hjl := (List.getElem?_eq_some_iff.1 hj).1
  have key : ∀ m (c : Item), ((L.set i b).set j b')[m]? = some c → ∃ d, L[m]? = some d ∧ (∀ k, c.F k → d.F k ∨ (m = j ∧ w.heap.size ≤ k)) ∧ c.says w' ∧ ∀ k, c.F k → w0.heap.size ≤ k ∧ k < w'.heap.size := by
    intro m c hc
    by_cases hmj : m = j
    · subst hmj
      rw [List.getElem?_set_self (by simpa using hjl)] at hc
      cases hc
      refine ⟨a', hj, fun k hk => (hF' k hk).imp id fun h => ⟨rfl, h⟩, hb', fun k hk => ⟨?_, hlt' k hk⟩⟩
      rcases hF' k hk with h1 | h1
      · exact (ha'.2 k h1).1
      · exact Nat.le_trans h.1.size h1
    · rw [List.getElem?_set_ne (fun e => hmj e.symm)] at hc
      by_cases hmi : m = i
      · subst hmi
        rw [List.getElem?_set_self hil] at hc
        cases hc
        exact ⟨a, hi, fun k hk => .inl (hF k hk), hb, fun k hk => ⟨(ha.2 k (hF k hk)).1, hlt k hk⟩⟩
      · rw [List.getElem?_set_ne (fun e => hmi e.symm)] at hc
        obtain ⟨h1, h2⟩ := h.2.2 c (List.mem_of_getElem? hc)
        refine ⟨c, hc, fun k hk => .inl hk, c.loc w w' h1 (fun k hk => ht.block k (h2 k hk).2 fun e => ?_) ht.size, fun k hk => ⟨(h2 k hk).1, Nat.lt_of_lt_of_le (h2 k hk).2 ht.size⟩⟩
        rcases e with e | e
        · exact h.off hi hc (fun e => hmi e.symm) k e hk
        · exact h.off hj hc (fun e => hmj e.symm) k e hk
  refine ⟨hB, List.pairwise_iff_getElem.2 fun m n hm hn hmn k hk hk' => ?_, fun x hx => ?_⟩
  · obtain ⟨d, hd, h1, _⟩ := key m _ (List.getElem?_eq_getElem hm)
    obtain ⟨d', hd', h1', _⟩ := key n _ (List.getElem?_eq_getElem hn)
    rcases h1 k hk with e | ⟨e, e2⟩
    · rcases h1' k hk' with f | ⟨f, f2⟩
      · exact h.off hd hd' (by omega) k e f
      · have := h.lt m hd k e; omega
    · rcases h1' k hk' with f | ⟨f, f2⟩
      · have := h.lt n hd' k f; omega
      · omega
  · obtain ⟨m, hm⟩ := List.getElem?_of_mem hx
    obtain ⟨d, _, _, h1, h2⟩ := key m x hm
    exact ⟨h1, h2⟩
end

/-- A row of words. -/
def rowO (v : Value) (l : List OneR) : Item := rowI v 94 4 l.length (flatO l)

section
variable {w0 w : World} {L : List Item} {u : Nat} {vs : List Value} {v v1 v2 v3 : Value} {fa st : Int} {lx lc li : List OneR} {l : List Int}
theorem Env.rowO (h : Env w0 L w) (j : Nat) (hj : L[j]? = some (rowO v lx)) : w.ownsRow 0 94 4 v lx.length (flatO lx) := h.get j hj
theorem Env.ublk (h : Env w0 L w) (i : Nat) (hu : L[i]? = some (boxI u vs)) : Blk 0 w u vs := h.get i hu
theorem Env.addNoneO (h : Env w0 L w) : Env w0 (Ythiccboecimfjaa.rowO (.slice none 0 0) [] :: L) w :=
  h.add (Ythiccboecimfjaa.rowO (.slice none 0 0) []) (Below.refl _ _) (World.ownsRow_nil _ _ _ _) fun k hk => by cases hk
theorem get_u (x y z : Int) (hl : lx.length ≤ 1000000) (o i j : Nat) (hE : Env w0 L w) (hu : L[i]? = some (boxI u vs)) (hvo : vs[o]? = some v) (hj : L[j]? = some (rowO v lx)) :
    Calls Try.prog 33 #[.pointer (some ⟨u, o, none⟩), .agg #[.int .i64 x, .int .i64 y, .int .i64 z]] w fun e w' => e = .returned (.int .u64 (getL lx (x, y, z))) ∧ Below w.heap.size w w' := by
  have ho := hE.rowO j hj
  obtain ⟨A, c, rfl⟩ := ownsRow_slice ho
  exact refGet_at x y z hl (hE.ublk i hu) hvo ho
theorem set_u (x y z a : Int) (hl : lx.length ≤ 1000000) (o i j : Nat) (hij : i ≠ j) (hE : Env w0 L w) (hu : L[i]? = some (boxI u vs)) (hvo : vs[o]? = some v) (hj : L[j]? = some (rowO v lx)) :
    Calls Try.prog 56 #[.pointer (some ⟨u, o, none⟩), .agg #[.int .i64 x, .int .i64 y, .int .i64 z], .int .u64 a] w fun e w' => e = .returned (.tuple #[]) ∧ ∃ v', Env w0 ((L.set i (boxI u (vs.set o v'))).set j (rowO v' (setL lx (x, y, z) a))) w' := by
  have ho := hE.rowO j hj
  obtain ⟨A, c, rfl⟩ := ownsRow_slice ho
  have hsep : (Value.slice A lx.length c).ownBlock ≠ some u := fun e => hE.off hj hu (fun e => hij e.symm) u e rfl
  refine (refSet_at x y z a hl (hE.ublk i hu) hvo ho hsep).mono ?_
  rintro e w' ⟨he, A', c', h1, h2, h3, h4⟩
  exact ⟨he, _, hE.step2 hij hu hj h3 h1 h2 (fun k hk => by have hk : k = u := hk; rw [hk]; exact h1.1) (ownsRow_lt h2) (fun k hk => hk) h4⟩
theorem now_u (x : Int) (hl : l.length ≤ 100000) (o i j : Nat) (hE : Env w0 L w) (hu : L[i]? = some (boxI u vs)) (hvo : vs[o]? = some v) (hj : L[j]? = some (intsI v l)) :
    Calls Try.prog 68 #[.pointer (some ⟨u, o, none⟩), .int .i64 x] w fun e w' => e = .returned (.int .i64 (nowL l x)) ∧ Below w.heap.size w w' := by
  have ho := hE.row j hj
  obtain ⟨A, c, rfl⟩ := ownsRow_slice ho
  exact rnow_at x hl (hE.ublk i hu) hvo ho
theorem born_u (x : Int) (hl : l.length ≤ 100000) (o i j : Nat) (hij : i ≠ j) (hE : Env w0 L w) (hu : L[i]? = some (boxI u vs)) (hvo : vs[o]? = some v) (hj : L[j]? = some (intsI v l)) :
    Calls Try.prog 36 #[.pointer (some ⟨u, o, none⟩), .int .i64 x] w fun e w' => e = .returned (.int .i64 (bornV l x)) ∧ ∃ v', Env w0 ((L.set i (boxI u (vs.set o v'))).set j (intsI v' (bornL l x))) w' := by
  have ho := hE.row j hj
  obtain ⟨A, c, rfl⟩ := ownsRow_slice ho
  unfold bornV bornL
  by_cases h : x < 1
  · rw [if_pos h, if_pos h]
    refine (rborn_low x h).mono ?_
    rintro e w' ⟨rfl, rfl⟩
    have e1 : vs.set o (Value.slice A l.length c) = vs := by
      apply List.ext_getElem?
      intro k
      rw [List.getElem?_set]
      split
      · rename_i e; subst e; rw [hvo, if_pos (List.getElem?_eq_some_iff.1 hvo).1]
      · rfl
    exact ⟨rfl, .slice A l.length c, by rw [e1, setSelf hu, setSelf hj]; exact hE⟩
  · rw [if_neg h, if_neg h]
    have hsep : (Value.slice A l.length c).ownBlock ≠ some u := fun e => hE.off hj hu (fun e => hij e.symm) u e rfl
    refine (rborn_at x (by omega) hl (hE.ublk i hu) hvo ho hsep).mono ?_
    rintro e w' ⟨he, A', c', h1, h2, h3, h4⟩
    exact ⟨he, _, hE.step2 hij hu hj h3 h1 h2 (fun k hk => by have hk : k = u := hk; rw [hk]; exact h1.1) (ownsRow_lt h2) (fun k hk => hk) h4⟩
end
end Go.Proofs.Ythiccboecimfjaa

/- The reference's watched words: four rows in one block, among other things; contracts. -/
namespace Go.Proofs.Ythiccboecimfjaa
open Go.RowKit Go.Maps
set_option maxRecDepth 100000

/-- The reference's cells. -/
def uv (v1 v2 v3 : Value) (fa st : Int) (r : List Value) : List Value := v1 :: v2 :: v3 :: .int .i64 fa :: .int .i64 st :: r
section
variable {w0 w : World} {L : List Item} {u : Nat} {vs rs : List Value} {v v1 v2 v3 : Value} {fa st : Int} {lx lc li : List OneR} {l : List Int}
set_option maxHeartbeats 1600000 in
theorem stale_u (x y z d : Int) (hl : l.length ≤ 100000) (i : Nat) (hE : Env w0 L w) (hu : L[i]? = some (boxI u (uv v1 v2 v3 fa st rs))) (hs : L[i + 3]? = some (intsI v3 l)) :
    Calls Try.prog 55 #[.pointer (some ⟨u, 0, none⟩), .agg #[.int .i64 x, .int .i64 y, .int .i64 z], .int .i64 d] w fun e w' => e = .returned (.bool (stB l x y d)) ∧ Below w.heap.size w w' := by
  have hb := (Below.refl w.heap.size w).alloc (Nat.le_refl _) (.cells #[.int .i64 x, .int .i64 y, .int .i64 z] 44)
  replace hE := hE.box w.heap.size rfl [.int .i64 x, .int .i64 y, .int .i64 z] 44
  go_enter Try.func55, Try.ntmps55
  go_wp2_with fail
  obtain ⟨X, hXw⟩ : ∃ X, X = w.heap.size := ⟨_, rfl⟩
  rw [← hXw] at hE ⊢
  have HXW := Lib.hid hXw
  clear hXw
  have hu1 : (boxI X [.int .i64 x, .int .i64 y, .int .i64 z] :: L)[i + 1]? = some (boxI u (uv v1 v2 v3 fa st rs)) := hu
  have hs1 : (boxI X [.int .i64 x, .int .i64 y, .int .i64 z] :: L)[i + 4]? = some (intsI v3 l) := hs
  by_cases h5 : x = 5
  · have e1 : stB l x y d = (nowL l y != d) := by simp [stB, h5, bne, decide_not]; rfl
    have E1 := Lib.hid e1
    clear e1
    subst h5
    refine Ord.wp_chain [] (fun w' => Env w0 (boxI X [.int .i64 5, .int .i64 y, .int .i64 z] :: L) w' ∧ Below w.heap.size w w') (fun _ _ => True) (by kernel_rfl) (by kernel_rfl) (by kernel_rfl) ⟨hE.drew, hb.drew⟩ trivial (fun hT => ?_)
    have hT9 := Lib.hid hT
    clear hT
    repeat (first
      | (refine Ord.ch_value (v := ?_) hT9.out (by decide) (by rfl) ?_ ?_; rotate_left; (focus (intro w5 hS; have r := hS.1.rule 0 rfl; go_simp <;> with_reducible rfl)); (try simp only [Act.put, List.setIfInBounds_toArray, List.set_cons_zero, List.set_cons_succ]))
      | (refine Ord.ch_off hT9.out (by decide) (by rfl) ?_; (try simp only [Act.put, List.setIfInBounds_toArray, List.set_cons_zero, List.set_cons_succ]))
      | (refine Ord.ch_call (v := ?_) (f := ?_) (args := ?_) hT9.out (by decide) (by rfl) ?_ ?_ ?_; rotate_left 3; (focus (intro w5 hS; have r := hS.1.rule 0 rfl; go_simp; constructor <;> with_reducible rfl)); (focus (intro w5 hS; (first | (with_reducible refine (now_u y hl 2 (i + 1) (i + 4) hS.1 hu1 rfl hs1).mono ?_; rintro e w6 ⟨rfl, hb6⟩; constructor; with_reducible rfl; exact ⟨⟨hS.1.over hb6, hS.2.trans (hb6.mono hS.2.size)⟩, fun _ h => h⟩)))); (try simp only [Act.put, List.setIfInBounds_toArray, List.set_cons_zero, List.set_cons_succ])))
    refine Ord.InText.nil fun w5 hS => ?_
    clear hT9
    obtain ⟨hC9, hA9⟩ := Ord.chain_end hS
    clear hS
    go_wp2
    go_ret
    exact ⟨ret_bool E1.out.symm, hC9.2⟩
  · have e1 : stB l x y d = false := by simp [stB, h5]
    have E1 := Lib.hid e1
    clear e1
    have h5' : (x == 5) = false := by simpa using h5
    refine Ord.wp_chain [] (fun w' => Env w0 (boxI X [.int .i64 x, .int .i64 y, .int .i64 z] :: L) w' ∧ Below w.heap.size w w') (fun _ _ => True) (by kernel_rfl) (by kernel_rfl) (by kernel_rfl) ⟨hE.drew, hb.drew⟩ trivial (fun hT => ?_)
    have hT9 := Lib.hid hT
    clear hT
    repeat (first
      | (refine Ord.ch_value (v := ?_) hT9.out (by decide) (by rfl) ?_ ?_; rotate_left; (focus (intro w5 hS; have r := hS.1.rule 0 rfl; go_simp <;> with_reducible rfl)); (try simp only [Act.put, List.setIfInBounds_toArray, List.set_cons_zero, List.set_cons_succ]))
      | (refine Ord.ch_off hT9.out (by decide) (by rfl) ?_; (try simp only [Act.put, List.setIfInBounds_toArray, List.set_cons_zero, List.set_cons_succ]))
      | (refine Ord.ch_call (v := ?_) (f := ?_) (args := ?_) hT9.out (by decide) (by rfl) ?_ ?_ ?_; rotate_left 3; (focus (intro w5 hS; have r := hS.1.rule 0 rfl; go_simp; constructor <;> with_reducible rfl)); (focus (intro w5 hS; (first | fail))); (try simp only [Act.put, List.setIfInBounds_toArray, List.set_cons_zero, List.set_cons_succ])))
    refine Ord.InText.nil fun w5 hS => ?_
    clear hT9
    obtain ⟨hC9, hA9⟩ := Ord.chain_end hS
    clear hS
    go_wp2
    go_ret
    exact ⟨ret_bool E1.out.symm, hC9.2⟩

set_option maxHeartbeats 1600000 in
theorem load7_u (x y z d : Int) (hl : l.length ≤ 100000) (hlc : lc.length ≤ 1000000) (hli : li.length ≤ 1000000) (i : Nat) (hE : Env w0 L w) (hu : L[i]? = some (boxI u (uv v1 v2 v3 fa st rs))) (h1 : L[i + 1]? = some (rowO v1 lc)) (h2 : L[i + 2]? = some (rowO v2 li)) (hs : L[i + 3]? = some (intsI v3 l)) :
    Calls Try.prog 67 #[.pointer (some ⟨u, 0, none⟩), .agg #[.int .i64 x, .int .i64 y, .int .i64 z], .int .i64 d] w fun e w' => e = .returned (.tuple #[.int .u64 (getL lc (x, y, z)), .int .i64 (IntKind.i64.wrap (getL li (x, y, z))), .bool (stB l x y d)]) ∧ Below w.heap.size w w' := by
  have hb := (Below.refl w.heap.size w).alloc (Nat.le_refl _) (.cells #[.int .i64 x, .int .i64 y, .int .i64 z] 44)
  replace hE := hE.box w.heap.size rfl [.int .i64 x, .int .i64 y, .int .i64 z] 44
  go_enter Try.func67, Try.ntmps67
  go_wp2_with fail
  obtain ⟨X, hXw⟩ : ∃ X, X = w.heap.size := ⟨_, rfl⟩
  rw [← hXw] at hE ⊢
  have HXW := Lib.hid hXw
  clear hXw
  have hu' : (boxI X [.int .i64 x, .int .i64 y, .int .i64 z] :: L)[i + 1]? = some (boxI u (uv v1 v2 v3 fa st rs)) := hu
  have h1' : (boxI X [.int .i64 x, .int .i64 y, .int .i64 z] :: L)[i + 2]? = some (rowO v1 lc) := h1
  have h2' : (boxI X [.int .i64 x, .int .i64 y, .int .i64 z] :: L)[i + 3]? = some (rowO v2 li) := h2
  have hs' : (boxI X [.int .i64 x, .int .i64 y, .int .i64 z] :: L)[i + 4]? = some (intsI v3 l) := hs
  refine Ord.wp_chain [] (fun w' => Env w0 (boxI X [.int .i64 x, .int .i64 y, .int .i64 z] :: L) w' ∧ Below w.heap.size w w') (fun _ _ => True) (by kernel_rfl) (by kernel_rfl) (by kernel_rfl) ⟨hE.drew, hb.drew⟩ trivial (fun hT => ?_)
  have hT9 := Lib.hid hT
  clear hT
  repeat (first
    | (refine Ord.ch_value (v := ?_) hT9.out (by decide) (by rfl) ?_ ?_; rotate_left; (focus (intro w5 hS; have r := hS.1.rule 0 rfl; go_simp <;> with_reducible rfl)); (try simp only [Act.put, List.setIfInBounds_toArray, List.set_cons_zero, List.set_cons_succ]))
    | (refine Ord.ch_off hT9.out (by decide) (by rfl) ?_; (try simp only [Act.put, List.setIfInBounds_toArray, List.set_cons_zero, List.set_cons_succ]))
    | (refine Ord.ch_call (v := ?_) (f := ?_) (args := ?_) hT9.out (by decide) (by rfl) ?_ ?_ ?_; rotate_left 3; (focus (intro w5 hS; have r := hS.1.rule 0 rfl; go_simp; constructor <;> with_reducible rfl)); (focus (intro w5 hS; (first | (with_reducible refine (get_u x y z hlc 0 (i + 1) (i + 2) hS.1 hu' rfl h1').mono ?_; rintro e w6 ⟨rfl, hb6⟩; constructor; with_reducible rfl; exact ⟨⟨hS.1.over hb6, hS.2.trans (hb6.mono hS.2.size)⟩, fun _ h => h⟩) | (with_reducible refine (get_u x y z hli 1 (i + 1) (i + 3) hS.1 hu' rfl h2').mono ?_; rintro e w6 ⟨rfl, hb6⟩; constructor; with_reducible rfl; exact ⟨⟨hS.1.over hb6, hS.2.trans (hb6.mono hS.2.size)⟩, fun _ h => h⟩) | (with_reducible refine (stale_u x y z d hl (i + 1) hS.1 hu' hs').mono ?_; rintro e w6 ⟨rfl, hb6⟩; constructor; with_reducible rfl; exact ⟨⟨hS.1.over hb6, hS.2.trans (hb6.mono hS.2.size)⟩, fun _ h => h⟩)))); (try simp only [Act.put, List.setIfInBounds_toArray, List.set_cons_zero, List.set_cons_succ])))
  refine Ord.InText.nil fun w5 hS => ?_
  clear hT9
  obtain ⟨hC9, hA9⟩ := Ord.chain_end hS
  clear hS
  go_wp2
  exact bodyPost_ret (v := .tuple #[.int .u64 (getL lc (x, y, z)), .int .i64 (IntKind.i64.wrap (getL li (x, y, z))), .bool (stB l x y d)]) (by simp [results, Try.results67, go_sem]) rfl ⟨rfl, hC9.2⟩

set_option maxHeartbeats 1600000 in
theorem load8_u (x y z d : Int) (hl : l.length ≤ 100000) (hlc : lc.length ≤ 1000000) (hli : li.length ≤ 1000000) (i : Nat) (hE : Env w0 L w) (hu : L[i]? = some (boxI u (uv v1 v2 v3 fa st rs))) (h1 : L[i + 1]? = some (rowO v1 lc)) (h2 : L[i + 2]? = some (rowO v2 li)) (hs : L[i + 3]? = some (intsI v3 l)) :
    Calls Try.prog 54 #[.pointer (some ⟨u, 0, none⟩), .agg #[.int .i64 x, .int .i64 y, .int .i64 z], .int .i64 d] w fun e w' => e = .returned (.tuple #[.int .u64 (getL lc (x, y, z)), .int .i64 (IntKind.i64.wrap (getL li (x, y, z))), .bool (stB l x y d)]) ∧ Env w0 (L.set i (boxI u (uv v1 v2 v3 fa (if stB l x y d = true then wrap64 (st + 1) else st) rs))) w' := by
  replace hE := hE.box w.heap.size rfl [.int .i64 x, .int .i64 y, .int .i64 z] 44
  have hu' : (boxI w.heap.size [.int .i64 x, .int .i64 y, .int .i64 z] :: L)[i + 1]? = some (boxI u (uv v1 v2 v3 fa st rs)) := hu
  have cL := fun (v : World) (hE : Env w0 (boxI w.heap.size [.int .i64 x, .int .i64 y, .int .i64 z] :: L) v) => load7_u x y z d hl hlc hli (i + 1) hE hu h1 h2 hs
  have CL := Lib.hid cL
  clear cL
  generalize getL lc (x, y, z) = a1 at *
  generalize IntKind.i64.wrap (getL li (x, y, z)) = a2 at *
  generalize hsz : (if stB l x y d = true then wrap64 (st + 1) else st) = sz
  have HSZ := Lib.hid hsz
  clear hsz
  generalize stB l x y d = t at *
  go_enter Try.func54, Try.ntmps54
  go_wp2_with fail
  generalize w.heap.size = X at *
  refine Ord.wp_chain [] (fun w' => Env w0 (boxI X [.int .i64 x, .int .i64 y, .int .i64 z] :: L) w') (fun _ _ => True) (by kernel_rfl) (by kernel_rfl) (by kernel_rfl) hE.drew trivial (fun hT => ?_)
  have hT9 := Lib.hid hT
  clear hT
  repeat (first
    | (refine Ord.ch_value (v := ?_) hT9.out (by decide) (by rfl) ?_ ?_; rotate_left; (focus (intro w5 hS; have r := hS.rule 0 rfl; go_simp <;> with_reducible rfl)); (try simp only [Act.put, List.setIfInBounds_toArray, List.set_cons_zero, List.set_cons_succ]))
    | (refine Ord.ch_off hT9.out (by decide) (by rfl) ?_; (try simp only [Act.put, List.setIfInBounds_toArray, List.set_cons_zero, List.set_cons_succ]))
    | (refine Ord.ch_call (v := ?_) (f := ?_) (args := ?_) hT9.out (by decide) (by rfl) ?_ ?_ ?_; rotate_left 3; (focus (intro w5 hS; have r := hS.rule 0 rfl; go_simp; constructor <;> with_reducible rfl)); (focus (intro w5 hS; (first | (with_reducible refine (CL.out _ hS).mono ?_; rintro e w6 ⟨rfl, hb6⟩; constructor; with_reducible rfl; exact ⟨hS.over hb6, fun _ h => h⟩)))); (try simp only [Act.put, List.setIfInBounds_toArray, List.set_cons_zero, List.set_cons_succ])))
  refine Ord.InText.nil fun w5 hS => ?_
  clear hT9
  obtain ⟨hC9, hA9⟩ := Ord.chain_end hS
  clear hS
  clear hA9
  have r2 := hC9.rule (i + 1) hu'
  have z2 := hC9.thaw (i + 1) hu' 4 (by simp [uv])
  have hP := hC9.put (i + 1) hu' (j := 4) (by simp [uv]) (.int .i64 (wrap64 (st + 1)))
  unfold uv at r2
  cases t
  · have e2 : st = sz := by simpa using HSZ.out
    go_wp2
    refine bodyPost_ret (v := .tuple #[.int .u64 a1, .int .i64 a2, .bool false]) (by simp [results, Try.results54, go_sem]) rfl ⟨rfl, ?_⟩
    rw [← e2, setSelf hu]
    exact hC9.sub (.cons _ (List.Sublist.refl _))
  · have e2 : wrap64 (st + 1) = sz := by simpa using HSZ.out
    go_wp2
    refine bodyPost_ret (v := .tuple #[.int .u64 a1, .int .i64 a2, .bool true]) (by simp [results, Try.results54, go_sem]) rfl ⟨rfl, ?_⟩
    rw [← e2]
    exact hP.sub (.cons _ (List.Sublist.refl _))
end
end Go.Proofs.Ythiccboecimfjaa

/- The reference's watched words: what is written. -/
namespace Go.Proofs.Ythiccboecimfjaa
open Go.RowKit Go.Maps
set_option maxRecDepth 100000

/-- The things behind a store: the block, and two of its rows. -/
def storeL (L : List Item) (i u : Nat) (v2 v3 a b : Value) (fz st : Int) (lc li : List OneR) (rs : List Value) : List Item :=
  (((L.set i (boxI u (uv a v2 v3 fz st rs))).set (i + 1) (rowO a lc)).set i (boxI u (uv a b v3 fz st rs))).set (i + 2) (rowO b li)

section
variable {w0 w : World} {L : List Item} {u : Nat} {rs : List Value} {v1 v2 v3 : Value} {fa st : Int} {lc li : List OneR} {l : List Int}
set_option maxHeartbeats 3200000 in
theorem store7_u (x y z d v e : Int) (b : Bool) (hl : l.length ≤ 100000) (hlc : lc.length ≤ 1000000) (hli : li.length ≤ 1000000) (i : Nat) (hE : Env w0 L w) (hu : L[i]? = some (boxI u (uv v1 v2 v3 fa st rs))) (h1 : L[i + 1]? = some (rowO v1 lc)) (h2 : L[i + 2]? = some (rowO v2 li)) (hs : L[i + 3]? = some (intsI v3 l)) :
    Calls Try.prog 32 #[.pointer (some ⟨u, 0, none⟩), .agg #[.int .i64 x, .int .i64 y, .int .i64 z], .int .i64 d, .int .u64 v, .int .i64 e, .bool b] w fun e' w' => e' = .returned (.tuple #[]) ∧ ∃ v1' v2', Env w0 (storeL L i u v2 v3 v1' v2' (faS l x y d b fa) st (setL lc (x, y, z) v) (setL li (x, y, z) (IntKind.u64.wrap e)) rs) w' := by
  replace hE := hE.box w.heap.size rfl [.int .i64 x, .int .i64 y, .int .i64 z] 44
  generalize hfa : faS l x y d b fa = fz
  unfold faS at hfa
  have HFZ := Lib.hid hfa
  clear hfa
  go_enter Try.func32, Try.ntmps32
  go_upto_region 1 with fail
  generalize w.alloc _ = w1 at *
  generalize w.heap.size = X at *
  have z4 := fun (v : World) (hE : Env w0 (boxI X [.int .i64 x, .int .i64 y, .int .i64 z] :: L) v) => hE.thaw (i + 1) hu 3 (by simp [uv])
  have HT : Hid (∀ (v : World), Env w0 (boxI X [.int .i64 x, .int .i64 y, .int .i64 z] :: L) v → Env w0 (boxI X [.int .i64 x, .int .i64 y, .int .i64 z] :: L.set i (boxI u (uv v1 v2 v3 (wrap64 (fa + 1)) st rs))) (v.setCell ⟨u, 3, none⟩ (.int .i64 (wrap64 (fa + 1))))) := Lib.hid fun v hE => hE.put (i + 1) hu (j := 3) (by simp [uv]) (.int .i64 (wrap64 (fa + 1)))
  have HT0 : Hid (∀ (v : World), Env w0 (boxI X [.int .i64 x, .int .i64 y, .int .i64 z] :: L) v → Env w0 (boxI X [.int .i64 x, .int .i64 y, .int .i64 z] :: L.set i (boxI u (uv v1 v2 v3 fa st rs))) v) := Lib.hid fun v hE => by rw [setSelf hu]; exact hE
  cases b
  case' true =>
    have r2 := hE.rule (i + 1) hu
    have z2 := z4 _ hE
    have hfa := HFZ.out
    clear HFZ
    unfold uv at r2
    go_upto_region 3 with fail
    have ez : wrap64 (fa + 1) = fz := by simpa using hfa
    replace hE := HT.out _ hE
    clear r2 z2 hfa
    generalize World.setCell _ _ _ = w3 at *
    rw [ez] at hE
    clear ez
  case' false =>
    have r0 := hE.rule 0 rfl
    go_wp2_with fail
    refine (stale_u x y z d hl (i + 1) hE hu hs).mono ?_
    rintro e1 w2 ⟨rfl, hb⟩
    replace hE := hE.over hb
    have hfa := HFZ.out
    rw [Bool.false_or] at hfa
    clear r0 hb HFZ
    generalize stB l x y d = t at *
    have r2 := hE.rule (i + 1) hu
    have z2 := z4 _ hE
    unfold uv at r2
    cases t
    case' false =>
      go_upto_region 3 with fail
      have ez : fa = fz := by simpa using hfa
      replace hE := HT0.out _ hE
      clear r2 z2 hfa
      rw [ez] at hE
      clear ez
      generalize w2 = w3 at *
    case' true =>
      go_upto_region 3 with fail
      have ez : wrap64 (fa + 1) = fz := by simpa using hfa
      replace hE := HT.out _ hE
      clear r2 z2 hfa
      generalize World.setCell _ _ _ = w3 at *
      rw [ez] at hE
      clear ez
  all_goals
    have hu1 : (L.set i (boxI u (uv v1 v2 v3 fz st rs)))[i]? = some (boxI u (uv v1 v2 v3 fz st rs)) := wself hu
    have h11 : (L.set i (boxI u (uv v1 v2 v3 fz st rs)))[i + 1]? = some (rowO v1 lc) := wset (j := i) (by omega) h1
    have h21 : (L.set i (boxI u (uv v1 v2 v3 fz st rs)))[i + 2]? = some (rowO v2 li) := wset (j := i) (by omega) h2
    clear z4 HT HT0
    refine Ord.wp_chain [5] (fun w' => Blk 0 w' X [.int .i64 x, .int .i64 y, .int .i64 z]) (Stage [Env w0 (boxI X [.int .i64 x, .int .i64 y, .int .i64 z] :: L.set i (boxI u (uv v1 v2 v3 fz st rs))), fun w' => ∃ v6, Env w0 (boxI X [.int .i64 x, .int .i64 y, .int .i64 z] :: (L.set i (boxI u (uv v6 v2 v3 fz st rs))).set (i + 1) (rowO v6 (setL lc (x, y, z) v))) w']) (by kernel_rfl) (by kernel_rfl) (by kernel_rfl) (hE.drew.get 0 rfl) ⟨_, rfl, hE.drew⟩ (fun hT => ?_)
    have hT9 := Lib.hid hT
    clear hT
    repeat (first
      | (refine Ord.ch_value (v := ?_) hT9.out (by decide) (by rfl) ?_ ?_; rotate_left; (focus (intro w5 hS; have r := hS.rule; go_simp <;> with_reducible rfl)); (try simp only [Act.put, List.setIfInBounds_toArray, List.set_cons_zero, List.set_cons_succ]))
      | (refine Ord.ch_off hT9.out (by decide) (by rfl) ?_; (try simp only [Act.put, List.setIfInBounds_toArray, List.set_cons_zero, List.set_cons_succ])))
    refine Ord.ch_turn (v := .tuple #[]) 0 hT9.out rfl (by decide) (Or.inl rfl) (by rfl) ?_ ?_
    · rintro w5 hC5 ⟨P5, hP5, hA5⟩
      cases hP5
      skip
      go_simp
      simp only [Ord.LandsIn]
      refine (set_u x y z v hlc 0 (i + 1) (i + 2) (by omega) hA5 hu1 rfl h11).mono ?_
      rintro e6 w6 ⟨rfl, v6, hE6⟩; change Env w0 (boxI X [.int .i64 x, .int .i64 y, .int .i64 z] :: ((L.set i (boxI u (uv v1 v2 v3 fz st rs))).set i (boxI u (uv v6 v2 v3 fz st rs))).set (i + 1) (rowO v6 (setL lc (x, y, z) v))) w6 at hE6; rw [List.set_set] at hE6; exact ⟨rfl, hE6.get 0 rfl, _, rfl, v6, hE6⟩
    (try simp only [Act.put, List.setIfInBounds_toArray, List.set_cons_zero, List.set_cons_succ])
    refine Ord.InText.nil fun w5 hS => ?_
    clear hT9
    obtain ⟨hC9, hA9⟩ := Ord.chain_end hS
    clear hS
    obtain ⟨P9, hP9, hA9⟩ := hA9
    cases hP9
    obtain ⟨v6, hA9⟩ := hA9
    clear hC9 hE
    have hu2 : ((L.set i (boxI u (uv v6 v2 v3 fz st rs))).set (i + 1) (rowO v6 (setL lc (x, y, z) v)))[i]? = some (boxI u (uv v6 v2 v3 fz st rs)) := wset (j := i + 1) (by omega) (wself hu)
    have h22 : ((L.set i (boxI u (uv v6 v2 v3 fz st rs))).set (i + 1) (rowO v6 (setL lc (x, y, z) v)))[i + 2]? = some (rowO v2 li) := wset (j := i + 1) (by omega) (wset (j := i) (by omega) h2)
    go_wp2_with fail
    refine Ord.wp_chain [6] (fun w' => Blk 0 w' X [.int .i64 x, .int .i64 y, .int .i64 z]) (Stage [Env w0 (boxI X [.int .i64 x, .int .i64 y, .int .i64 z] :: (L.set i (boxI u (uv v6 v2 v3 fz st rs))).set (i + 1) (rowO v6 (setL lc (x, y, z) v))), fun w' => ∃ v7, Env w0 (boxI X [.int .i64 x, .int .i64 y, .int .i64 z] :: storeL L i u v2 v3 v6 v7 fz st (setL lc (x, y, z) v) (setL li (x, y, z) (IntKind.u64.wrap e)) rs) w']) (by kernel_rfl) (by kernel_rfl) (by kernel_rfl) (hA9.drew.get 0 rfl) ⟨_, rfl, hA9.drew⟩ (fun hT => ?_)
    have hT9 := Lib.hid hT
    clear hT
    repeat (first
      | (refine Ord.ch_value (v := ?_) hT9.out (by decide) (by rfl) ?_ ?_; rotate_left; (focus (intro w5 hS; have r := hS.rule; go_simp <;> with_reducible rfl)); (try simp only [Act.put, List.setIfInBounds_toArray, List.set_cons_zero, List.set_cons_succ]))
      | (refine Ord.ch_off hT9.out (by decide) (by rfl) ?_; (try simp only [Act.put, List.setIfInBounds_toArray, List.set_cons_zero, List.set_cons_succ])))
    refine Ord.ch_turn (v := .tuple #[]) 0 hT9.out rfl (by decide) (Or.inl rfl) (by rfl) ?_ ?_
    · rintro w5 hC5 ⟨P5, hP5, hA5⟩
      cases hP5
      skip
      go_simp
      simp only [Ord.LandsIn]
      refine (set_u x y z (IntKind.u64.wrap e) hli 1 (i + 1) (i + 3) (by omega) hA5 hu2 rfl h22).mono ?_
      rintro e6 w6 ⟨rfl, v7, hE6⟩; exact ⟨rfl, hE6.get 0 rfl, _, rfl, v7, hE6⟩
    (try simp only [Act.put, List.setIfInBounds_toArray, List.set_cons_zero, List.set_cons_succ])
    refine Ord.InText.nil fun w5 hS => ?_
    clear hT9
    obtain ⟨hC8, hA8⟩ := Ord.chain_end hS
    clear hS
    obtain ⟨P8, hP8, hA8⟩ := hA8
    cases hP8
    obtain ⟨v7, hA8⟩ := hA8
    clear hC8 hA9
    go_wp2
    (first | go_end0 | refine bodyPost_ret (results_none rfl _ _ _) rfl ?_)
    exact ⟨rfl, v6, v7, hA8.sub (.cons _ (List.Sublist.refl _))⟩

set_option maxHeartbeats 1600000 in
theorem swap7_u (x y z d o v e : Int) (ob b : Bool) (hl : l.length ≤ 100000) (hlc : lc.length ≤ 1000000) (hli : li.length ≤ 1000000) (i : Nat) (hE : Env w0 L w) (hu : L[i]? = some (boxI u (uv v1 v2 v3 fa st rs))) (h1 : L[i + 1]? = some (rowO v1 lc)) (h2 : L[i + 2]? = some (rowO v2 li)) (hs : L[i + 3]? = some (intsI v3 l)) :
    Calls Try.prog 34 #[.pointer (some ⟨u, 0, none⟩), .agg #[.int .i64 x, .int .i64 y, .int .i64 z], .int .i64 d, .int .u64 o, .bool ob, .int .u64 v, .int .i64 e, .bool b] w fun e' w' => e' = .returned (.bool (decide (getL lc (x, y, z) = o))) ∧ ∃ v1' v2', Env w0 (if getL lc (x, y, z) = o then storeL L i u v2 v3 v1' v2' (faS l x y d (ob || b) fa) st (setL lc (x, y, z) v) (setL li (x, y, z) (IntKind.u64.wrap e)) rs else L) w' := by
  replace hE := hE.box w.heap.size rfl [.int .i64 x, .int .i64 y, .int .i64 z] 44
  have hu' : (boxI w.heap.size [.int .i64 x, .int .i64 y, .int .i64 z] :: L)[i + 1]? = some (boxI u (uv v1 v2 v3 fa st rs)) := hu
  have h1' : (boxI w.heap.size [.int .i64 x, .int .i64 y, .int .i64 z] :: L)[i + 2]? = some (rowO v1 lc) := h1
  have cG := fun (v : World) (hE : Env w0 (boxI w.heap.size [.int .i64 x, .int .i64 y, .int .i64 z] :: L) v) => get_u x y z hlc 0 (i + 1) (i + 2) hE hu' rfl h1'
  have cS := fun (w1 : World) (hE : Env w0 (boxI w.heap.size [.int .i64 x, .int .i64 y, .int .i64 z] :: L) w1) (sb : Bool) => store7_u x y z d v e sb hl hlc hli (i + 1) hE hu' h1' h2 hs
  have CG := Lib.hid cG
  have CS := Lib.hid cS
  clear cG cS hu' h1'
  by_cases hw : getL lc (x, y, z) = o
  · rw [hw] at CG
    simp only [if_pos hw]
    rw [show decide (getL lc (x, y, z) = o) = true by simpa using hw]
    simp only [Bool.or_comm ob b]
    clear hw
    go_enter Try.func34, Try.ntmps34
    go_wp2_with fail
    generalize w.heap.size = X at *
    refine Ord.wp_chain [] (fun w' => Env w0 (boxI X [.int .i64 x, .int .i64 y, .int .i64 z] :: L) w') (fun _ _ => True) (by kernel_rfl) (by kernel_rfl) (by kernel_rfl) hE.drew trivial (fun hT => ?_)
    have hT9 := Lib.hid hT
    clear hT
    repeat (first
      | (refine Ord.ch_value (v := ?_) hT9.out (by decide) (by rfl) ?_ ?_; rotate_left; (focus (intro w5 hS; have r := hS.rule 0 rfl; go_simp <;> with_reducible rfl)); (try simp only [Act.put, List.setIfInBounds_toArray, List.set_cons_zero, List.set_cons_succ]))
      | (refine Ord.ch_off hT9.out (by decide) (by rfl) ?_; (try simp only [Act.put, List.setIfInBounds_toArray, List.set_cons_zero, List.set_cons_succ]))
      | (refine Ord.ch_call (v := ?_) (f := ?_) (args := ?_) hT9.out (by decide) (by rfl) ?_ ?_ ?_; rotate_left 3; (focus (intro w5 hS; have r := hS.rule 0 rfl; go_simp; constructor <;> with_reducible rfl)); (focus (intro w5 hS; (first | (with_reducible refine (CG.out _ hS).mono ?_; rintro e w6 ⟨rfl, hb6⟩; constructor; with_reducible rfl; exact ⟨hS.over hb6, fun _ h => h⟩)))); (try simp only [Act.put, List.setIfInBounds_toArray, List.set_cons_zero, List.set_cons_succ])))
    refine Ord.InText.nil fun w5 hS => ?_
    clear hT9
    obtain ⟨hC9, hA9⟩ := Ord.chain_end hS
    clear hS
    clear hA9
    have r := hC9.rule 0 rfl
    cases b
    all_goals
      go_wp2_with fail
      refine (CS.out _ hC9 _).mono ?_
      rintro e6 w6 ⟨rfl, v6, v7, hE6⟩
      clear r
      go_wp2
      go_ret
      exact ⟨rfl, v6, v7, hE6.sub (.cons _ (List.Sublist.refl _))⟩
  · have hbn : (getL lc (x, y, z) != o) = true := by simpa using hw
    simp only [if_neg hw]
    rw [show decide (getL lc (x, y, z) = o) = false by simpa using hw]
    generalize getL lc (x, y, z) = a1 at *
    go_enter Try.func34, Try.ntmps34
    go_wp2_with fail
    generalize w.heap.size = X at *
    refine Ord.wp_chain [] (fun w' => Env w0 (boxI X [.int .i64 x, .int .i64 y, .int .i64 z] :: L) w') (fun _ _ => True) (by kernel_rfl) (by kernel_rfl) (by kernel_rfl) hE.drew trivial (fun hT => ?_)
    have hT9 := Lib.hid hT
    clear hT
    repeat (first
      | (refine Ord.ch_value (v := ?_) hT9.out (by decide) (by rfl) ?_ ?_; rotate_left; (focus (intro w5 hS; have r := hS.rule 0 rfl; go_simp <;> with_reducible rfl)); (try simp only [Act.put, List.setIfInBounds_toArray, List.set_cons_zero, List.set_cons_succ]))
      | (refine Ord.ch_off hT9.out (by decide) (by rfl) ?_; (try simp only [Act.put, List.setIfInBounds_toArray, List.set_cons_zero, List.set_cons_succ]))
      | (refine Ord.ch_call (v := ?_) (f := ?_) (args := ?_) hT9.out (by decide) (by rfl) ?_ ?_ ?_; rotate_left 3; (focus (intro w5 hS; have r := hS.rule 0 rfl; go_simp; constructor <;> with_reducible rfl)); (focus (intro w5 hS; (first | (with_reducible refine (CG.out _ hS).mono ?_; rintro e w6 ⟨rfl, hb6⟩; constructor; with_reducible rfl; exact ⟨hS.over hb6, fun _ h => h⟩)))); (try simp only [Act.put, List.setIfInBounds_toArray, List.set_cons_zero, List.set_cons_succ])))
    refine Ord.InText.nil fun w5 hS => ?_
    clear hT9
    obtain ⟨hC9, hA9⟩ := Ord.chain_end hS
    clear hS
    clear hA9
    go_wp2
    go_ret
    exact ⟨rfl, v1, v2, hC9.sub (.cons _ (List.Sublist.refl _))⟩

set_option maxHeartbeats 1600000 in
theorem add8_u (x y z v : Int) (hlc : lc.length ≤ 1000000) (i : Nat) (hE : Env w0 L w) (hu : L[i]? = some (boxI u (uv v1 v2 v3 fa st rs))) (h1 : L[i + 1]? = some (rowO v1 lc)) :
    Calls Try.prog 35 #[.pointer (some ⟨u, 0, none⟩), .agg #[.int .i64 x, .int .i64 y, .int .i64 z], .int .u64 v] w fun e' w' => e' = .returned (.int .u64 (getL lc (x, y, z))) ∧ ∃ v1', Env w0 ((L.set i (boxI u (uv v1' v2 v3 fa st rs))).set (i + 1) (rowO v1' (setL lc (x, y, z) (IntKind.u64.wrap (getL lc (x, y, z) + v))))) w' := by
  replace hE := hE.box w.heap.size rfl [.int .i64 x, .int .i64 y, .int .i64 z] 44
  have hu' : (boxI w.heap.size [.int .i64 x, .int .i64 y, .int .i64 z] :: L)[i + 1]? = some (boxI u (uv v1 v2 v3 fa st rs)) := hu
  have h1' : (boxI w.heap.size [.int .i64 x, .int .i64 y, .int .i64 z] :: L)[i + 2]? = some (rowO v1 lc) := h1
  have CG : Hid (∀ (v : World), Env w0 (boxI w.heap.size [.int .i64 x, .int .i64 y, .int .i64 z] :: L) v → Calls Try.prog 33 #[.pointer (some ⟨u, 0, none⟩), .agg #[.int .i64 x, .int .i64 y, .int .i64 z]] v fun e w' => e = .returned (.int .u64 (getL lc (x, y, z))) ∧ Below v.heap.size v w') := Lib.hid fun v hE => get_u x y z hlc 0 (i + 1) (i + 2) hE hu' rfl h1'
  generalize getL lc (x, y, z) = a1 at *
  go_enter Try.func35, Try.ntmps35
  go_wp2_with fail
  generalize w.heap.size = X at *
  refine Ord.wp_chain [] (fun w' => Env w0 (boxI X [.int .i64 x, .int .i64 y, .int .i64 z] :: L) w') (fun _ _ => True) (by kernel_rfl) (by kernel_rfl) (by kernel_rfl) hE.drew trivial (fun hT => ?_)
  have hT9 := Lib.hid hT
  clear hT
  repeat (first
    | (refine Ord.ch_value (v := ?_) hT9.out (by decide) (by rfl) ?_ ?_; rotate_left; (focus (intro w5 hS; have r := hS.rule 0 rfl; go_simp <;> with_reducible rfl)); (try simp only [Act.put, List.setIfInBounds_toArray, List.set_cons_zero, List.set_cons_succ]))
    | (refine Ord.ch_off hT9.out (by decide) (by rfl) ?_; (try simp only [Act.put, List.setIfInBounds_toArray, List.set_cons_zero, List.set_cons_succ]))
    | (refine Ord.ch_call (v := ?_) (f := ?_) (args := ?_) hT9.out (by decide) (by rfl) ?_ ?_ ?_; rotate_left 3; (focus (intro w5 hS; have r := hS.rule 0 rfl; go_simp; constructor <;> with_reducible rfl)); (focus (intro w5 hS; (first | (with_reducible refine (CG.out _ hS).mono ?_; rintro e w6 ⟨rfl, hb6⟩; constructor; with_reducible rfl; exact ⟨hS.over hb6, fun _ h => h⟩)))); (try simp only [Act.put, List.setIfInBounds_toArray, List.set_cons_zero, List.set_cons_succ])))
  refine Ord.InText.nil fun w5 hS => ?_
  clear hT9
  obtain ⟨hC9, hA9⟩ := Ord.chain_end hS
  clear hS
  clear hA9 CG
  go_wp2_with fail
  refine Ord.wp_chain [8] (fun w' => Blk 0 w' X [.int .i64 x, .int .i64 y, .int .i64 z]) (Stage [Env w0 (boxI X [.int .i64 x, .int .i64 y, .int .i64 z] :: L), fun w' => ∃ v6, Env w0 (boxI X [.int .i64 x, .int .i64 y, .int .i64 z] :: (L.set i (boxI u (uv v6 v2 v3 fa st rs))).set (i + 1) (rowO v6 (setL lc (x, y, z) (IntKind.u64.wrap (a1 + v))))) w']) (by kernel_rfl) (by kernel_rfl) (by kernel_rfl) (hC9.drew.get 0 rfl) ⟨_, rfl, hC9.drew⟩ (fun hT => ?_)
  have hT9 := Lib.hid hT
  clear hT
  repeat (first
    | (refine Ord.ch_value (v := ?_) hT9.out (by decide) (by rfl) ?_ ?_; rotate_left; (focus (intro w5 hS; have r := hS.rule; go_simp <;> with_reducible rfl)); (try simp only [Act.put, List.setIfInBounds_toArray, List.set_cons_zero, List.set_cons_succ]))
    | (refine Ord.ch_off hT9.out (by decide) (by rfl) ?_; (try simp only [Act.put, List.setIfInBounds_toArray, List.set_cons_zero, List.set_cons_succ])))
  refine Ord.ch_turn (v := .tuple #[]) 0 hT9.out rfl (by decide) (Or.inl rfl) (by rfl) ?_ ?_
  · rintro w5 hC5 ⟨P5, hP5, hA5⟩
    cases hP5
    skip
    go_simp
    simp only [Ord.LandsIn]
    refine (set_u x y z (IntKind.u64.wrap (a1 + v)) hlc 0 (i + 1) (i + 2) (by omega) hA5 hu' rfl h1').mono ?_
    rintro e6 w6 ⟨rfl, v6, hE6⟩; exact ⟨rfl, hE6.get 0 rfl, _, rfl, v6, hE6⟩
  (try simp only [Act.put, List.setIfInBounds_toArray, List.set_cons_zero, List.set_cons_succ])
  refine Ord.InText.nil fun w5 hS => ?_
  clear hT9
  obtain ⟨hC8, hA8⟩ := Ord.chain_end hS
  clear hS
  obtain ⟨P8, hP8, hA8⟩ := hA8
  cases hP8
  obtain ⟨v7, hA8⟩ := hA8
  clear hC8 hC9
  go_wp2
  go_ret
  exact ⟨rfl, v7, hA8.sub (.cons _ (List.Sublist.refl _))⟩
end
end Go.Proofs.Ythiccboecimfjaa

/- The reference's load, with a row of words. -/
namespace Go.Proofs.Ythiccboecimfjaa
open Go.RowKit Go.Maps
set_option maxRecDepth 100000

section
variable {w0 w : World} {L : List Item} {u : Nat} {v1 v2 v3 vw : Value} {fa : Int} {lc li : List OneR} {l zs : List Int}
set_option maxHeartbeats 3200000 in
theorem load10_u (x y z d : Int) (k : Nat) (hk : k ≤ 100000) (hl : l.length ≤ 100000) (hlc : lc.length ≤ 1000000) (hli : li.length ≤ 1000000) (hz : zs.length ≤ 9223372036854775807) (i j : Nat) (hij : i ≠ j) (hE : Env w0 L w) (hu : L[i]? = some (boxI u (uv v1 v2 v3 fa (k : Nat) [vw]))) (h1 : L[i + 1]? = some (rowO v1 lc)) (h2 : L[i + 2]? = some (rowO v2 li)) (hs : L[i + 3]? = some (intsI v3 l)) (hw : L[j]? = some (wordsI vw zs)) :
    Calls Try.prog 31 #[.pointer (some ⟨u, 0, none⟩), .agg #[.int .i64 x, .int .i64 y, .int .i64 z], .int .i64 d] w fun e w' => e = .returned (.tuple #[.int .u64 (ldW zs (stB l x y d) k (getL lc (x, y, z))), .int .i64 (ldI (stB l x y d) (IntKind.i64.wrap (getL li (x, y, z)))), .bool (stB l x y d)]) ∧ Env w0 (L.set i (boxI u (uv v1 v2 v3 fa (stN (stB l x y d) k : Nat) [vw]))) w' := by
  replace hE := hE.box w.heap.size rfl [.int .i64 x, .int .i64 y, .int .i64 z] 44
  have hst : (if stB l x y d = true then wrap64 ((k : Int) + 1) else (k : Int)) = ((stN (stB l x y d) k : Nat) : Int) := by
    unfold stN
    split
    · rw [w64 _ (by omega)]; rfl
    · rfl
  have cL := fun (M : List Item) (w' : World) (j : Nat) (hE : Env w0 M w') => load8_u (w0 := w0) (L := M) (w := w') (u := u) (v1 := v1) (v2 := v2) (v3 := v3) (rs := [vw]) (lc := lc) (li := li) (l := l) (st := (k : Nat)) (fa := fa) x y z d hl hlc hli j hE
  rw [hst] at cL
  have CL := Lib.hid cL
  clear cL hst
  obtain ⟨t, ht⟩ : ∃ t, stB l x y d = t := ⟨_, rfl⟩
  rw [ht] at CL
  rw [ht]
  clear ht
  generalize hsz : ((stN t k : Nat) : Int) = sz at *
  have HSZ := Lib.hid hsz
  clear hsz
  generalize IntKind.i64.wrap (getL li (x, y, z)) = a2 at *
  generalize getL lc (x, y, z) = a1 at *
  go_enter Try.func31, Try.ntmps31
  go_wp2_with fail
  generalize w.alloc _ = w1 at *
  generalize w.heap.size = X at *
  refine Ord.wp_chain [5] (fun w' => Blk 0 w' X [.int .i64 x, .int .i64 y, .int .i64 z]) (Stage [Env w0 (boxI X [.int .i64 x, .int .i64 y, .int .i64 z] :: L), Env w0 (boxI X [.int .i64 x, .int .i64 y, .int .i64 z] :: L.set i (boxI u (uv v1 v2 v3 fa sz [vw])))]) (by kernel_rfl) (by kernel_rfl) (by kernel_rfl) (hE.drew.get 0 rfl) ⟨_, rfl, hE.drew⟩ (fun hT => ?_)
  have hT9 := Lib.hid hT
  clear hT
  repeat (first
    | (refine Ord.ch_value (v := ?_) hT9.out (by decide) (by rfl) ?_ ?_; rotate_left; (focus (intro w5 hS; have r := hS.rule; go_simp <;> with_reducible rfl)); (try simp only [Act.put, List.setIfInBounds_toArray, List.set_cons_zero, List.set_cons_succ]))
    | (refine Ord.ch_off hT9.out (by decide) (by rfl) ?_; (try simp only [Act.put, List.setIfInBounds_toArray, List.set_cons_zero, List.set_cons_succ])))
  refine Ord.ch_turn (v := .tuple #[.int .u64 a1, .int .i64 a2, .bool t]) 0 hT9.out rfl (by decide) (Or.inl rfl) (by rfl) ?_ ?_
  · rintro w5 hC5 ⟨P5, hP5, hA5⟩
    cases hP5
    skip
    go_simp
    simp only [Ord.LandsIn]
    refine (CL.out _ _ (i + 1) hA5 hu h1 h2 hs).mono ?_
    rintro e6 w6 ⟨rfl, hE6⟩; exact ⟨rfl, hE6.get 0 rfl, _, rfl, hE6⟩
  (try simp only [Act.put, List.setIfInBounds_toArray, List.set_cons_zero, List.set_cons_succ])
  repeat (first
    | (refine Ord.ch_value (v := ?_) hT9.out (by decide) (by rfl) ?_ ?_; rotate_left; (focus (intro w5 hS; skip; go_simp <;> with_reducible rfl)); (try simp only [Act.put, List.setIfInBounds_toArray, List.set_cons_zero, List.set_cons_succ]))
    | (refine Ord.ch_off hT9.out (by decide) (by rfl) ?_; (try simp only [Act.put, List.setIfInBounds_toArray, List.set_cons_zero, List.set_cons_succ])))
  refine Ord.InText.nil fun w5 hS => ?_
  clear hT9
  obtain ⟨hC9, hA9⟩ := Ord.chain_end hS
  clear hS
  obtain ⟨P9, hP9, hA9⟩ := hA9
  cases hP9
  clear hC9 hE CL
  have hE := hA9.sub (.cons _ (List.Sublist.refl _))
  clear hA9
  have hu2 : (L.set i (boxI u (uv v1 v2 v3 fa sz [vw])))[i]? = some (boxI u (uv v1 v2 v3 fa sz [vw])) := wself hu
  have hw2 : (L.set i (boxI u (uv v1 v2 v3 fa sz [vw])))[j]? = some (wordsI vw zs) := wset (j := i) hij hw
  generalize hL2 : L.set i (boxI u (uv v1 v2 v3 fa sz [vw])) = L2 at *
  have HL2 := Lib.hid hL2
  clear hL2
  cases t
  · go_wp2
    exact bodyPost_ret (v := .tuple #[.int .u64 a1, .int .i64 a2, .bool false]) (by simp [results, Try.results31, go_sem]) rfl ⟨rfl, by rw [HL2.out]; exact hE⟩
  · have es : sz = (k : Int) + 1 := by have := HSZ.out; simp [stN] at this; omega
    subst es
    obtain ⟨A, cap, rfl⟩ := ownsRow_slice (hE.words j hw2)
    have r2 := hE.rule i hu2
    unfold uv at r2
    by_cases h0 : zs.length = 0
    · have e0 : lastW zs k = 0 := if_pos h0
      have hb0 : ((zs.length : Int) == 0) = true := by simp [h0]
      have e1 : ldW zs true k a1 = 0 := e0
      go_wp2
      exact bodyPost_ret (v := .tuple #[.int .u64 0, .int .i64 0, .bool true]) (by simp [results, Try.results31, go_sem]) rfl ⟨by rw [e1]; rfl, by rw [HL2.out]; exact hE⟩
    · have hb0 : ((zs.length : Int) == 0) = false := by rw [beq_eq_false_iff_ne]; omega
      have e0 : ldW zs true k a1 = zs.getD (k % zs.length) 0 := by show lastW zs k = _; exact if_neg h0
      obtain hnil | ⟨g', rfl, hg', hc⟩ := hE.wordCells j rfl hw2
      · rw [hnil] at h0; simp at h0
      have hkk := Nat.mod_lt k (Nat.pos_of_ne_zero h0)
      have hm2 := tmod_nat k zs.length
      have HE0 : Hid (ldW zs true k a1 = zs.getD (k % zs.length) 0) := Lib.hid e0
      have hc' := hc _ hkk
      generalize zs.getD (k % zs.length) 0 = a at *
      generalize k % zs.length = r at *
      have hm1 : IntKind.i64.wrap (k : Int) = (k : Int) := by rw [wrap_i, w64 _ (by omega)]
      have hin0 : (0 : Int) ≤ (r : Int) := by omega
      have hin1 : (r : Int) < (zs.length : Int) := by omega
      have HC : Hid (∀ w', Env w0 L2 w' ∧ Below w5.heap.size w5 w' → w'.cell? ⟨g', r, none⟩ = some (.int .u64 a)) := Lib.hid fun w' hb => by rw [hb.2.cell (p := ⟨g', r, none⟩) hg']; exact hc'
      clear hc hc' e0
      go_wp2_with fail
      refine Ord.wp_chain [] (fun w' => Env w0 L2 w' ∧ Below w5.heap.size w5 w') (fun _ _ => True) (by kernel_rfl) (by kernel_rfl) (by kernel_rfl) ⟨hE.drew, (Below.refl _ _).drew⟩ trivial (fun hT => ?_)
      have hT9 := Lib.hid hT
      clear hT
      repeat (first
        | (refine Ord.ch_value (v := ?_) hT9.out (by decide) (by rfl) ?_ ?_; rotate_left; (focus (intro w5 hS; have r := hS.1.rule i hu2; unfold uv at r; have hc := HC.out _ hS; go_simp <;> with_reducible rfl)); (try simp only [Act.put, List.setIfInBounds_toArray, List.set_cons_zero, List.set_cons_succ]))
        | (refine Ord.ch_off hT9.out (by decide) (by rfl) ?_; (try simp only [Act.put, List.setIfInBounds_toArray, List.set_cons_zero, List.set_cons_succ])))
      refine Ord.InText.nil fun w5 hS => ?_
      clear hT9
      obtain ⟨hC9, hA9⟩ := Ord.chain_end hS
      clear hS
      go_wp2
      exact bodyPost_ret (v := .tuple #[.int .u64 a, .int .i64 0, .bool true]) (by simp [results, Try.results31, go_sem]) rfl ⟨by rw [HE0.out]; rfl, by rw [HL2.out]; exact hC9.1⟩
end
end Go.Proofs.Ythiccboecimfjaa
