/- The reference's words in a row: Set. -/
import Derived.Test.YtnlepgbmbdmjbaaRefA
import Derived.Test.YtnlepgbmbdmjbaaOrdB
import Derived.OneCell
namespace Go.Proofs.Ytnlepgbmbdmjbaa
open Go.RowKit Go.Maps
set_option maxRecDepth 100000

theorem infoOne : (Try.prog.info? 89).map (fun i => (i.zero, i.size, i.bytes)) = some (some (.agg #[.int .i64 0, .int .i64 0, .int .i64 0, .int .u64 0]), 4, 32) := by kernel_rfl
theorem flatO_append (l m : List OneR) : flatO (l ++ m) = flatO l ++ flatO m := by simp [flatO]
theorem flatO_put (l : List OneR) (k : Nat) (hk : k < l.length) (p : Plc) (v0 v : Int) (h : l.getD k dO = (p, v0)) : flatO (l.take k ++ (p, v) :: l.drop (k + 1)) = (flatO l).set (k * 4 + 3) (.int .u64 v) := by
  have e : l = l.take k ++ (p, v0) :: l.drop (k + 1) := by
    conv => lhs; rw [← List.take_append_drop k l, List.drop_eq_getElem_cons hk]
    rw [show l[k] = (p, v0) by simpa [hk] using h]
  conv => rhs; rw [e]
  have hlen : (flatO (l.take k)).length = k * 4 := by rw [flatO_length]; simp; omega
  rw [flatO_append, flatO_append, List.set_append_right _ _ (by omega), hlen]
  congr 1
  rw [show k * 4 + 3 - k * 4 = 3 by omega]
  simp [flatO, encO]
theorem setL_skip {x : Plc} {v : Int} {l : List OneR} {k : Nat} (hk : k < l.length) {p : Plc} {v0 : Int} (h : l.getD k dO = (p, v0)) (hp : ¬ p = x) (hs : setL l x v = l.take k ++ setL (l.drop k) x v) : setL l x v = l.take (k + 1) ++ setL (l.drop (k + 1)) x v := by
  have e : l[k] = (p, v0) := by simpa [hk] using h
  rw [hs, List.drop_eq_getElem_cons hk, e, setL, if_neg hp, List.take_succ_eq_append_getElem hk, e]
  simp
theorem setL_hit {x : Plc} {v : Int} {l : List OneR} {k : Nat} (hk : k < l.length) {v0 : Int} (h : l.getD k dO = (x, v0)) (hs : setL l x v = l.take k ++ setL (l.drop k) x v) : setL l x v = l.take k ++ (x, v) :: l.drop (k + 1) := by
  have e : l[k] = (x, v0) := by simpa [hk] using h
  rw [hs, List.drop_eq_getElem_cons hk, e, setL, if_pos rfl]
/-- One of the words written: nothing but the row turns. -/
theorem row_wrote {w w' : World} {l : List OneR} {g cap k : Nat} {x : Plc} {v0 v : Int} (ho : w.ownsRow 0 89 4 (Value.slice (some ⟨g, 0, none⟩) l.length cap) l.length (flatO l))
    (hk : k < l.length) (h : l.getD k dO = (x, v0)) (hB : Below w.heap.size w w') :
    (w'.setCell ⟨g, k * 4 + 3, none⟩ (.int .u64 v)).ownsRow 0 89 4 (Value.slice (some ⟨g, 0, none⟩) (l.take k ++ (x, v) :: l.drop (k + 1)).length cap) (l.take k ++ (x, v) :: l.drop (k + 1)).length (flatO (l.take k ++ (x, v) :: l.drop (k + 1))) ∧ Turn (fun j => j = g) w (w'.setCell ⟨g, k * 4 + 3, none⟩ (.int .u64 v)) := by
  have hgl := (ho.lt g rfl).2
  have ho' : w'.ownsRow 0 89 4 (Value.slice (some ⟨g, 0, none⟩) l.length cap) l.length (flatO l) := ownsRow_kept ho fun k e => hB.block k (by cases e; exact hgl)
  have hlen : (l.take k ++ (x, v) :: l.drop (k + 1)).length = l.length := by simp; omega
  refine ⟨?_, (Turn.of_below hB : Turn (fun j => j = g) w w').setCell (p := ⟨g, k * 4 + 3, none⟩) (fun _ => rfl) _⟩
  rw [hlen, flatO_put l k hk x v0 v h]
  exact (ho'.stored _ _).1

set_option maxHeartbeats 3200000 in
theorem refSet_at {u o : Nat} {vs : List Value} {A : Option Addr} {cap : Nat} {l : List OneR} {w : World} (a b d v : Int) (hl : l.length ≤ 1000000) (hblk : Blk 0 w u vs) (hvo : vs[o]? = some (.slice A l.length cap)) (hown : w.ownsRow 0 89 4 (Value.slice A l.length cap) l.length (flatO l)) (hsep : (Value.slice A l.length cap).ownBlock ≠ some u) :
    Calls Try.prog 34 #[.pointer (some ⟨u, o, none⟩), .agg #[.int .i64 a, .int .i64 b, .int .i64 d], .int .u64 v] w fun e w' => e = .returned (.tuple #[]) ∧ ∃ A' cap', Blk 0 w' u (vs.set o (.slice A' (setL l (a, b, d) v).length cap')) ∧ w'.ownsRow 0 89 4 (.slice A' (setL l (a, b, d) v).length cap') (setL l (a, b, d) v).length (flatO (setL l (a, b, d) v)) ∧
      Turn (fun k => k = u ∨ (Value.slice A l.length cap).ownBlock = some k) w w' ∧ ∀ k, (Value.slice A' (setL l (a, b, d) v).length cap').ownBlock = some k → (Value.slice A l.length cap).ownBlock = some k ∨ w.heap.size ≤ k := by
  have hrow := ownsRow_words hown
  have hol : o < vs.length := (List.getElem?_eq_some_iff.1 hvo).1
  have r0 : w.cell? ⟨u, o, none⟩ = some (.slice A l.length cap) := by rw [hblk.rule o, hvo]
  have hul := hblk.1
  have hE := (Fr.start w).push w.heap.size rfl [.int .i64 a, .int .i64 b, .int .i64 d] 39
  have HROW := Lib.hid hrow
  have HR0 := Lib.hid r0
  have HALL := Lib.hid (And.intro hblk (And.intro hown (And.intro hsep hvo)))
  clear hrow r0 hblk hown hsep hvo
  obtain ⟨i0, hi, hz0, hz1, hz2⟩ := info_parts infoOne
  go_enter Try.func34, Try.ntmps34
  go_wp2_with fail
  go_loopw [6] (fun i wr => ∃ k : Nat, k ≤ l.length ∧ i = .int .i64 k ∧ setL l (a, b, d) v = l.take k ++ setL (l.drop k) (a, b, d) v ∧ Fr w [(w.heap.size, [.int .i64 a, .int .i64 b, .int .i64 d])] wr) (fun i _ => l.length - (intOf i).toNat)
  case atStart => exact ⟨0, by omega, rfl, rfl, hE⟩
  case round =>
    obtain ⟨k, hk, rfl, hg, hEr⟩ := hrel
    clear hE
    have hB : ∀ w', Below w.heap.size w w' → w'.cell? ⟨u, o, none⟩ = some (.slice A l.length cap) := fun w' hb => by rw [hb.cell (p := ⟨u, o, none⟩) hul]; exact HR0.out
    have ru := hB _ hEr.below
    have HG := Lib.hid hg
    have HB := Lib.hid hB
    clear hg hB
    by_cases hlt : k < l.length
    · rcases HROW.out with h0 | ⟨g, rfl, hgl, hc⟩
      · rw [h0] at hlt; simp at hlt
      obtain ⟨c0, c1, c2, c3⟩ := hc k hlt
      clear hc
      have hgk := Lib.hid (rfl : l.getD k dO = l.getD k dO)
      generalize ho : l.getD k dO = o at c0 c1 c2 c3
      obtain ⟨⟨x, y, z⟩, v0⟩ := o
      simp only at c0 c1 c2 c3
      have HC : Hid (∀ w', Below w.heap.size w w' → (w'.cell? ⟨g, k * 4, none⟩ = some (.int .i64 x) ∧ w'.cell? ⟨g, k * 4 + 1, none⟩ = some (.int .i64 y) ∧ w'.cell? ⟨g, k * 4 + 2, none⟩ = some (.int .i64 z) ∧ w'.cell? ⟨g, k * 4 + 3, none⟩ = some (.int .u64 v0))) := Lib.hid fun w' hb => by
        refine ⟨?_, ?_, ?_, ?_⟩
        · rw [hb.cell (p := ⟨g, k * 4, none⟩) hgl]; exact c0
        · rw [hb.cell (p := ⟨g, k * 4 + 1, none⟩) hgl]; exact c1
        · rw [hb.cell (p := ⟨g, k * 4 + 2, none⟩) hgl]; exact c2
        · rw [hb.cell (p := ⟨g, k * 4 + 3, none⟩) hgl]; exact c3
      have HO := Lib.hid ho
      clear c0 c1 c2 c3 ho hgk
      go_wp2_with fail
      refine Ord.wp_chain [] (fun w' => Fr w [(w.heap.size, [.int .i64 a, .int .i64 b, .int .i64 d])] w') (fun _ _ => True) (by kernel_rfl) (by kernel_rfl) (by kernel_rfl) hEr.drew trivial (fun hT => ?_)
      have hT9 := Lib.hid hT
      clear hT
      repeat (first
        | (refine Ord.ch_value (v := ?_) hT9.out (by decide) (by rfl) ?_ ?_; rotate_left; (focus (intro w5 hS; have r := hS.rule 0 rfl; have r1 := HB.out _ hS.below; obtain ⟨c0, c1, c2, c3⟩ := HC.out _ hS.below; go_simp <;> with_reducible rfl)); (try simp only [Act.put, List.setIfInBounds_toArray, List.set_cons_zero, List.set_cons_succ]))
        | (refine Ord.ch_off hT9.out (by decide) (by rfl) ?_; (try simp only [Act.put, List.setIfInBounds_toArray, List.set_cons_zero, List.set_cons_succ])))
      refine Ord.ch_value (v := .bool (decide ((x, y, z) = (a, b, d)))) hT9.out (by decide) (by rfl) ?_ ?_
      · intro w5 hS
        clear hS HC HB HG HROW HR0 HALL HO
        by_cases e1 : x = a <;> by_cases e2 : y = b <;> by_cases e3 : z = d <;> simp [e1, e2, e3] <;> go_simp
      (try simp only [Act.put, List.setIfInBounds_toArray, List.set_cons_zero, List.set_cons_succ])
      refine Ord.InText.nil fun w5 hS => ?_
      clear hT9
      obtain ⟨hEr, hC⟩ := Ord.chain_end hS
      clear hS
      clear hC
      have r := hEr.rule 0 rfl
      have r1 := HB.out _ hEr.below
      obtain ⟨c0, c1, c2, c3⟩ := HC.out _ hEr.below
      by_cases hp : (x, y, z) = (a, b, d)
      · rw [decide_eq_true hp]
        have hgl5 : g < w5.heap.size := Nat.lt_of_lt_of_le hgl hEr.below.size
        have hz : w5.frozen? ⟨g, k * 4 + 3, none⟩ = false := (ownsRow_kept HALL.out.2.1 fun k e => hEr.below.block k ((HALL.out.2.1.lt k e).2)).frozenAt _
        go_wp2_with fail
        refine bodyPost_ret (results_none rfl _ _ _) rfl ?_
        have hgd := HO.out
        rw [hp] at hgd
        obtain ⟨h1, h2⟩ := row_wrote (v := v) HALL.out.2.1 hlt hgd hEr.below
        have hgu : u ≠ g := fun e => HALL.out.2.2.1 (by simp [Value.ownBlock, e])
        have hlen : (setL l (a, b, d) v).length = l.length := by rw [setL_hit hlt hgd HG.out]; simp; omega
        have hb1 : Blk 0 w5 u vs := HALL.out.1.kept hEr.below.size (hEr.below.block u HALL.out.1.1)
        refine ⟨rfl, some ⟨g, 0, none⟩, cap, ?_, by rw [setL_hit hlt hgd HG.out]; exact h1, h2.mono fun k _ e => .inr (by simp [Value.ownBlock, e]), fun k e => .inl (by simpa [Value.ownBlock] using e)⟩
        have evs : vs.set o (.slice (some ⟨g, 0, none⟩) (setL l (a, b, d) v).length cap) = vs := by
          apply List.ext_getElem?
          intro j
          rw [List.getElem?_set]
          split
          · rename_i e; subst e; rw [HALL.out.2.2.2, hlen]
          · rfl
        rw [evs]
        exact hb1.kept (by simp) (Below.heap_setCell _ _ _ _ hgu)
      · rw [decide_eq_false hp]
        go_wp2_with fail
        exact ⟨⟨k + 1, by omega, rfl, setL_skip hlt HO.out hp HG.out, hEr⟩, by simp [intOf]; omega⟩
    · go_wp2_with fail
      have : k = l.length := by omega
      subst this
      obtain ⟨hblk, hown, hsep, hvo⟩ := HALL.out
      have hsz := hEr.below.size
      have hblk1 : Blk 0 wr u vs := hblk.kept hsz (hEr.below.block u hul)
      have hown1 : wr.ownsRow 0 89 4 (Value.slice A l.length cap) l.length (flatO l) := ownsRow_kept hown fun k e => hEr.below.block k ((hown.lt k e).2)
      have happ := run_append_lies (P := Try.prog) (wr.drew.alloc (.cells #[.int .i64 a, .int .i64 b, .int .i64 d, .int .u64 v] 89)) 27 27 0 89 i0 (.agg #[.int .i64 0, .int .i64 0, .int .i64 0, .int .u64 0]) 4 32 Try.underlying27 hi hz0 hz1 hz2 rfl (by decide)
        (Value.slice A l.length cap) l.length (flatO l) (hown1.drew.alloc _) ⟨wr.heap.size, 0, none⟩ 1 1 [.int .i64 a, .int .i64 b, .int .i64 d, .int .u64 v] rfl (cells_new _ _ _) (by simp [Value.oneCell']) (by omega) (by simp [maxLen]; omega) (by omega) (by simp) _ rfl
      obtain ⟨g, cap', W2, hrun, hown2, hgrow, hg2, hg2l⟩ := happ
      have hW1 := Below.alloc (Below.refl wr.heap.size wr.drew) (show wr.heap.size ≤ wr.drew.heap.size from Nat.le_refl _) (.cells #[.int .i64 a, .int .i64 b, .int .i64 d, .int .u64 v] 89)
      have hne2 : ∀ k, k < w.heap.size + 1 → some k ≠ (Value.slice A l.length cap).ownBlock → W2.heap[k]? = wr.heap[k]? := fun k hk hn => by
        have h1 := hEr.lt 0 rfl
        have h2 := hgrow.block k (by simp; omega) hn
        exact h2.trans (hW1.block k (by omega))
      have hblk2 : Blk 0 W2 u vs := hblk1.kept (by have := hgrow.size; simp at this; omega) (hne2 u (by omega) (fun e => hsep e.symm))
      have hgu : g ≠ u := fun e => by
        rcases hg2 with h | h
        · exact hsep (by rw [h, e])
        · rw [e] at h; simp at h; omega
      have hEd : Fr w [(w.heap.size, [.int .i64 a, .int .i64 b, .int .i64 d])] wr.drew := hEr.drew
      have hbx := hEr.2 _ (List.mem_singleton.2 rfl)
      have hB1 : Blk w.heap.size (wr.drew.alloc (.cells #[.int .i64 a, .int .i64 b, .int .i64 d, .int .u64 v] 89)) w.heap.size [.int .i64 a, .int .i64 b, .int .i64 d] := hbx.drew.more _
      have hB2 : Blk w.heap.size W2 w.heap.size [.int .i64 a, .int .i64 b, .int .i64 d] := hbx.kept (by have := hgrow.size; simp at this; omega) (hne2 _ (by omega) fun e => by
        have := (hown.lt _ e.symm).2
        omega)
      have hB3 : Blk w.heap.size (W2.setCell ⟨u, o, none⟩ (.slice (some ⟨g, 0, none⟩) (l.length + 1) cap')) w.heap.size [.int .i64 a, .int .i64 b, .int .i64 d] := hB2.kept (by simp) (Below.heap_setCell _ _ _ _ (by simp; omega))
      have HW : Hid ((∀ i, wr.drew.cell? ⟨w.heap.size, i, none⟩ = [Value.int .i64 a, .int .i64 b, .int .i64 d][i]?) ∧ (wr.drew.cell? ⟨u, o, none⟩ = some (.slice A l.length cap)) ∧ ((wr.drew.alloc (.cells #[.int .i64 a, .int .i64 b, .int .i64 d, .int .u64 v] 89)).cell? ⟨u, o, none⟩ = some (.slice A l.length cap))) := Lib.hid ⟨hbx.rule, by rw [hblk1.drew.rule o, hvo], by rw [(hblk1.drew.more _).rule o, hvo]⟩
      have HB1 := Lib.hid hB1.rule
      have HB2 : Hid ((∀ i, W2.cell? ⟨w.heap.size, i, none⟩ = [Value.int .i64 a, .int .i64 b, .int .i64 d][i]?) ∧ W2.cell? ⟨u, o, none⟩ = some (.slice A l.length cap) ∧ W2.frozen? ⟨u, o, none⟩ = false ∧ u < W2.heap.size) := Lib.hid ⟨hB2.rule, by rw [hblk2.rule o, hvo], hblk2.thaw o hol, hblk2.1⟩
      have HB3 := Lib.hid hB3.rule
      have HRUN := Lib.hid hrun
      have HEND := Lib.hid (And.intro hown2 (And.intro hgrow (And.intro hg2 (And.intro hg2l (And.intro hblk2 (And.intro hgu (And.intro hsz (And.intro hEr.below (And.intro hvo hW1)))))))))
      clear hB1 hB2 hB3 hrun hown2 hgrow hg2 hg2l hblk2 hgu hsz hblk1 hown1 hbx hEd hne2 hblk hown hsep hvo hW1 ru
      go_wp2_with fail
      refine Ord.wp_chain2 [8, 9, 12] (fun w' => ∀ i, w'.cell? ⟨w.heap.size, i, none⟩ = [Value.int .i64 a, .int .i64 b, .int .i64 d][i]?) (fun j w' => [wr.drew, wr.drew.alloc (.cells #[.int .i64 a, .int .i64 b, .int .i64 d, .int .u64 v] 89), W2, W2.setCell ⟨u, o, none⟩ (.slice (some ⟨g, 0, none⟩) (l.length + 1) cap')][j]? = some w') (by kernel_rfl) (by kernel_rfl) (by kernel_rfl) HW.out.1 rfl (fun hT => ?_)
      have hT9 := Lib.hid hT
      clear hT
      repeat (refine Ord.ch2_value (v := ?_) hT9.out (by decide) (by rfl) ?_ ?_; rotate_left; (focus (intro w5 hS; skip; go_simp <;> with_reducible rfl)); (try simp only [Act.put, List.setIfInBounds_toArray, List.set_cons_zero, List.set_cons_succ]))
      refine Ord.ch2_early 1 hT9.out (by decide) (by rfl) (by kernel_rfl) (by decide) (by rfl) (v := .slice A l.length cap) ?_ ?_
      · intro w5 j hj hS hA
        have r1 : w5.cell? ⟨u, o, none⟩ = some (.slice A l.length cap) := by
          rcases j with _ | _ | j
          · cases hA; exact HW.out.2.1
          · cases hA; exact HW.out.2.2
          · omega
        go_simp <;> with_reducible rfl
      (try simp only [Act.put, List.setIfInBounds_toArray, List.set_cons_zero, List.set_cons_succ])
      repeat (refine Ord.ch2_value (v := ?_) hT9.out (by decide) (by rfl) ?_ ?_; rotate_left; (focus (intro w5 hS; skip; go_simp <;> with_reducible rfl)); (try simp only [Act.put, List.setIfInBounds_toArray, List.set_cons_zero, List.set_cons_succ]))
      refine Ord.ch2_turn 0 hT9.out (by rfl) (by decide) (Or.inl rfl) (by rfl) (v := .slice (some ⟨wr.heap.size, 0, none⟩) 1 1) ?_ ?_
      · intro w5 hS hA
        cases hA
        go_simp
        simp only [Ord.LandsIn]
        exact ⟨trivial, HB1.out, trivial⟩
      (try simp only [Act.put, List.setIfInBounds_toArray, List.set_cons_zero, List.set_cons_succ])
      refine Ord.ch2_turn 1 hT9.out (by rfl) (by decide) (Or.inr ⟨_, rfl, by kernel_rfl⟩) (by rfl) (v := .slice (some ⟨g, 0, none⟩) (l.length + 1) cap') ?_ ?_
      · intro w5 hS hA
        cases hA
        refine append_lands rfl HRUN.out (by rfl) (by rfl) ⟨HB2.out.1, rfl⟩
      (try simp only [Act.put, List.setIfInBounds_toArray, List.set_cons_zero, List.set_cons_succ])
      repeat (refine Ord.ch2_value (v := ?_) hT9.out (by decide) (by rfl) ?_ ?_; rotate_left; (focus (intro w5 hS; skip; go_simp <;> with_reducible rfl)); (try simp only [Act.put, List.setIfInBounds_toArray, List.set_cons_zero, List.set_cons_succ]))
      refine Ord.ch2_turn 2 hT9.out (by rfl) (by decide) (Or.inr ⟨_, rfl, by kernel_rfl⟩) (by rfl) (v := undef) ?_ ?_
      · intro w5 hS hA
        cases hA
        obtain ⟨-, r1, z1, hcl⟩ := HB2.out
        go_simp
        exact ⟨rfl, HB3.out, rfl⟩
      (try simp only [Act.put, List.setIfInBounds_toArray, List.set_cons_zero, List.set_cons_succ])
      refine Ord.InText.nil fun w5 hS => ?_
      clear hT9
      obtain ⟨hC, hA⟩ := Ord.chain2_end hS
      clear hS
      cases hA
      go_wp2_with fail
      go_end0
      obtain ⟨hown2, hgrow, hg2, hg2l, hblk2, hgu, hsz, hbel, hvo, hW1⟩ := HEND.out
      have e2 : setL l (a, b, d) v = l ++ [((a, b, d), v)] := by simpa [setL] using HG.out
      rw [e2, flatO_append, List.length_append]
      refine ⟨rfl, some ⟨g, 0, none⟩, cap', hblk2.set hol _, ownsRow_setCell_other hown2 (by simp [Value.ownBlock, hgu]) _, ?_, fun k e => ?_⟩
      · exact (((((Turn.of_below hbel : Turn (fun k => k = u ∨ (Value.slice A l.length cap).ownBlock = some k) w wr).drew).alloc _).grown hgrow (fun k hk e => .inr e)).setCell (p := ⟨u, o, none⟩) (fun _ => .inl rfl) _)
      · rcases hg2 with h | h
        · exact .inl (by rw [h]; simpa [Value.ownBlock] using e)
        · right
          have : k = g := by simpa [Value.ownBlock, eq_comm] using e
          rw [this, h]; simp; omega
theorem refSet_any {u : Nat} {F : Nat → Prop} {l : List OneR} {w : World} (a b d v : Int) (hl : l.length ≤ 1000000) (hU : IsU w u F l) :
    Calls Try.prog 34 #[.pointer (some ⟨u, 0, none⟩), .agg #[.int .i64 a, .int .i64 b, .int .i64 d], .int .u64 v] w fun e w' => e = .returned (.tuple #[]) ∧ ∃ F', IsU w' u F' (setL l (a, b, d) v) ∧ Step F F' w w' := by
  obtain ⟨A, cap, hblk, hown, hsep, hF⟩ := hU.full
  refine (refSet_at a b d v hl hblk rfl hown hsep).mono ?_
  rintro e w' ⟨he, A', cap', h1, h2, h3, h4⟩
  have hu : u < w.heap.size := hblk.1
  refine ⟨he, fun k => k = u ∨ (Value.slice A' (setL l (a, b, d) v).length cap').ownBlock = some k, ⟨_, h1, h2, fun e => ?_, fun k => Iff.rfl⟩, h3.mono fun k _ e => (hF k).2 e, fun k hk => ?_⟩
  · rcases h4 u e with h | h
    · exact hsep h
    · omega
  · rcases hk with rfl | hk
    · exact .inl ((hF _).2 (.inl rfl))
    · rcases h4 k hk with h | h
      · exact .inl ((hF _).2 (.inr h))
      · exact .inr h
theorem IsU.over {w w' : World} {u : Nat} {F : Nat → Prop} {l : List OneR} (h : IsU w u F l) (hb : Below w.heap.size w w') : IsU w' u F l := (refI u F l).loc w w' h (fun k hk => hb.block k (h.lt k hk)) hb.size
end Go.Proofs.Ytnlepgbmbdmjbaa
