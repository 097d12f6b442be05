/- The reference's souls: Slots. -/
import Derived.Test.YtlefhcaoblenaaaSoulR
import Derived.Test.YtlefhcaoblenaaaOrdB
namespace Go.Proofs.Ytlefhcaoblenaaa
open Go.RowKit

/-- m are the slots of the first k births, rising. -/
def okZ (l : List Int) (k : Nat) (m : List Int) : Prop := SlotsOf (l.take k) m ∧ m.length ≤ k
theorem take_snoc {l : List Int} {k : Nat} (hk : k < l.length) : l.take (k + 1) = l.take k ++ [l.getD k 0] := by
  rw [List.take_succ_eq_append_getElem hk]; simp [hk]
theorem okZ.skip {l : List Int} {k : Nat} {m : List Int} (h : okZ l k m) (hk : k < l.length) (h0 : l.getD k 0 ∈ l.take k) : okZ l (k + 1) m := by
  refine ⟨⟨h.1.1, fun x => ?_⟩, by have := h.2; omega⟩
  rw [h.1.2 x, take_snoc hk, List.mem_append, List.mem_singleton]
  exact ⟨.inl, fun e => e.elim id fun e => e ▸ h0⟩
theorem okZ.new {l : List Int} {k : Nat} {m : List Int} (h : okZ l k m) (h0 : l.getD k 0 ∉ l.take k) : l.getD k 0 ∉ m := fun hx => h0 ((h.1.2 _).1 hx)
theorem okZ.put {l : List Int} {k j : Nat} {m : List Int} (h : okZ l k m) (hk : k < l.length) (hj : j ≤ m.length) (hr : Rises (insZ m j (l.getD k 0))) : okZ l (k + 1) (insZ m j (l.getD k 0)) := by
  refine ⟨⟨hr, fun x => ?_⟩, by have := h.2; rw [insZ_length m j hj]; omega⟩
  rw [mem_insZ, h.1.2 x, take_snoc hk, List.mem_append, List.mem_singleton]
  exact ⟨fun e => e.elim .inr .inl, fun e => e.elim .inr .inl⟩
/-- Whether a birth is its slot's first. -/
theorem ids_first {l : List Int} {k : Nat} (hk : k < l.length) : ∃ i0 r, ids l (l.getD k 0) = i0 :: r ∧ (i0 = (k : Int) + 1 ↔ l.getD k 0 ∉ l.take k) := by
  have hx : l = l.take k ++ l.getD k 0 :: l.drop (k + 1) := by
    conv => lhs; rw [← List.take_append_drop k l, List.drop_eq_getElem_cons hk]
    simp [hk]
  have gen : ∀ (a b : List Int) (x : Int) (n : Nat), ∃ i0 r, idsFrom n (a ++ x :: b) x = i0 :: r ∧ (i0 = ((n + a.length : Nat) : Int) ↔ x ∉ a) := by
    intro a
    induction a with
    | nil => intro b x n; exact ⟨n, idsFrom (n + 1) b x, by simp [idsFrom], by simp⟩
    | cons y a ih =>
      intro b x n
      by_cases hy : y = x
      · subst hy
        exact ⟨n, idsFrom (n + 1) (a ++ y :: b) y, by simp [idsFrom], by simp; omega⟩
      · obtain ⟨i0, r, h1, h2⟩ := ih b x (n + 1)
        refine ⟨i0, r, by simp [idsFrom, hy, h1], ?_⟩
        rw [show n + (y :: a).length = n + 1 + a.length by simp; omega, h2, List.mem_cons]
        exact ⟨fun h => fun e => e.elim (fun e => hy e.symm) h, fun h e => h (.inr e)⟩
  obtain ⟨i0, r, h1, h2⟩ := gen (l.take k) (l.drop (k + 1)) (l.getD k 0) 1
  rw [← hx] at h1
  refine ⟨i0, r, h1, ?_⟩
  rw [← h2, List.length_take, Nat.min_eq_left (Nat.le_of_lt hk)]
  constructor <;> intro h <;> omega

set_option maxRecDepth 100000 in
set_option maxHeartbeats 6400000 in
theorem rslots_any {u : Nat} {F : Nat → Prop} {l : List Int} {w : World} (hl : l.length ≤ 100000) (hR : IsR w u F l) :
    Calls Try.prog 18 #[.pointer (some ⟨u, 0, none⟩)] w fun e w' => ∃ A cap m, e = .returned (.slice A m.length cap) ∧ SlotsOf l m ∧ m.length ≤ l.length ∧ w'.ownsRow w.heap.size 3 1 (.slice A m.length cap) m.length (ints m) ∧ Below w.heap.size w w' := by
  obtain ⟨A, c, r0, hul, hrow⟩ := hR.full
  obtain ⟨i0, hi, hz0, hz1, hz2⟩ := info_parts infoInt
  have HROW := Lib.hid hrow
  have HB : Hid (∀ w', Below w.heap.size w w' → ∀ i, w'.cell? ⟨u, i, none⟩ = [Value.slice A l.length c][i]?) := Lib.hid fun w' hb i => by rw [hb.cell (p := ⟨u, i, none⟩) hul]; exact r0 i
  have HALL : Hid (∀ w' x, Below w.heap.size w w' → Calls Try.prog 15 #[.pointer (some ⟨u, 0, none⟩), .int .i64 x] w' fun e w'' => ∃ g cap, e = .returned (.slice (some ⟨g, 0, none⟩) (ids l x).length cap) ∧ w''.ownsRow w'.heap.size 3 1 (.slice (some ⟨g, 0, none⟩) (ids l x).length cap) (ids l x).length (ints (ids l x)) ∧ Below w'.heap.size w' w'') := Lib.hid fun w' x hb => rall_any x hl (hR.over (hb.mono (Nat.le_refl _)))
  have hown0 : (w.alloc (.cells #[] 3)).ownsRow w.heap.size 3 1 (.slice (some ⟨w.heap.size, 0, none⟩) 0 0) 0 [] := ⟨rfl, .inr ⟨w.heap.size, 0, #[], rfl, Nat.le_refl _, heap_alloc_new w _, Nat.le_refl _, Nat.zero_le _, rfl, rfl⟩⟩
  have hB0 : Below w.heap.size w (w.alloc (.cells #[] 3)) := (Below.refl _ w).alloc (Nat.le_refl _) _
  clear hrow r0 hR
  go_enter Try.func18, Try.ntmps18
  go_wp2_with fail
  go_loopw [3, 4] (fun v i wr => ∃ (k : Nat) (m : List Int), k ≤ l.length ∧ i = .int .i64 k ∧ okZ l k m ∧ wr.ownsRow w.heap.size 3 1 v m.length (ints m) ∧ Below w.heap.size w wr) (fun _ i _ => l.length - (intOf i).toNat)
  case atStart => exact ⟨0, [], by omega, rfl, ⟨⟨List.Pairwise.nil, fun x => by simp⟩, by simp⟩, hown0, hB0⟩
  case round =>
    obtain ⟨k, m, hk, rfl, hm, hrw, hBr⟩ := hrel
    have ru := HB.out _ hBr
    clear hown0 hB0
    by_cases hlt : k < l.length
    · rcases HROW.out with h0 | ⟨g0, rfl, hgl, hc⟩
      · rw [h0] at hlt; simp at hlt
      have HC : Hid (∀ w', Below w.heap.size w w' → w'.cell? ⟨g0, k, none⟩ = some (.int .i64 (l.getD k 0))) := Lib.hid fun w' hb => by rw [hb.cell (p := ⟨g0, k, none⟩) hgl]; exact hc k hlt
      clear hc
      obtain ⟨i1, r1, hids, hfirst⟩ := ids_first hlt
      have hskip := hm.skip hlt
      have hnew := hm.new
      have hput := fun j => hm.put (j := j) hlt
      have hml : m.length ≤ k := hm.2
      have HM := Lib.hid hm.1.1
      have HF := Lib.hid hfirst
      have HSKIP := Lib.hid hskip
      have HNEW := Lib.hid hnew
      have HPUT := Lib.hid hput
      have HIDS := Lib.hid hids
      clear hm hfirst hskip hnew hput hids
      generalize l.getD k 0 = x at *
      have hcx := HC.out _ hBr
      have hlen1 : (ids l x).length = r1.length + 1 := by rw [HIDS.out]; simp
      have hget : (ids l x).getD 0 0 = i1 := by rw [HIDS.out]; rfl
      have hgt : decide (((r1.length : Int) + 1) > 0) = true := by rw [decide_eq_true_iff]; omega
      have hw : wrap64 ((k : Int) + 1) = (k : Int) + 1 := w64 _ (by omega)
      go_wp2_with fail
      refine (HALL.out wr x hBr).mono ?_
      rintro e w1 ⟨g1, cap1, rfl, -, hb1⟩
      rw [hlen1]
      have hBr1 := hBr.trans (hb1.mono hBr.size)
      have hrw1 : w1.ownsRow w.heap.size 3 1 u3 m.length (ints m) := ownsRow_kept hrw fun k e => hb1.block k (hrw.lt k e).2
      have ru1 := HB.out _ hBr1
      have hcx1 := HC.out _ hBr1
      clear ru hcx hrw hBr hb1
      go_wp2_with fail
      refine (HALL.out w1 x hBr1).mono ?_
      rintro e w2 ⟨g2, cap2, rfl, ho2, hb2⟩
      have hi0 : w2.cell? ⟨g2, 0, none⟩ = some (.int .i64 i1) := by
        rcases cells1 ho2 with h0 | ⟨g', hgg, hg, hc⟩
        · rw [h0] at hlen1; simp at hlen1
        · obtain rfl : g2 = g' := by simpa using hgg
          rw [← hget]
          exact hc 0 (by omega)
      rw [hlen1]
      have hBr2 := hBr1.trans (hb2.mono hBr1.size)
      have hrw2 : w2.ownsRow w.heap.size 3 1 u3 m.length (ints m) := ownsRow_kept hrw1 fun k e => hb2.block k (hrw1.lt k e).2
      have ru2 := HB.out _ hBr2
      have hcx2 := HC.out _ hBr2
      clear ru1 hcx1 hrw1 hBr1 hb2 ho2 hlen1 hget
      have hin0 : (0 : Int) < (r1.length : Int) + 1 := by omega
      by_cases hf : i1 = (k : Int) + 1
      · obtain ⟨A3, cap3, rfl⟩ := ownsRow_slice hrw2
        obtain ⟨v', w3, hrun, hown3, hgrow, hv'⟩ := run_append_rows (P := Try.prog) 22 22 w.heap.size 3 i0 (.int .i64 0) 1 8 Try.underlying22 hi hz0 hz1 hz2 rfl (by decide) _ _ _ _ (hrw2.alloc (.cells #[.int .i64 x] 3)) (some ⟨w2.heap.size, 0, none⟩) 1 1 [.int .i64 x] rfl
          (.inr ⟨_, rfl, cells_new _ _ _⟩) (by simp [Value.oneCell']) (by simp [maxLen]; omega) (by omega) (by have := hBr2.size; simp; omega)
        obtain ⟨b, cap', rfl, hwb, hbl⟩ := hown3.form (by omega)
        have hB3 : Below w.heap.size w w3 := by
          have h1 := hBr2.alloc hBr2.size (.cells #[.int .i64 x] 3)
          exact Turn.below h1 (T := fun k => (Value.slice A3 m.length cap3).ownBlock = some k) ⟨hgrow.os, hgrow.tape, hgrow.output, hgrow.size, fun k hk hn => hgrow.block k hk (fun e => hn e.symm)⟩ h1.size fun k hk => (hrw2.lt k hk).1
        have hfe : (i1 == (k : Int) + 1) = true := by simpa using hf
        have hnx := HNEW.out (HF.out.1 hf)
        have HNX := Lib.hid hnx
        have HRUN := Lib.hid hrun
        clear hf hnx hrun
        go_wp2_with (first | (at_builtin; refine wpList_append_run rfl _ _ 22 rfl HRUN.out rfl rfl ?_))
        have hown4 : w3.ownsRow w.heap.size 3 1 (.slice (some ⟨b, 0, none⟩) (m.length + 1) cap') (m.length + 1) (ints (insZ m m.length x)) := by
          rw [insZ_end, ints_append]; exact hown3
        clear HRUN hown3 hgrow hv' hrw2 ru2 hcx2 hi0 hBr2
        go_loopw [5] (fun kk wq => ∃ j : Nat, j ≤ m.length ∧ kk = .int .i64 j ∧ (∀ t ∈ m.drop j, x < t) ∧ wq.ownsRow w.heap.size 3 1 (.slice (some ⟨b, 0, none⟩) (m.length + 1) cap') (m.length + 1) (ints (insZ m j x)) ∧ Below w.heap.size w wq) (fun kk _ => (intOf kk).toNat)
        case atStart => exact ⟨m.length, Nat.le_refl _, by simp, by simp, hown4, hB3⟩
        case round =>
          obtain ⟨j, hj, rfl, hd, ho3, hBq⟩ := hrel
          clear hown4 hB3
          rcases j with _ | j
          · go_wp2_with fail
            refine Ord.wp_chain [] (fun w' => w'.ownsRow w.heap.size 3 1 (.slice (some ⟨b, 0, none⟩) (m.length + 1) cap') (m.length + 1) (ints (insZ m 0 x)) ∧ Below w.heap.size w w') (fun _ _ => True) (by kernel_rfl) (by kernel_rfl) (by kernel_rfl) (And.intro ho3.drew hBq.drew) trivial (fun hT => ?_)
            have hT9 := Lib.hid hT
            clear hT
            repeat (first
              | (refine Ord.ch_value (v := ?_) hT9.out (by decide) (by rfl) ?_ ?_; rotate_left; (focus (intro w5 hS; skip; go_simp <;> with_reducible rfl)); (try simp only [Act.put, List.setIfInBounds_toArray, List.set_cons_zero, List.set_cons_succ]))
              | (refine Ord.ch_off hT9.out (by decide) (by rfl) ?_; (try simp only [Act.put, List.setIfInBounds_toArray, List.set_cons_zero, List.set_cons_succ]))
              | (refine Ord.ch_call (v := ?_) (f := ?_) (args := ?_) hT9.out (by decide) (by rfl) ?_ ?_ ?_; rotate_left 3; (focus (intro w5 hS; skip; go_simp; constructor <;> with_reducible rfl)); (focus (intro w5 hS; (first | fail))); (try simp only [Act.put, List.setIfInBounds_toArray, List.set_cons_zero, List.set_cons_succ])))
            refine Ord.InText.nil fun w5 hS => ?_
            clear hT9
            obtain ⟨hC, hA⟩ := Ord.chain_end hS
            clear hS
            clear hA
            go_wp2_with fail
            have hins := HPUT.out 0 hj (rises_insZ HM.out hj HNX.out hd (.inl rfl))
            exact ⟨⟨k + 1, _, by omega, by simp, hins, by rw [insZ_length m _ hj]; exact hC.1, hC.2⟩, by simp [intOf]; omega⟩
          · have HCELL : Hid (∀ w' : World, w'.ownsRow w.heap.size 3 1 (.slice (some ⟨b, 0, none⟩) (m.length + 1) cap') (m.length + 1) (ints (insZ m (j + 1) x)) →
                (w'.cell? ⟨b, j + 1, none⟩ = some (.int .i64 x) ∧ w'.cell? ⟨b, j, none⟩ = some (.int .i64 (m.getD j 0)))) := Lib.hid fun w' h => by
              have hlen := insZ_length m (j + 1) hj x
              have h' : w'.ownsRow w.heap.size 3 1 (.slice (some ⟨b, 0, none⟩) (insZ m (j + 1) x).length cap') (insZ m (j + 1) x).length (ints (insZ m (j + 1) x)) := by rw [hlen]; exact h
              rcases cells1 h' with h0 | ⟨g', hgg, hg, hc⟩
              · rw [h0] at hlen; simp at hlen
              · obtain rfl : b = g' := by simpa using hgg
                have e1 := hc (j + 1) (by omega)
                have e2 := hc j (by omega)
                rw [insZ_self m (j + 1) hj] at e1
                rw [insZ_prev m j (by omega)] at e2
                exact ⟨e1, e2⟩
            obtain ⟨y, hy⟩ : ∃ y, m.getD j 0 = y := ⟨_, rfl⟩
            rw [hy] at HCELL
            have HY := Lib.hid hy
            clear hy
            have q1 : j < m.length := by omega
            have q2 : (0 : Int) ≤ (j : Int) + 1 := by omega
            have q3 : j < m.length + 1 := by omega
            have q4 : j ≤ m.length := by omega
            have q7 : IntKind.i64.wrap (j : Int) = (j : Int) := by rw [IntKind.wrap_i64]; omega
            have q5 : (j : Int) ≤ (m.length : Int) := by omega
            have q6 : (j : Int) < (m.length : Int) + 1 := by omega
            go_wp2_with fail
            refine Ord.wp_chain [] (fun w' => w'.ownsRow w.heap.size 3 1 (.slice (some ⟨b, 0, none⟩) (m.length + 1) cap') (m.length + 1) (ints (insZ m (j + 1) x)) ∧ Below w.heap.size w w') (fun _ _ => True) (by kernel_rfl) (by kernel_rfl) (by kernel_rfl) (And.intro ho3.drew hBq.drew) trivial (fun hT => ?_)
            have hT9 := Lib.hid hT
            clear hT
            repeat (first
              | (refine Ord.ch_value (v := ?_) hT9.out (by decide) (by rfl) ?_ ?_; rotate_left; (focus (intro w5 hS; obtain ⟨c0, c1⟩ := HCELL.out _ hS.1; go_simp <;> with_reducible rfl)); (try simp only [Act.put, List.setIfInBounds_toArray, List.set_cons_zero, List.set_cons_succ]))
              | (refine Ord.ch_off hT9.out (by decide) (by rfl) ?_; (try simp only [Act.put, List.setIfInBounds_toArray, List.set_cons_zero, List.set_cons_succ]))
              | (refine Ord.ch_call (v := ?_) (f := ?_) (args := ?_) hT9.out (by decide) (by rfl) ?_ ?_ ?_; rotate_left 3; (focus (intro w5 hS; obtain ⟨c0, c1⟩ := HCELL.out _ hS.1; go_simp; constructor <;> with_reducible rfl)); (focus (intro w5 hS; (first | fail))); (try simp only [Act.put, List.setIfInBounds_toArray, List.set_cons_zero, List.set_cons_succ])))
            refine Ord.InText.nil fun w5 hS => ?_
            clear hT9
            obtain ⟨hC, hA⟩ := Ord.chain_end hS
            clear hS
            clear hA
            obtain ⟨c0, c1⟩ := HCELL.out _ hC.1
            by_cases hL : x < y
            · have hL1 : decide (x < y) = true := by simpa using hL
              rw [hL1]
              have hb5 : b < w5.heap.size := (hC.1.lt b rfl).2
              have zW : ∀ i, w5.frozen? ⟨b, i, none⟩ = false := fun i => hC.1.frozenAt i
              have HL := Lib.hid hL
              clear hL
              go_wp2_with fail
              have hx := insZ_exch m j q1 x
              rw [HY.out] at hx
              refine ⟨⟨j, by omega, rfl, fun t ht => ?_, ?_, ?_⟩, by simp [intOf]⟩
              · rw [List.drop_eq_getElem_cons q1] at ht
                rcases List.mem_cons.1 ht with rfl | ht
                · have : m[j] = y := by rw [← HY.out]; simp [q1]
                  rw [this]; exact HL.out
                · exact hd t ht
              · rw [← hx]
                exact ((hC.1.stored _ _).1.stored _ _).1
              · exact Turn.below hC.2 (((Turn.refl (fun k => k = b) w5).setCell (p := ⟨b, _, none⟩) (fun _ => rfl) _).setCell (p := ⟨b, _, none⟩) (fun _ => rfl) _) hC.2.size fun k hk => by subst hk; exact hwb
            · have hL1 : decide (x < y) = false := by simpa using hL
              rw [hL1]
              have HL := Lib.hid hL
              clear hL
              go_wp2_with fail
              have hins := HPUT.out (j + 1) hj (rises_insZ HM.out hj HNX.out hd (.inr (by rw [Nat.add_sub_cancel, HY.out]; exact HL.out)))
              exact ⟨⟨k + 1, _, by omega, by simp, hins, by rw [insZ_length m _ hj]; exact hC.1, hC.2⟩, by simp [intOf]; omega⟩
      · have hfe : (i1 == (k : Int) + 1) = false := by simpa using hf
        have hsk : okZ l (k + 1) m := HSKIP.out (Classical.byContradiction fun h => hf (HF.out.2 h))
        have HSK := Lib.hid hsk
        clear hf hsk
        go_wp2_with fail
        exact ⟨⟨k + 1, m, by omega, by simp, HSK.out, hrw2, hBr2⟩, by simp [intOf]; omega⟩
    · go_wp2_with fail
      have : k = l.length := by omega
      subst this
      go_ret
      have hm1 := hm.1
      rw [List.take_length] at hm1
      obtain ⟨A2, c2, rfl⟩ := ownsRow_slice hrw
      exact ⟨A2, c2, m, rfl, hm1, hm.2, hrw, hBr⟩
end Go.Proofs.Ytlefhcaoblenaaa
