/- What is proved on the way to the statement, part 9 of 11: contracts of the functions, among other things in memory. -/
import Derived.Test.YtchcdfoncebemaaGreatDoorH8
import Derived.Shelf.SlSortCmp.NoneTotal
import Derived.Shelf.SlMaps.Clone
import Derived.Shelf.SlMaps.Equal
import Derived.Shelf.SlicesG.Cmp
import Derived.Shelf.SlGeneric
import Derived.Ground.SlsfProg
import Derived.Ground.SlmeProg
import Derived.Ground.SlgcProg
import Derived.Test.YtchcdfoncebemaaGreatDoorProg
import Derived.LoopN
import Derived.RangeFuncNested
import Derived.RangeFuncBound
import Derived.RangeFuncCalls
import Derived.RangeFuncLeaves
import Derived.OwnWalkIn
import Derived.TacticsInMore
import Derived.LoopNIn
import Derived.LoopIn
import Derived.Maps.AppendAt
import Derived.Sort.MapsRangeIn
import Derived.Laws.IdiomRangeMap

/- The reference's places, in their order: the walk. -/
namespace Go.Proofs.YtchcdfoncebemaaGreatDoor
open Go.RowKit Go.Maps Go.Sort
set_option maxRecDepth 100000

def okM (l : List OneR) (k : Nat) (m : List Plc) : Prop := Rising m ∧ m.length ≤ k ∧ ∀ x, x ∈ m ↔ ∃ v, (x, v) ∈ l.take k ∧ v ≠ 0
theorem okM.skip {l : List OneR} {k : Nat} {m : List Plc} (h : okM l k m) (hk : k < l.length) (h0 : (l.getD k dO).2 = 0) : okM l (k + 1) m := by
  refine ⟨h.1, by have := h.2.1; omega, fun x => ?_⟩
  rw [h.2.2 x, List.take_succ_eq_append_getElem hk]
  have e : l[k].2 = 0 := by simpa [hk] using h0
  constructor
  · rintro ⟨v, hv, hne⟩; exact ⟨v, List.mem_append.2 (.inl hv), hne⟩
  · rintro ⟨v, hv, hne⟩
    rcases List.mem_append.1 hv with hv | hv
    · exact ⟨v, hv, hne⟩
    · rw [← List.mem_singleton.1 hv] at e; exact absurd e hne
theorem okM.new {l : List OneR} {k : Nat} {m : List Plc} (h : okM l k m) (hnd : (l.map (·.1)).Nodup) (hk : k < l.length) : (l.getD k dO).1 ∉ m := by
  intro hx
  obtain ⟨v, hv, _⟩ := (h.2.2 _).1 hx
  obtain ⟨i, hi, he⟩ := List.getElem_of_mem hv
  have hi' : i < k := by simp at hi; omega
  have e1 : l[i].1 = l[k].1 := by
    have : (l.take k)[i] = l[i] := List.getElem_take
    rw [this] at he
    have e2 : l.getD k dO = l[k] := by simp [hk]
    rw [he, ← e2]
  have := (List.pairwise_iff_getElem.1 hnd) i k (by simp; omega) (by simpa using hk) hi'
  simp at this
  exact this e1
theorem okM.put {l : List OneR} {k j : Nat} {m : List Plc} (h : okM l k m) (hk : k < l.length) (h0 : (l.getD k dO).2 ≠ 0) (hj : j ≤ m.length) (hr : Rising (insAt m j (l.getD k dO).1)) : okM l (k + 1) (insAt m j (l.getD k dO).1) := by
  refine ⟨hr, by have := h.2.1; rw [insAt_length m j hj]; omega, fun x => ?_⟩
  have e2 : l.getD k dO = l[k] := by simp [hk]
  rw [mem_insAt, h.2.2 x, List.take_succ_eq_append_getElem hk, e2]
  rw [e2] at h0
  constructor
  · rintro (rfl | ⟨v, hv, hne⟩)
    · exact ⟨l[k].2, List.mem_append.2 (.inr (List.mem_singleton.2 rfl)), h0⟩
    · exact ⟨v, List.mem_append.2 (.inl hv), hne⟩
  · rintro ⟨v, hv, hne⟩
    rcases List.mem_append.1 hv with hv | hv
    · exact .inr ⟨v, hv, hne⟩
    · exact .inl (by rw [← List.mem_singleton.1 hv])

set_option maxRecDepth 100000 in
set_option maxHeartbeats 6400000 in
theorem refPlaces_any {u : Nat} {F : Nat → Prop} {l : List OneR} {w : World} (hl : l.length ≤ 1000000) (hnd : (l.map (·.1)).Nodup) (hU : IsU w u F l) :
    Calls Tryz.prog 49 #[.pointer (some ⟨u, 0, none⟩)] w fun e w' => ∃ m v, e = .returned v ∧ PlacesOf (getL l) m ∧ m.length ≤ l.length ∧ w'.ownsRow w.heap.size 58 3 v m.length (flatP m) ∧ Below w.heap.size w w' := by
  obtain ⟨A, cap, hblk, hown, hsep, hF⟩ := hU.full
  have hrow := ownsRow_words hown
  have hul := hblk.1
  obtain ⟨i0, hi, hz0, hz1, hz2⟩ := info_parts infoPlace
  have HROW := Lib.hid hrow
  have HB : Hid (∀ w', Below w.heap.size w w' → ∀ i, w'.cell? ⟨u, i, none⟩ = [Value.slice A l.length cap][i]?) := Lib.hid fun w' hb i => by rw [hb.cell (p := ⟨u, i, none⟩) hul]; exact hblk.rule i
  clear hrow hblk hown hsep hF
  have hown0 : (w.alloc (.cells #[] 58)).ownsRow w.heap.size 58 3 (.slice (some ⟨w.heap.size, 0, none⟩) 0 0) 0 [] := ⟨rfl, .inr ⟨w.heap.size, 0, #[], rfl, Nat.le_refl _, heap_alloc_new w _, Nat.le_refl _, Nat.zero_le _, rfl, rfl⟩⟩
  have hB0 : Below w.heap.size w (w.alloc (.cells #[] 58)) := (Below.refl _ w).alloc (Nat.le_refl _) _
  go_enter Tryz.func49, Tryz.ntmps49
  go_wp2_with fail
  go_loopw [3, 4] (fun v i wr => ∃ (k : Nat) (m : List Plc), k ≤ l.length ∧ i = .int .i64 k ∧ okM l k m ∧ wr.ownsRow w.heap.size 58 3 v m.length (flatP m) ∧ Below w.heap.size w wr) (fun _ i _ => l.length - (intOf i).toNat)
  case atStart => exact ⟨0, [], by omega, rfl, ⟨List.Pairwise.nil, by simp, by simp⟩, hown0, hB0⟩
  case round =>
    obtain ⟨k, m, hk, rfl, hm, hrw, hBr⟩ := hrel
    have ru := HB.out _ hBr
    clear hown0 hB0
    by_cases hlt : k < l.length
    · rcases HROW.out with h0 | ⟨g, rfl, hgl, hc⟩
      · rw [h0] at hlt; simp at hlt
      obtain ⟨c0, c1, c2, c3⟩ := hc k hlt
      clear hc
      generalize ho : l.getD k dO = o at c0 c1 c2 c3
      obtain ⟨⟨x, y, z⟩, v0⟩ := o
      simp only at c0 c1 c2 c3
      have HC : Hid (∀ w', Below w.heap.size w w' → (w'.cell? ⟨g, k * 4, none⟩ = some (.int .i64 x) ∧ w'.cell? ⟨g, k * 4 + 1, none⟩ = some (.int .i64 y) ∧ w'.cell? ⟨g, k * 4 + 2, none⟩ = some (.int .i64 z) ∧ w'.cell? ⟨g, k * 4 + 3, none⟩ = some (.int .u64 v0))) := Lib.hid fun w' hb => by
        refine ⟨?_, ?_, ?_, ?_⟩
        · rw [hb.cell (p := ⟨g, k * 4, none⟩) hgl]; exact c0
        · rw [hb.cell (p := ⟨g, k * 4 + 1, none⟩) hgl]; exact c1
        · rw [hb.cell (p := ⟨g, k * 4 + 2, none⟩) hgl]; exact c2
        · rw [hb.cell (p := ⟨g, k * 4 + 3, none⟩) hgl]; exact c3
      have HO := Lib.hid ho
      clear c0 c1 c2 c3 ho
      obtain ⟨c0, c1, c2, c3⟩ := HC.out _ hBr
      by_cases hv0 : v0 = 0
      · subst hv0
        go_wp2_with fail
        exact ⟨⟨k + 1, m, by omega, rfl, hm.skip hlt (by rw [HO.out]), hrw, hBr⟩, by simp [intOf]; omega⟩
      · have hml : m.length ≤ k := hm.2.1
        obtain ⟨A3, cap3, rfl⟩ := ownsRow_slice hrw
        obtain ⟨v', w2, hrun, hown2, hgrow, hv'⟩ := run_append_rows (P := Tryz.prog) 102 102 w.heap.size 58 i0 (.agg #[.int .i64 0, .int .i64 0, .int .i64 0]) 3 24 Tryz.underlying102 hi hz0 hz1 hz2 rfl (by decide) _ _ _ _ (hrw.alloc (.cells #[.int .i64 x, .int .i64 y, .int .i64 z] 58)) (some ⟨wr.heap.size, 0, none⟩) 1 1 [.int .i64 x, .int .i64 y, .int .i64 z] rfl
          (.inr ⟨_, rfl, cells_new _ _ _⟩) (by simp [Value.oneCell']) (by simp [maxLen]; omega) (by omega) (by have := hBr.size; simp; omega)
        obtain ⟨b, cap', rfl, hwb, hbl⟩ := hown2.form (by omega)
        have hB2 : Below w.heap.size w w2 := by
          have h1 := hBr.alloc hBr.size (.cells #[.int .i64 x, .int .i64 y, .int .i64 z] 58)
          exact Turn.below h1 (T := fun k => (Value.slice A3 m.length cap3).ownBlock = some k) ⟨hgrow.os, hgrow.tape, hgrow.output, hgrow.size, fun k hk hn => hgrow.block k hk (fun e => hn e.symm)⟩ h1.size fun k hk => (hrw.lt k hk).1
        go_wp2_with (first | (at_builtin; refine wpList_append_run rfl _ _ 102 rfl hrun rfl rfl ?_))
        have hown3 : w2.ownsRow w.heap.size 58 3 (.slice (some ⟨b, 0, none⟩) (m.length + 1) cap') (m.length + 1) (flatP (insAt m m.length (x, y, z))) := by
          have e : flatP (insAt m m.length (x, y, z)) = flatP m ++ [.int .i64 x, .int .i64 y, .int .i64 z] := by unfold insAt; simp [flatP, encP]
          rw [e]; exact hown2
        clear hrun hown2 hgrow hv' hrw c0 c1 c2 c3 ru
        have HM := Lib.hid hm
        clear hm
        go_loopw [5] (fun kk wq => ∃ j : Nat, j ≤ m.length ∧ kk = .int .i64 j ∧ (∀ t ∈ m.drop j, ltOf cmpP (x, y, z) t = true) ∧ wq.ownsRow w.heap.size 58 3 (.slice (some ⟨b, 0, none⟩) (m.length + 1) cap') (m.length + 1) (flatP (insAt m j (x, y, z))) ∧ Below w.heap.size w wq) (fun kk _ => (intOf kk).toNat)
        case atStart => exact ⟨m.length, Nat.le_refl _, by simp, by simp, hown3, hB2⟩
        case round =>
          obtain ⟨j, hj, rfl, hd, ho3, hBq⟩ := hrel
          clear hown3 hB2
          have HC8 : Hid (∀ w6 w7 : World, (w6.ownsRow w.heap.size 58 3 (.slice (some ⟨b, 0, none⟩) (m.length + 1) cap') (m.length + 1) (flatP (insAt m j (x, y, z))) ∧ Below w.heap.size w w6) → Below w6.heap.size w6 w7 → (w7.ownsRow w.heap.size 58 3 (.slice (some ⟨b, 0, none⟩) (m.length + 1) cap') (m.length + 1) (flatP (insAt m j (x, y, z))) ∧ Below w.heap.size w w7)) := Lib.hid fun w6 w7 h hb => ⟨ownsRow_kept h.1 fun k e => hb.block k (h.1.lt k e).2, h.2.trans (hb.mono h.2.size)⟩
          rcases j with _ | j
          · go_wp2_with fail
            refine Ord.wp_chain [] (fun w' => w'.ownsRow w.heap.size 58 3 (.slice (some ⟨b, 0, none⟩) (m.length + 1) cap') (m.length + 1) (flatP (insAt m 0 (x, y, z))) ∧ Below w.heap.size w w') (fun _ _ => True) (by kernel_rfl) (by kernel_rfl) (by kernel_rfl) (And.intro ho3.drew hBq.drew) trivial (fun hT => ?_)
            have hT9 := Lib.hid hT
            clear hT
            repeat (first
              | (refine Ord.ch_value (v := ?_) hT9.out (by decide) (by rfl) ?_ ?_; rotate_left; (focus (intro w5 hS; skip; go_simp <;> with_reducible rfl)); (try simp only [Act.put, List.setIfInBounds_toArray, List.set_cons_zero, List.set_cons_succ]))
              | (refine Ord.ch_off hT9.out (by decide) (by rfl) ?_; (try simp only [Act.put, List.setIfInBounds_toArray, List.set_cons_zero, List.set_cons_succ]))
              | (refine Ord.ch_call (v := ?_) (f := ?_) (args := ?_) hT9.out (by decide) (by rfl) ?_ ?_ ?_; rotate_left 3; (focus (intro w5 hS; skip; go_simp; constructor <;> with_reducible rfl)); (focus (intro w5 hS; (first | fail))); (try simp only [Act.put, List.setIfInBounds_toArray, List.set_cons_zero, List.set_cons_succ])))
            refine Ord.InText.nil fun w5 hS => ?_
            clear hT9
            obtain ⟨hC, hA⟩ := Ord.chain_end hS
            clear hS
            clear hA
            go_wp2_with fail
            have hins := HM.out.put hlt (by rw [HO.out]; exact hv0) hj (by rw [HO.out]; exact rising_insAt HM.out.1 hj (by have := HM.out.new hnd hlt; rwa [HO.out] at this) hd (.inl rfl))
            rw [HO.out] at hins
            exact ⟨⟨k + 1, _, by omega, by simp, hins, by rw [insAt_length m _ hj]; exact hC.1, hC.2⟩, by simp [intOf]; omega⟩
          · have HCELL : Hid (∀ w' : World, w'.ownsRow w.heap.size 58 3 (.slice (some ⟨b, 0, none⟩) (m.length + 1) cap') (m.length + 1) (flatP (insAt m (j + 1) (x, y, z))) →
                (w'.cell? ⟨b, (j + 1) * 3, none⟩ = some (.int .i64 x) ∧ w'.cell? ⟨b, (j + 1) * 3 + 1, none⟩ = some (.int .i64 y) ∧ w'.cell? ⟨b, (j + 1) * 3 + 2, none⟩ = some (.int .i64 z) ∧
                 w'.cell? ⟨b, j * 3, none⟩ = some (.int .i64 (m.getD j z3).1) ∧ w'.cell? ⟨b, j * 3 + 1, none⟩ = some (.int .i64 (m.getD j z3).2.1) ∧ w'.cell? ⟨b, j * 3 + 2, none⟩ = some (.int .i64 (m.getD j z3).2.2))) := Lib.hid fun w' h => by
              have hlen := insAt_length m (j + 1) hj (x, y, z)
              have e1 : ∀ c, c < 3 → w'.cell? ⟨b, (j + 1) * 3 + c, none⟩ = (encP (x, y, z))[c]? := fun c hc => by
                rw [h.cellAt ((j + 1) * 3 + c) (by omega), flatP_get _ _ _ (by omega) hc, insAt_get_self m (j + 1) hj]
              have e2 : ∀ c, c < 3 → w'.cell? ⟨b, j * 3 + c, none⟩ = (encP (m.getD j z3))[c]? := fun c hc => by
                rw [h.cellAt (j * 3 + c) (by omega), flatP_get _ _ _ (by omega) hc, insAt_get_prev m j (by omega)]
              exact ⟨e1 0 (by omega), e1 1 (by omega), e1 2 (by omega), e2 0 (by omega), e2 1 (by omega), e2 2 (by omega)⟩
            obtain ⟨t, ht⟩ : ∃ t, m.getD j z3 = t := ⟨_, rfl⟩
            rw [ht] at HCELL
            obtain ⟨p, q, s⟩ := t
            simp only at HCELL
            have HT := Lib.hid ht
            clear ht
            have q1 : j < m.length := by omega
            have q2 : (0 : Int) ≤ (j : Int) + 1 := by omega
            have q3 : j < m.length + 1 := by omega
            have q4 : j ≤ m.length := by omega
            have q7 : IntKind.i64.wrap (j : Int) = (j : Int) := by rw [IntKind.wrap_i64]; omega
            have q5 : (j : Int) ≤ (m.length : Int) := by omega
            have q6 : (j : Int) < (m.length : Int) + 1 := by omega
            go_wp2_with fail
            refine Ord.wp_chain [] (fun w' => w'.ownsRow w.heap.size 58 3 (.slice (some ⟨b, 0, none⟩) (m.length + 1) cap') (m.length + 1) (flatP (insAt m (j + 1) (x, y, z))) ∧ Below w.heap.size w w') (fun _ _ => True) (by kernel_rfl) (by kernel_rfl) (by kernel_rfl) (And.intro ho3.drew hBq.drew) trivial (fun hT => ?_)
            have hT9 := Lib.hid hT
            clear hT
            repeat (first
              | (refine Ord.ch_value (v := ?_) hT9.out (by decide) (by rfl) ?_ ?_; rotate_left; (focus (intro w5 hS; obtain ⟨c0, c1, c2, c3, c4, c5⟩ := HCELL.out _ hS.1; go_simp <;> with_reducible rfl)); (try simp only [Act.put, List.setIfInBounds_toArray, List.set_cons_zero, List.set_cons_succ]))
              | (refine Ord.ch_off hT9.out (by decide) (by rfl) ?_; (try simp only [Act.put, List.setIfInBounds_toArray, List.set_cons_zero, List.set_cons_succ]))
              | (refine Ord.ch_call (v := ?_) (f := ?_) (args := ?_) hT9.out (by decide) (by rfl) ?_ ?_ ?_; rotate_left 3; (focus (intro w5 hS; obtain ⟨c0, c1, c2, c3, c4, c5⟩ := HCELL.out _ hS.1; go_simp; constructor <;> with_reducible rfl)); (focus (intro w5 hS; (first | (with_reducible refine (less_any _ _ _ _ _ _ _).mono ?_; rintro e w6 ⟨rfl, hb5⟩; constructor; with_reducible rfl; exact ⟨HC8.out _ _ hS hb5, fun _ h => h⟩)))); (try simp only [Act.put, List.setIfInBounds_toArray, List.set_cons_zero, List.set_cons_succ])))
            refine Ord.InText.nil fun w5 hS => ?_
            clear hT9
            obtain ⟨hC, hA⟩ := Ord.chain_end hS
            clear hS
            clear hA
            obtain ⟨c0, c1, c2, c3, c4, c5⟩ := HCELL.out _ hC.1
            by_cases hL : ltOf cmpP (x, y, z) (p, q, s) = true
            · rw [hL]
              have hb5 : b < w5.heap.size := (hC.1.lt b rfl).2
              have hnb : ¬ w5.heap.size = b := by omega
              have hnb' : ¬ b = w5.heap.size := by omega
              have rA : ∀ ob i, (w5.alloc ob).cell? ⟨b, i, none⟩ = w5.cell? ⟨b, i, none⟩ := fun ob i => World.cell?_of_block (Below.heap_alloc _ _ _ hb5)
              have zA : ∀ ob i, (w5.alloc ob).frozen? ⟨b, i, none⟩ = false := fun ob i => (World.frozen?_of_block (Below.heap_alloc _ _ _ hb5)).trans (hC.1.frozenAt i)
              have zW : ∀ i, w5.frozen? ⟨b, i, none⟩ = false := fun i => hC.1.frozenAt i
              go_wp2_with fail
              have hx := insAt_exch m j q1 (x, y, z)
              rw [HT.out] at hx
              simp only at hx
              have hp3 : (j + 1) * 3 = j * 3 + 3 := by omega
              refine ⟨⟨j, by omega, rfl, fun t ht => ?_, ?_, ?_⟩, by simp [intOf]⟩
              · rw [List.drop_eq_getElem_cons q1] at ht
                rcases List.mem_cons.1 ht with rfl | ht
                · have : m[j] = (p, q, s) := by rw [← HT.out]; simp [q1]
                  rw [this]; exact hL
                · exact hd t ht
              · rw [← hx, hp3]
                exact ((((((((hC.1.stored _ _).1).stored _ _).1).stored _ _).1.stored _ _).1.stored _ _).1.stored _ _).1.alloc _
              · exact Turn.below hC.2 (((((((Turn.refl (fun k => k = b) w5).setCell (p := ⟨b, _, none⟩) (fun _ => rfl) _).setCell (p := ⟨b, _, none⟩) (fun _ => rfl) _).setCell (p := ⟨b, _, none⟩) (fun _ => rfl) _).setCell (p := ⟨b, _, none⟩) (fun _ => rfl) _).setCell (p := ⟨b, _, none⟩) (fun _ => rfl) _).setCell (p := ⟨b, _, none⟩) (fun _ => rfl) _ |>.alloc _) hC.2.size fun k hk => by subst hk; exact hwb
            · have hL' : ltOf cmpP (x, y, z) (p, q, s) = false := by simpa using hL
              rw [hL']
              go_wp2_with fail
              have hins := HM.out.put hlt (by rw [HO.out]; exact hv0) hj (by rw [HO.out]; exact rising_insAt HM.out.1 hj (by have := HM.out.new hnd hlt; rwa [HO.out] at this) hd (.inr (by rw [Nat.add_sub_cancel, HT.out]; exact hL')))
              rw [HO.out] at hins
              exact ⟨⟨k + 1, _, by omega, by simp, hins, by rw [insAt_length m _ hj]; exact hC.1, hC.2⟩, by simp [intOf]; omega⟩
    · go_wp2_with fail
      have : k = l.length := by omega
      subst this
      go_ret
      exact ⟨m, _, rfl, ⟨hm.1, fun x => by rw [hm.2.2 x, getL_ne hnd x]; simp⟩, hm.2.1, hrw, hBr⟩
end Go.Proofs.YtchcdfoncebemaaGreatDoor

/-
  DERIVED: THE SHELF's CONTRACTS AT THIS DUMP, IN PLAIN WORDS (tools/lay-plain.mjs out of 'YtchcdfoncebemaaGreatDoorShelfD.lean', which tools/lay-shelf.mjs wrote): THE SAME DECLARATIONS UNDER THE SAME NAMES: 'import', 'namespace', 'open', 'def', 'theorem' AND NOTHING ELSE: no command of the shelf's: FOR A HAND-IN. Each laying: the table of numbers ('.._ren') and one theorem, a field a fact of the dump's own or the kernel's comparison; each contract: ONE APPLICATION.
-/
namespace Go.Proofs
open Go.Shelf
def Tryz.sortPlaces_ren : Go.Shelf.Ren := ⟨fun | 6 => 97 | 15 => 111 | 14 => 110 | 28 => 124 | 29 => 125 | 20 => 116 | 21 => 117 | 22 => 118 | 23 => 119 | 24 => 120 | 25 => 121 | 26 => 122 | 27 => 123 | 46 => 128 | 47 => 129 | 48 => 130 | 49 => 131 | 50 => 132 | 57 => 135 | n => n, fun | 22 => 102 | 24 => 58 | 25 => 150 | 3 => 3 | 39 => 30 | 0 => 0 | 53 => 186 | 55 => 23 | 4 => 4 | 46 => 180 | 45 => 179 | 50 => 119 | 5 => 5 | 9 => 9 | 66 => 187 | 70 => 190 | 76 => 192 | 77 => 193 | n => n, fun | n => n⟩
theorem Tryz.sortPlaces : Go.Proofs.SlLaysF0.n6 Tryz.prog Tryz.sortPlaces_ren := {
  mixed := by kernel_rfl
  f6 := ⟨Tryz.f97.name, by decide, Tryz.func97.trans (congrArg some (by kernel_rfl))⟩
  f14 := ⟨Tryz.f110.name, by decide, Tryz.func110.trans (congrArg some (by kernel_rfl))⟩
  f15 := Tryz.func111.trans (congrArg some (by kernel_rfl))
  f20 := ⟨Tryz.f116.name, by decide, Tryz.func116.trans (congrArg some (by kernel_rfl))⟩
  f21 := ⟨Tryz.f117.name, by decide, Tryz.func117.trans (congrArg some (by kernel_rfl))⟩
  f22 := ⟨Tryz.f118.name, by decide, Tryz.func118.trans (congrArg some (by kernel_rfl))⟩
  f23 := ⟨Tryz.f119.name, by decide, Tryz.func119.trans (congrArg some (by kernel_rfl))⟩
  f24 := ⟨Tryz.f120.name, by decide, Tryz.func120.trans (congrArg some (by kernel_rfl))⟩
  f25 := ⟨Tryz.f121.name, by decide, Tryz.func121.trans (congrArg some (by kernel_rfl))⟩
  f26 := ⟨Tryz.f122.name, by decide, Tryz.func122.trans (congrArg some (by kernel_rfl))⟩
  f27 := ⟨Tryz.f123.name, by decide, Tryz.func123.trans (congrArg some (by kernel_rfl))⟩
  f28 := Tryz.func124.trans (congrArg some (by kernel_rfl))
  f29 := Tryz.func125.trans (congrArg some (by kernel_rfl))
  f46 := ⟨Tryz.f128.name, by decide, Tryz.func128.trans (congrArg some (by kernel_rfl))⟩
  f47 := Tryz.func129.trans (congrArg some (by kernel_rfl))
  f48 := Tryz.func130.trans (congrArg some (by kernel_rfl))
  f49 := ⟨Tryz.f131.name, by decide, Tryz.func131.trans (congrArg some (by kernel_rfl))⟩
  f50 := ⟨Tryz.f132.name, by decide, Tryz.func132.trans (congrArg some (by kernel_rfl))⟩
  f57 := ⟨Tryz.f135.name, by decide, Tryz.func135.trans (congrArg some (by kernel_rfl))⟩
  t0 := Tryz.underlying0
  a0 := Tryz.isAgg0
  z0 := Tryz.sizeOf0
  v0 := Tryz.zeroValue0
  t3 := Tryz.underlying3
  a3 := Tryz.isAgg3
  z3 := Tryz.sizeOf3
  v3 := Tryz.zeroValue3
  t4 := Tryz.underlying4
  a4 := Tryz.isAgg4
  z4 := Tryz.sizeOf4
  v4 := Tryz.zeroValue4
  t5 := Tryz.underlying5
  a5 := Tryz.isAgg5
  z5 := Tryz.sizeOf5
  v5 := Tryz.zeroValue5
  t9 := Tryz.underlying9
  a9 := Tryz.isAgg9
  z9 := Tryz.sizeOf9
  v9 := Tryz.zeroValue9
  t22 := Tryz.underlying102
  a22 := Tryz.isAgg102
  z22 := Tryz.sizeOf102
  v22 := Tryz.zeroValue102
  t25 := Tryz.underlying150
  a25 := Tryz.isAgg150
  z25 := Tryz.sizeOf150
  v25 := Tryz.zeroValue150
  t39 := Tryz.underlying30
  a39 := Tryz.isAgg30
  z39 := Tryz.sizeOf30
  v39 := Tryz.zeroValue30
  t45 := Tryz.underlying179
  a45 := Tryz.isAgg179
  z45 := Tryz.sizeOf179
  v45 := Tryz.zeroValue179
  t46 := Tryz.underlying180
  a46 := Tryz.isAgg180
  z46 := Tryz.sizeOf180
  v46 := Tryz.zeroValue180
  t50 := Tryz.underlying119
  a50 := Tryz.isAgg119
  z50 := Tryz.sizeOf119
  v50 := Tryz.zeroValue119
  t53 := Tryz.underlying186
  a53 := Tryz.isAgg186
  z53 := Tryz.sizeOf186
  v53 := Tryz.zeroValue186
  t55 := Tryz.underlying23
  a55 := Tryz.isAgg23
  z55 := Tryz.sizeOf23
  v55 := Tryz.zeroValue23
  t66 := Tryz.underlying187
  a66 := Tryz.isAgg187
  z66 := Tryz.sizeOf187
  v66 := Tryz.zeroValue187
  t70 := Tryz.underlying190
  a70 := Tryz.isAgg190
  z70 := Tryz.sizeOf190
  v70 := Tryz.zeroValue190
  t76 := Tryz.underlying192
  a76 := Tryz.isAgg192
  z76 := Tryz.sizeOf192
  v76 := Tryz.zeroValue192
  t77 := Tryz.underlying193
  a77 := Tryz.isAgg193
  z77 := Tryz.sizeOf193
  v77 := Tryz.zeroValue193 }
def Tryz.compareInt_ren : Go.Shelf.Ren := ⟨fun | 5 => 100 | 7 => 112 | n => n, fun | 22 => 3 | 3 => 3 | 4 => 4 | n => n, fun | n => n⟩
theorem Tryz.compareInt : Go.Proofs.SlLaysC2.n5 Tryz.prog Tryz.compareInt_ren := {
  mixed := by kernel_rfl
  f5 := ⟨Tryz.f100.name, by decide, Tryz.func100.trans (congrArg some (by kernel_rfl))⟩
  f7 := ⟨Tryz.f112.name, by decide, Tryz.func112.trans (congrArg some (by kernel_rfl))⟩
  t3 := Tryz.underlying3
  a3 := Tryz.isAgg3
  z3 := Tryz.sizeOf3
  v3 := Tryz.zeroValue3
  t4 := Tryz.underlying4
  a4 := Tryz.isAgg4
  z4 := Tryz.sizeOf4
  v4 := Tryz.zeroValue4
  t22 := Tryz.underlying3
  a22 := Tryz.isAgg3
  z22 := Tryz.sizeOf3
  v22 := Tryz.zeroValue3 }
end Go.Proofs

/- The order of places; the library's sort at it. -/
namespace Go.Proofs.YtchcdfoncebemaaGreatDoor
open Go.RowKit Go.Maps Go.Shelf Go.Sort
set_option maxRecDepth 100000

theorem compareInt_any (x y : Int) (w : World) : Calls Tryz.prog 100 #[.int .i64 x, .int .i64 y] w fun e w' => e = .returned (.int .i64 (Lib.compareInt x y)) ∧ w' = w := AnyG.cmp_Compare_int Tryz.compareInt x y w

set_option maxHeartbeats 1600000 in
theorem or_any (a b c : Int) (N : Nat) (w : World) (h : ∀ i, w.cell? ⟨N, i, none⟩ = [Value.int .i64 a, .int .i64 b, .int .i64 c][i]?) :
    Calls Tryz.prog 99 #[.slice (some ⟨N, 0, none⟩) 3 3] w fun e w' => e = .returned (.int .i64 (orI a b c)) ∧ w' = w := by
  have e1 : (a != 0) = true ∨ ((a != 0) = false ∧ (b != 0) = true) ∨ ((a != 0) = false ∧ (b != 0) = false ∧ (c != 0) = true) ∨ ((a != 0) = false ∧ (b != 0) = false ∧ (c != 0) = false) := by
    cases (a != 0) <;> cases (b != 0) <;> cases (c != 0) <;> simp
  rcases e1 with h1 | ⟨h1, h2⟩ | ⟨h1, h2, h3⟩ | ⟨h1, h2, h3⟩
  · go_enter Tryz.func99, Tryz.ntmps99
    go_wp2
    refine wp_loop_rounds 1 ?_
    rw [rounds_succ]
    go_wp2
    go_ret
    exact ⟨ret_int (by simp at h1; simp [orI, h1]), rfl⟩
  · go_enter Tryz.func99, Tryz.ntmps99
    go_wp2
    refine wp_loop_rounds 2 ?_
    rw [rounds_succ]
    go_wp2
    rw [rounds_succ]
    go_wp2
    go_ret
    exact ⟨ret_int (by simp at h1 h2; simp [orI, h1, h2]), rfl⟩
  · go_enter Tryz.func99, Tryz.ntmps99
    go_wp2
    refine wp_loop_rounds 3 ?_
    rw [rounds_succ]
    go_wp2
    rw [rounds_succ]
    go_wp2
    rw [rounds_succ]
    go_wp2
    go_ret
    exact ⟨ret_int (by simp at h1 h2 h3; simp [orI, h1, h2]), rfl⟩
  · go_enter Tryz.func99, Tryz.ntmps99
    go_wp2
    refine wp_loop_rounds 4 ?_
    rw [rounds_succ]
    go_wp2
    rw [rounds_succ]
    go_wp2
    rw [rounds_succ]
    go_wp2
    rw [rounds_succ]
    go_wp2
    go_ret
    exact ⟨ret_int (by simp at h1 h2 h3; simp [orI, h1, h2, h3]), rfl⟩

set_option maxHeartbeats 1600000 in
theorem compare_any (a b c a' b' c' : Int) (w : World) :
    Calls Tryz.prog 83 #[.agg #[.int .i64 a, .int .i64 b, .int .i64 c], .agg #[.int .i64 a', .int .i64 b', .int .i64 c']] w fun e w' => e = .returned (.int .i64 (cmpP (a, b, c) (a', b', c'))) ∧ ∃ q os', w' = grow (w.drewN q) os' := by
  have k1 : Hid (∀ w', Calls Tryz.prog 100 #[.int .i64 a, .int .i64 a'] w' fun e w'' => e = .returned (.int .i64 (Lib.compareInt a a')) ∧ w'' = w') := Lib.hid fun w' => compareInt_any a a' w'
  have k2 : Hid (∀ w', Calls Tryz.prog 100 #[.int .i64 b, .int .i64 b'] w' fun e w'' => e = .returned (.int .i64 (Lib.compareInt b b')) ∧ w'' = w') := Lib.hid fun w' => compareInt_any b b' w'
  have k3 : Hid (∀ w', Calls Tryz.prog 100 #[.int .i64 c, .int .i64 c'] w' fun e w'' => e = .returned (.int .i64 (Lib.compareInt c c')) ∧ w'' = w') := Lib.hid fun w' => compareInt_any c c' w'
  unfold cmpP
  simp only
  generalize Lib.compareInt a a' = x at *
  generalize Lib.compareInt b b' = y at *
  generalize Lib.compareInt c c' = z at *
  go_enter Tryz.func83, Tryz.ntmps83
  go_wp2_with fail
  have hw2 : ∃ w2, w2 = (w.alloc (.cells #[.int .i64 a, .int .i64 b, .int .i64 c] 58)).alloc (.cells #[.int .i64 a', .int .i64 b', .int .i64 c'] 58) := ⟨_, rfl⟩
  obtain ⟨w2, hw2⟩ := hw2
  have h1 : Blk 0 w2 w.heap.size [.int .i64 a, .int .i64 b, .int .i64 c] := by rw [hw2]; exact (Blk.new 0 w _ _).more _
  have h2 : Blk 0 w2 (w.heap.size + 1) [.int .i64 a', .int .i64 b', .int .i64 c'] := by rw [hw2]; exact (Blk.new 0 (w.alloc _) _ _).at (by simp)
  rw [← hw2]
  have HW := Lib.hid hw2
  clear hw2
  generalize w.heap.size = B at *
  refine Ord.wp_chain [15, 16] (fun w' => Blk 0 w' B [.int .i64 a, .int .i64 b, .int .i64 c] ∧ Blk 0 w' (B + 1) [.int .i64 a', .int .i64 b', .int .i64 c']) (fun j w' => ∃ q, w' = (if j = 0 then w2 else w2.alloc (.cells #[.int .i64 x, .int .i64 y, .int .i64 z] 3)).drewN q) (by kernel_rfl) (by kernel_rfl) (by kernel_rfl) ⟨h1.drew, h2.drew⟩ ⟨1, rfl⟩ (fun hT => ?_)
  have hT9 := Lib.hid hT
  clear hT
  repeat (first
    | (refine Ord.ch_value (v := ?_) hT9.out (by decide) (by rfl) ?_ ?_; rotate_left; (focus (intro w5 hS; have r := hS.1.rule; have r2 := hS.2.rule; go_simp <;> with_reducible rfl)); (try simp only [Act.put, List.setIfInBounds_toArray, List.set_cons_zero, List.set_cons_succ]))
    | (refine Ord.ch_call (v := ?_) (f := ?_) (args := ?_) hT9.out (by decide) (by rfl) ?_ ?_ ?_; rotate_left 3; (focus (intro w5 hS; have r := hS.1.rule; have r2 := hS.2.rule; go_simp; constructor <;> with_reducible rfl)); (focus (intro w5 hS; (first
        | (with_reducible refine (k1.out _).mono ?_; rintro e w6 ⟨rfl, rfl⟩; constructor; with_reducible rfl; exact ⟨hS, fun _ h => h⟩)
        | (with_reducible refine (k2.out _).mono ?_; rintro e w6 ⟨rfl, rfl⟩; constructor; with_reducible rfl; exact ⟨hS, fun _ h => h⟩)
        | (with_reducible refine (k3.out _).mono ?_; rintro e w6 ⟨rfl, rfl⟩; constructor; with_reducible rfl; exact ⟨hS, fun _ h => h⟩)))); (try simp only [Act.put, List.setIfInBounds_toArray, List.set_cons_zero, List.set_cons_succ])))
  refine Ord.ch_turn (v := .slice (some ⟨w2.heap.size, 0, none⟩) 3 3) 0 hT9.out rfl (by decide) (Or.inl rfl) (by rfl) ?_ ?_
  · rintro w5 hC5 ⟨q, hq⟩
    rw [if_pos rfl] at hq
    subst hq
    go_simp
    exact ⟨by first | rfl | simp, ⟨hC5.1.more _, hC5.2.more _⟩, q, rfl⟩
  (try simp only [Act.put, List.setIfInBounds_toArray, List.set_cons_zero, List.set_cons_succ])
  refine Ord.ch_turn (v := .int .i64 (orI x y z)) 1 hT9.out rfl (by decide) (Or.inr ⟨15, rfl, by kernel_rfl⟩) (by rfl) ?_ ?_
  · rintro w5 hC5 ⟨q, hq⟩
    rw [if_neg (by omega)] at hq
    have hcell : ∀ i, w5.cell? ⟨w2.heap.size, i, none⟩ = [Value.int .i64 x, .int .i64 y, .int .i64 z][i]? := fun i => by rw [hq]; exact (Blk.new 0 w2 [Value.int .i64 x, .int .i64 y, .int .i64 z] _).rule i
    have HQ := Lib.hid hq
    clear hq
    go_simp
    simp only [Ord.LandsIn]
    refine (or_any x y z _ w5 hcell).mono ?_
    rintro e w6 ⟨rfl, rfl⟩
    exact ⟨rfl, hC5, q, HQ.out⟩
  (try simp only [Act.put, List.setIfInBounds_toArray, List.set_cons_zero, List.set_cons_succ])
  repeat (first
    | (refine Ord.ch_value (v := ?_) hT9.out (by decide) (by rfl) ?_ ?_; rotate_left; (focus (intro w5 hS; skip; go_simp <;> with_reducible rfl)); (try simp only [Act.put, List.setIfInBounds_toArray, List.set_cons_zero, List.set_cons_succ]))
    | (refine Ord.ch_off hT9.out (by decide) (by rfl) ?_; (try simp only [Act.put, List.setIfInBounds_toArray, List.set_cons_zero, List.set_cons_succ])))
  refine Ord.InText.nil fun w5 hS => ?_
  clear hT9
  obtain ⟨hC9, hA9⟩ := Ord.chain_end hS
  clear hS
  obtain ⟨q, hq⟩ := hA9
  go_wp2
  go_ret
  refine ⟨rfl, q, #[.cells #[.int .i64 a, .int .i64 b, .int .i64 c] 58, .cells #[.int .i64 a', .int .i64 b', .int .i64 c'] 58, .cells #[.int .i64 x, .int .i64 y, .int .i64 z] 3], ?_⟩
  rw [hq, HW.out]
  simp only [List.length_cons, List.length_nil, alloc_eq_grow, grow_grow]
  rfl

theorem cmpLays (blk off size : Nat) (w : World) : CmpLays Tryz.prog 83 #[] encP 3 cmpP blk off size w := fun _ _ _ _ x y => compare_any x.1 x.2.1 x.2.2 y.1 y.2.1 y.2.2 _
theorem aggPlace (w : World) : (isAgg 58).run Tryz.prog w = .ok true w := by kernel_rfl
theorem sizePlace (w : World) : (Go.sizeOf 58).run Tryz.prog w = .ok 3 w := by kernel_rfl

/-- The places in their order. -/
def sortL (l : List Plc) : List Plc := l.mergeSort fun x y => !(ltOf cmpP) y x
theorem sort_any (blk off cap : Nat) (d : Array Plc) (w : World) (hH : HoldsK encP 3 w blk off d) (hblk : blk < w.heap.size) (hsz : d.size < 4611686018427387904) :
    Calls Tryz.prog 97 #[.slice (some ⟨blk, off, none⟩) d.size cap, .func (.func 83) #[] #[]] w fun e w' => e = .returned (.tuple #[]) ∧ ∃ n os, w' = sortWorldK encP 3 w blk off n (sortL d.toList).toArray os :=
  AnyQ.slices_SortFunc_total Tryz.sortPlaces 3 aggPlace sizePlace encP (fun _ => rfl) (fun x v hv => by simp [encP] at hv; rcases hv with rfl | rfl | rfl <;> rfl) cmpP swoP 83 #[] blk off cap d w
    (enters_of Tryz.func83 (by kernel_rfl) rfl) (cmpLays blk off d.size w) hH hblk hsz totP
theorem sort_none (p : Option Addr) (cap : Nat) (fv : Value) (w : World) : Calls Tryz.prog 97 #[.slice p 0 cap, fv] w fun e w' => e = .returned (.tuple #[]) ∧ w' = w :=
  AnyF.slices_SortFunc_none { Tryz.sortPlaces with } p cap fv w
end Go.Proofs.YtchcdfoncebemaaGreatDoor

/- Rows of the call's own: of whole numbers. -/
namespace Go.Proofs.YtchcdfoncebemaaGreatDoor
open Go.RowKit
set_option maxRecDepth 100000

/-- Whole numbers in a row. -/
def ints (zs : List Int) : List Value := zs.map (Value.int .i64)
theorem ints_length (zs : List Int) : (ints zs).length = zs.length * 1 := by simp [ints]
theorem ints_append (a b : List Int) : ints (a ++ b) = ints a ++ ints b := by simp [ints]
def intsI (v : Value) (zs : List Int) : Item := rowI v 3 1 zs.length (ints zs)
theorem infoInt : (Tryz.prog.info? 3).map (fun i => (i.zero, i.size, i.bytes)) = some (some (.int .i64 0), 1, 8) := by kernel_rfl
/-- What the cells of such a row hold. -/
def Cells1 (w : World) (A : Option Addr) (zs : List Int) : Prop := zs = [] ∨ ∃ g, A = some ⟨g, 0, none⟩ ∧ g < w.heap.size ∧ ∀ i, i < zs.length → w.cell? ⟨g, i, none⟩ = some (.int .i64 (zs.getD i 0))
theorem cells1 {w : World} {b : Nat} {A : Option Addr} {cap : Nat} {zs : List Int} (h : w.ownsRow b 3 1 (.slice A zs.length cap) zs.length (ints zs)) : Cells1 w A zs := by
  rcases h.2 with ⟨_, h0⟩ | ⟨g, cap', cur, hv, _, hg, hn, hc, hcs, htk⟩
  · exact .inl (List.eq_nil_of_length_eq_zero h0)
  · simp only [Value.slice.injEq] at hv
    obtain ⟨rfl, -, rfl⟩ := hv
    refine .inr ⟨g, rfl, (Array.getElem?_eq_some_iff.1 hg).1, fun j hj => ?_⟩
    have h1 : (ints zs)[j]? = some (.int .i64 (zs.getD j 0)) := by simp [ints, hj]
    rw [← h1, ← htk, List.getElem?_take_of_lt (by omega)]
    simp [World.cell?, hg]
theorem Cells1.over {w w' : World} {A : Option Addr} {zs : List Int} (h : Cells1 w A zs) (hk : ∀ k, (Value.slice A zs.length 0).ownBlock = some k → w'.heap[k]? = w.heap[k]?) (hs : w.heap.size ≤ w'.heap.size) : Cells1 w' A zs := by
  rcases h with h | ⟨g, rfl, hg, hc⟩
  · exact .inl h
  · exact .inr ⟨g, rfl, Nat.lt_of_lt_of_le hg hs, fun i hi => by rw [World.cell?_of_block (w := w) (hk g rfl)]; exact hc i hi⟩

section
variable {w0 w w' : World} {L : List Item}
theorem Env.row (h : Env w0 L w) (i : Nat) {v : Value} {zs : List Int} (hi : L[i]? = some (intsI v zs)) : w.ownsRow 0 3 1 v zs.length (ints zs) := h.get i hi
theorem Env.rowCells (h : Env w0 L w) (i : Nat) {A : Option Addr} {n cap : Nat} {zs : List Int} (hn : n = zs.length) (hi : L[i]? = some (intsI (.slice A n cap) zs)) : Cells1 w A zs := by subst hn; exact cells1 (h.row i hi)
/-- A row that has come into being. -/
theorem Env.addRow (h : Env w0 L w) {v : Value} {zs : List Int} (ho : w'.ownsRow w.heap.size 3 1 v zs.length (ints zs)) (hb : Below w.heap.size w w') : Env w0 (intsI v zs :: L) w' :=
  h.add (intsI v zs) hb (ownsRow_base ho (Nat.zero_le _)) fun k hk => ho.lt k hk
theorem Env.addNone (h : Env w0 L w) : Env w0 (intsI (.slice none 0 0) [] :: L) w :=
  h.add (intsI (.slice none 0 0) []) (Below.refl _ _) (World.ownsRow_nil _ _ _ _) fun k hk => by cases hk
/-- An empty row that has been made. -/
theorem Env.addEmpty (h : Env w0 L w) (n : Nat) (hn : w.heap.size = n) : Env w0 (intsI (.slice (some ⟨n, 0, none⟩) 0 0) [] :: L) (w.alloc (.cells #[] 3)) := by
  subst hn
  exact h.addRow (v := .slice (some ⟨w.heap.size, 0, none⟩) 0 0) (zs := []) ⟨rfl, .inr ⟨w.heap.size, 0, #[], rfl, Nat.le_refl _, heap_alloc_new w _, Nat.le_refl _, Nat.zero_le _, rfl, rfl⟩⟩ ((Below.refl _ _).alloc (Nat.le_refl _) _)
/-- One number appended to a row. -/
theorem Env.append1 (h : Env w0 L w) (i : Nat) {v : Value} {zs : List Int} (hi : L[i]? = some (intsI v zs)) (x : Int) (hz : zs.length ≤ 1000000) (n : Nat) (hn : w.heap.size = n) :
    ∃ g cap w', (Builtin.append_ #[176, 176] 176 #[v, .slice (some ⟨n, 0, none⟩) 1 1]).run Tryz.prog (w.alloc (.cells #[.int .i64 x] 3)) = .ok (.slice (some ⟨g, 0, none⟩) (zs.length + 1) cap) w' ∧
      Env w0 (L.set i (intsI (.slice (some ⟨g, 0, none⟩) (zs.length + 1) cap) (zs ++ [x]))) w' ∧ Step (fun k => v.ownBlock = some k) (fun k => k = g) w w' := by
  subst hn
  obtain ⟨i0, hi0, hz0, hz1, hz2⟩ := info_parts infoInt
  have hown := h.row i hi
  obtain ⟨g, cap, w', hrun, ho, hgr, hg, hgl⟩ := run_append_lies (P := Tryz.prog) (w.alloc (.cells #[.int .i64 x] 3)) 176 176 0 3 i0 (.int .i64 0) 1 8 Tryz.underlying176 hi0 hz0 hz1 hz2 rfl (by decide) v zs.length (ints zs) (hown.alloc _)
    ⟨w.heap.size, 0, none⟩ 1 1 [.int .i64 x] rfl (cells_new _ _ _) (by simp [Value.oneCell']) (by omega) (by simp [maxLen]; omega) (by omega) (by simp) _ rfl
  have hst : Step (fun k => v.ownBlock = some k) (fun k => k = g) w w' := ⟨((Turn.refl _ w).alloc _).grown hgr fun k _ e => e, fun k hk => by
    subst hk
    rcases hg with e | e
    · exact .inl e
    · right; rw [e]; simp⟩
  refine ⟨g, cap, w', hrun, ?_, hst⟩
  refine h.step i (intsI (.slice (some ⟨g, 0, none⟩) (zs.length + 1) cap) (zs ++ [x])) hi ⟨hst.turn, fun k hk => hst.from' k (by cases hk; rfl)⟩ ?_ fun k hk => by cases hk; exact hgl
  have e1 : (zs ++ [x]).length = zs.length + 1 := by simp
  show w'.ownsRow 0 3 1 _ (zs ++ [x]).length (ints (zs ++ [x]))
  rw [e1, ints_append]
  exact ho
end
end Go.Proofs.YtchcdfoncebemaaGreatDoor

/- The keys of a map of words, collected: each once, in whatever order; then sorted: Places. -/
namespace Go.Proofs.YtchcdfoncebemaaGreatDoor
open Go.RowKit Go.Maps Go.Shelf Go.Sort
set_option maxRecDepth 100000

attribute [local go_sem] Oper.semAt_some

/-- ss are the places that have come: each once, places alone, those of the map that are no longer to come. -/
structure CollP (D : DataW Unit) (left : Lit → Bool) (ss : List Plc) : Prop where
  once : ss.Nodup
  wf : ∀ x ∈ ss, Wf x
  mem : ∀ x, Wf x → (x ∈ ss ↔ Maps.has D (kl x) = true ∧ left (kl x) = false)
theorem CollP.start (D : DataW Unit) : CollP D (Maps.has D) [] := ⟨List.nodup_nil, by simp, fun x _ => by simp⟩
theorem CollP.step {D : DataW Unit} {left : Lit → Bool} {ss : List Plc} (h : CollP D left ss) {x : Plc} (hx : Wf x) (hl : left (kl x) = true) {yd : DataW Unit} (hat : ∀ zd, D.atKey (kl x) zd = yd) : CollP D (fun z => left z && !z.sameKey (kl x)) (ss ++ [x]) := by
  have hnot : x ∉ ss := fun e => by have := ((h.mem x hx).1 e).2; rw [hl] at this; cases this
  refine ⟨List.nodup_append.2 ⟨h.once, by simp, fun a ha b hb e => ?_⟩, fun y hy => ?_, fun y hy => ?_⟩
  · simp at hb; subst hb; subst e; exact hnot ha
  · rcases List.mem_append.1 hy with h1 | h1
    · exact h.wf y h1
    · simp at h1; subst h1; exact hx
  · by_cases e : y = x
    · subst e
      simp [has_true_of_atKey hat, WideAt.sameKey_self (kl_key y)]
    · have hne : kl y ≠ kl x := fun e' => e (kl_inj hy hx e')
      simp [e, h.mem y hy, sameKey_ne hne]


set_option maxRecDepth 100000 in
set_option maxHeartbeats 2000000 in
theorem keys1_any (F : Fence) (n : Nat) (hf : F.fn 98) (hro : F.round = none) (hn : 1 ≤ n) (l Bm b nn : Nat) (D0 : DataW Unit) (J Jx : List Plc → World → Prop)
    (hY : ∀ pre x W, J pre W → pre.length < Maps.size D0 → YieldAt F (n - 1) Tryz.prog l #[pv x] W fun e W' => (e = .returned (.bool true) ∧ J (pre ++ [x]) W' ∧ KeepsWalks W W') ∨ (e = .returned (.bool false) ∧ Jx (pre ++ [x]) W'))
    (W : World) (hJ : AbidesFrom W.heap.size J) (hm : W.cell? ⟨Bm, 0, none⟩ = some (.map (some b))) (hown : W.ownsMap Tryz.prog 58 (plainElem (H := Unit) Tryz.prog 23) b nn D0) (h0 : J [] W) :
    CallsIn F n Tryz.prog 98 #[.func (.yield l) #[] #[], .pointer (some ⟨Bm, 0, none⟩)] W fun e W' => (∃ v, e = .returned v) ∧
      ((∃ ss, (CollP D0 (fun _ => false) ss ∧ ss.length ≤ Maps.size D0) ∧ J ss W') ∨ (∃ pre, True ∧ Jx pre W')) := by
  refine callsIn_of_wp Tryz.func98 rfl hf ?_ hro
  simp only [Tryz.ntmps98, List.size_toArray, List.length_cons, List.length_nil, Nat.reduceAdd, Nat.reduceSub, Array.replicate_succ, Array.replicate_zero, List.push_toArray, List.append_toArray, List.nil_append, List.cons_append]
  gi_wp2_with (first
    | (gi_at_range; refine wpListIn_range_own _ rfl _ 143 rfl 58 23 keyPlace Tryz.underlying143 _ b nn _ rfl hown ?_; intro w0 hrg0 hg0 hs0)
    | gi_in)
  go_frame
  gi_loopw [3] (fun _ wr => ∃ (left : Lit → Bool) (cnt : Nat) (ss : List Plc), wr.ranges Tryz.prog 58 (plainElem (H := Unit) Tryz.prog 23) b W.heap.size nn D0 left cnt ∧ ss.length + cnt ≤ Maps.size D0 ∧ CollP D0 left ss ∧ J ss wr)
    (fun _ wr => wr.rangeLeft b W.heap.size)
  case atStart =>
    exact ⟨_, _, [], hrg0, by simp, CollP.start D0, hJ [] W w0 none h0 hg0 (fun r e => by cases e)⟩
  case round =>
    obtain ⟨left, cnt, ss, hrg, hcs, hC, hJs⟩ := hrel
    gi_wp2_with (first
      | (gi_at_next; refine wpListIn_next_ranges _ rfl _ rfl 58 keyPlace (plainElem (H := Unit) Tryz.prog 23) (fun x : Plc => Value.agg #[.int .i64 x.1, .int .i64 x.2.1, .int .i64 x.2.2]) id (fun key kl hk => by obtain ⟨x, _, hx, _⟩ := key_inv hk; exact ⟨x, hx⟩) (fun v _ _ => ⟨v, rfl⟩) b W.heap.size nn _ _ _ rfl hrg ?_ ?_)
      | gi_in)
    · intro hc0 hl0
      gi_wp2
      go_end0
      exact ⟨⟨_, rfl⟩, .inl ⟨ss, ⟨⟨hC.once, hC.wf, fun x hx => by rw [hC.mem x hx, hl0]⟩, by omega⟩, hJs⟩⟩
    · intro xa xb xc c kx yd yp w2 cnt2 hkey hlk hv hat hrg2 hlt hg2 hs2 hen
      obtain ⟨x, hx', ex, rfl⟩ := key_inv hkey
      obtain ⟨ya, yb, yc⟩ := x
      have ex' := pv_inj (x := (xa, xb, xc)) ex
      obtain ⟨rfl, rfl, rfl⟩ : xa = ya ∧ xb = yb ∧ xc = yc := by simpa using ex'
      clear ex ex'
      have hJ2 : J ss w2 := hJ ss wr w2 (some W.heap.size) hJs hg2 (fun r e => by cases e; exact ⟨Nat.le_refl _, hrg.iter_walk⟩)
      have hJ3 : J ss (w2.alloc (.cells #[.int .i64 xa, .int .i64 xb, .int .i64 xc] 58)) := hJ ss w2 _ none hJ2 (World.grownBy_alloc w2 _ none) (fun r e => by cases e)
      obtain ⟨fn, tmps, assign, body, hy, hR⟩ := hY ss (xa, xb, xc) _ hJ3 (by omega)
      have hrg2' := hrg2.alloc (.cells #[.int .i64 xa, .int .i64 xb, .int .i64 xc] 58)
      have hC2 := hC.step hx' hlk hat
      simp only [pv] at hy
      clear hs2
      gi_wp2
      refine hR.mono ?_
      rintro e W3 (⟨rfl, hJ4, hk3⟩ | ⟨rfl, hJx4⟩)
      · gi_wp2
        have hrg3 := hrg2'.of_walks hk3
        go_roundw
        case rel => exact ⟨_, cnt2, ss ++ [(xa, xb, xc)], hrg3, by simp; omega, hC2, hJ4⟩
        case measure => rw [hrg3.left_eq, hrg.left_eq]; exact hlt
      · gi_wp2
        refine bodyPost_ret (results_none rfl _ _ _) rfl ?_
        exact ⟨⟨_, rfl⟩,   .inr ⟨ss ++ [(xa, xb, xc)], trivial, hJx4⟩⟩

/-- .. and at most n of them. -/
def OpsN (f : Plc → Int) (n : Nat) (ss : List Plc) : Prop := OpsF f ss ∧ ss.length ≤ n

set_option maxRecDepth 100000 in
set_option maxHeartbeats 2000000 in
theorem keys1_none (F : Fence) (n : Nat) (hf : F.fn 98) (hro : F.round = none) (l Bm : Nat) (J : List Plc → World → Prop) (W : World) (hJ : AbidesFrom W.heap.size J)
    (hm : W.cell? ⟨Bm, 0, none⟩ = some (.map none)) (h0 : J [] W) :
    CallsIn F n Tryz.prog 98 #[.func (.yield l) #[] #[], .pointer (some ⟨Bm, 0, none⟩)] W fun e W' => (∃ v, e = .returned v) ∧ J [] W' := by
  have hrg := run_range_nilMap (P := Tryz.prog) W 143 _ _ Tryz.underlying143
  have hnx : ∀ ty, (Instr.next (.pointer (some ⟨W.heap.size, 0, none⟩)) false ty).run Tryz.prog (W.alloc (.mapIter none 0 #[] 0)) = _ := fun ty => run_next_nilMap _ ty 0 0 #[]
  refine callsIn_of_wp Tryz.func98 rfl hf ?_ hro
  simp only [Tryz.ntmps98, List.size_toArray, List.length_cons, List.length_nil, Nat.reduceAdd, Nat.reduceSub, Array.replicate_succ, Array.replicate_zero, List.push_toArray, List.append_toArray, List.nil_append, List.cons_append]
  gi_wp2
  refine wpIn_loop_rounds 1 ?_
  rw [roundsIn_succ]
  gi_wp2
  go_end0
  exact ⟨⟨_, rfl⟩, hJ [] W _ none h0 (World.grownBy_alloc W _ none) (fun r e => by cases e)⟩

theorem keys_stops (F : Fence) (n : Nat) (hf : F.fn 98) (hro : F.round = none) (hn : 1 ≤ n) {Bm nn : Nat} {mp : Option Nat} {f : Plc → Int} {w : World} (hBm : Bm < w.heap.size)
    (hm : w.cell? ⟨Bm, 0, none⟩ = some (.map mp)) (hM : MapIs w mp f nn) :
    SeqStopsK F n Tryz.prog 98 #[.pointer (some ⟨Bm, 0, none⟩)] (fun x : Plc => #[Value.agg #[.int .i64 x.1, .int .i64 x.2.1, .int .i64 x.2.2]]) KeepsWalks (OpsN f nn) (fun _ => True) nn w := fun l J Jx W hW hJ _ hY h0 => by
  rcases hM with ⟨rfl, rfl⟩ | ⟨b, D, rfl, ho, hr⟩
  · exact (keys1_none F n hf hro l Bm J W hJ ((hW.cell (p := ⟨Bm, 0, none⟩) hBm).trans hm) h0).mono fun _ _ ⟨he, hj⟩ => ⟨he, .inl ⟨[], ⟨⟨List.nodup_nil, by simp⟩, Nat.zero_le _⟩, hj⟩⟩
  · have hlt := ho.lt
    have hsz := ho.size_le
    have ho' : W.ownsMap Tryz.prog 58 (plainElem (H := Unit) Tryz.prog 23) b nn D := by
      obtain ⟨es, clock, hb, r⟩ := ho
      exact ⟨es, clock, (hW.block b hlt).trans hb, r⟩
    refine (keys1_any F n hf hro hn l Bm b nn D J Jx (fun pre x W1 h1 h2 => hY pre x W1 h1 (by omega)) W hJ ((hW.cell (p := ⟨Bm, 0, none⟩) hBm).trans hm) ho' h0).mono ?_
    rintro e W' ⟨he, ⟨ss, ⟨hC, hlen⟩, hj⟩ | hx⟩
    · refine ⟨he, .inl ⟨ss, ⟨⟨hC.once, fun x => ?_⟩, Nat.le_trans hlen hsz⟩, hj⟩⟩
      by_cases hw : Wf x
      · rw [hC.mem x hw, hr.has' x hw]; simp
      · constructor
        · intro e; exact absurd (hC.wf x e) hw
        · intro e; exact absurd (hr.words.out x hw) e
    · exact ⟨he, .inr hx⟩

set_option maxHeartbeats 1000000 in
theorem keys_in (F : Fence) (n : Nat) (hf : F.fn 82) (hro : F.round = none) (mp : Option Nat) (w : World) :
    CallsIn F n Tryz.prog 82 #[.map mp] w fun e w' => e = .returned (.func (.func 98) #[] #[.pointer (some ⟨w.heap.size, 0, none⟩)]) ∧ w' = w.alloc (.cells #[.map mp] 143) := by
  refine callsIn_of_wp Tryz.func82 rfl hf ?_ hro
  simp only [Tryz.ntmps82, List.size_toArray, List.length_cons, List.length_nil, Nat.reduceAdd, Nat.reduceSub, Array.replicate_succ, Array.replicate_zero, List.push_toArray, List.append_toArray, List.nil_append, List.cons_append]
  gi_wp2
  go_ret
  exact ⟨rfl, rfl⟩

def Box3 (W : World) (B : Nat) (x : Plc) : Prop := W.heap[B]? = some (.cells #[.int .i64 x.1, .int .i64 x.2.1, .int .i64 x.2.2] 58 (0, 0))
theorem Box3.rule {W : World} {B : Nat} {x : Plc} (h : Box3 W B x) : ∀ i, W.cell? ⟨B, i, none⟩ = [Value.int .i64 x.1, .int .i64 x.2.1, .int .i64 x.2.2][i]? := fun i => by
  unfold Box3 at h
  simp [World.cell?, h]

set_option maxRecDepth 100000 in
set_option maxHeartbeats 2000000 in
theorem append_in (F : Fence) (n : Nat) (hf : F.fn 109) (hk : F.fn 98) (hro : F.round = none) (hn : 3 ≤ n) {Bm nn : Nat} {mp : Option Nat} {f : Plc → Int} {w : World} (hBm : Bm < w.heap.size)
    (hm : w.cell? ⟨Bm, 0, none⟩ = some (.map mp)) (hM : MapIs w mp f nn) (hN : nn ≤ maxLen) (hNb : nn * 24 ≤ 140737488355328) :
    CallsIn F n Tryz.prog 109 #[.slice none 0 0, .func (.func 98) #[] #[.pointer (some ⟨Bm, 0, none⟩)]] w fun e w' => ∃ v ss, e = .returned v ∧ OpsN f nn ss ∧ w'.ownsRow w.heap.size 58 3 v ss.length (flatP ss) ∧ (v = .slice none 0 0 ↔ ss = []) ∧ Below w.heap.size w w' := by
  have h1 : 1 ≤ n := by omega
  obtain ⟨i0, hi, hz0, hz1, hz2⟩ := info_parts infoPlace
  refine callsIn_of_wp_marks Tryz.func109 rfl hf ?_ hro
  simp only [Tryz.ntmps109, List.size_toArray, List.length_cons, List.length_nil, Nat.reduceAdd, Nat.reduceSub, Array.replicate_succ, Array.replicate_zero, List.push_toArray, List.append_toArray, List.nil_append, List.cons_append]
  gi_wp2
  have bO := Boxed.new w 102 (.slice none 0 0)
  have hB0 : Below w.heap.size w (w.alloc (.cells #[.slice none 0 0] 102)) := (Below.refl _ w).alloc (Nat.le_refl _) _
  refine wpIn_rangeFunc_ownH hro h1 (gf := 98) (lb := #[.pointer (some ⟨Bm, 0, none⟩)]) rfl hk (enters_of Tryz.func98 (by kernel_rfl) rfl)
    (keys_stops F (n - 1) hk hro (by omega) (w := w.alloc (.cells #[.slice none 0 0] 102)) (by simp; omega) ((hB0.cell (p := ⟨Bm, 0, none⟩) hBm).trans hm) (hM.more _)) walksK_t walksK_b (Below.refl _ _) (fun _ => rfl)
    (fun pre W => (∃ v, Boxed W w.heap.size 102 v ∧ W.ownsRow w.heap.size 58 3 v pre.length (flatP pre) ∧ (v = .slice none 0 0 ↔ pre = [])) ∧ Below w.heap.size w W)
    (fun _ _ _ => False)
    (OwnFrom.and (Own.from (holdsRow_own w.heap.size w.heap.size 102 58 3 (fun pre : List Plc => pre.length) flatP (fun pre v => v = .slice none 0 0 ↔ pre = [])) _) (ownFrom_below (Nat.le_refl _) (by simp)))
    (fun _ _ _ _ _ hs _ _ => hs)
    ⟨⟨_, bO, World.ownsRow_nil _ _ _ _, by simp⟩, hB0⟩
    (fun x a' W => ∃ Bx, Box3 W Bx x ∧ a' = { tmps := #[.slice none 0 0, .func (.func 98) #[] #[.pointer (some ⟨Bm, 0, none⟩)], .pointer (some ⟨w.heap.size, 0, none⟩), undef, .slice none 0 0, .pointer (some ⟨Bx, 0, none⟩), .func (.func 98) #[] #[.pointer (some ⟨Bm, 0, none⟩)], .agg #[.int .i64 x.1, .int .i64 x.2.1, .int .i64 x.2.2], undef, undef, undef, undef, undef], defers := [] })
    (fun x a' _ X Y row hs hg hr => by
      obtain ⟨Bx, h2, h3⟩ := hs
      refine ⟨Bx, (hg.block Bx (Array.getElem?_eq_some_iff.1 h2).1 (fun e => ?_)).trans h2, h3⟩
      obtain ⟨_, o, ho, hc⟩ := hr Bx e.symm
      rw [show X.heap[Bx]? = _ from h2] at ho
      cases ho
      cases hc) ?assign ?body ?done ?stop
  case assign =>
    rintro l pre x W K ⟨⟨v, bV, hrow, hnil⟩, hB1⟩ hK
    gi_wp2
    exact hK _ _ ((KeepsOthers.alloc _ _).from _) (KeepsWalks.alloc _ _) ⟨⟨v, bV.alloc _, hrow.alloc _, hnil⟩, hB1.alloc hB1.size _⟩ ⟨W.heap.size, World.alloc_heap_new W _, rfl⟩
  case body =>
    rintro l pre x a' W hl ⟨r, hr⟩ ⟨⟨v, hv, hrow, hnil⟩, hB⟩ ⟨Bx, hBx, rfl⟩ hlt
    have hc := hv.cell
    have hx := hBx.rule
    gi_wp2_with (gi_at_builtin; refine wpListIn_append_own _ rfl _ _ 102 rfl w.heap.size 58 i0 (.agg #[.int .i64 0, .int .i64 0, .int .i64 0]) 3 24 Tryz.underlying102 hi hz0 hz1 hz2 rfl (by decide) _ _ _ rfl (hrow.alloc _) ⟨W.heap.size, 0, none⟩ 1 1 [.int .i64 x.1, .int .i64 x.2.1, .int .i64 x.2.2] rfl rfl (cells_new _ _ _) (by simp [Value.oneCell']) (by omega) (by omega) (by have := hB.size; simp; omega) ?_; intro v' w1 hown' hgrow _; obtain ⟨g', cap', rfl⟩ := ownsRow_succ hown'; obtain ⟨hv1, hv2, hr2, hk2, hb2⟩ := hv.appended (by decide) hrow hB.size (Nat.le_refl _) hown' hgrow; have hc1 := hv1.cell; have hf1 := hv1.frozen)
    exact ⟨hk2.from _, hk2.walks, ⟨_, hv2, by rw [flatP_snoc]; simpa [encP] using hr2, by simp⟩, hB.trans hb2⟩
  case done =>
    rintro D ys W hD hS ⟨⟨v, hv, hrow, hnil⟩, hB⟩ hK
    have hc := hv.cell
    gi_wp2
    refine ⟨by simp, .inl ⟨_, _, rfl, run_takeDeferred hK, ?_⟩⟩
    exact ⟨_, results_tmp rfl _ _ _, v, ys, rfl, hS, ownsRow_putObj hrow _ hK rfl, hnil, hB.trans (belowK_b (w := w) (Nat.le_refl _) W D _ _ (by simp at hD; omega) hK rfl rfl)⟩
  case stop =>
    rintro D c pre W _ _ h _
    exact h.elim
end Go.Proofs.YtchcdfoncebemaaGreatDoor

/- Places: those whose words aren't 0, in their order. -/
namespace Go.Proofs.YtchcdfoncebemaaGreatDoor
open Go.RowKit Go.Maps Go.Shelf Go.Sort
set_option maxRecDepth 100000

/-! ### rows of places -/
theorem holds_of_row {w : World} {g cap : Nat} {cur : Array Value} {l : List Plc} {t : TypeId} (hg : w.heap[g]? = some (.cells cur t (0, 0))) (hc : cur.size = cap * 3) (hl : l.length ≤ cap) (ht : cur.toList.take (l.length * 3) = flatP l) : HoldsK encP 3 w g 0 l.toArray := by
  intro j hj
  have hj' : j < l.length * 3 := by simpa using hj
  refine ⟨?_, by simp [World.frozen?, hg]⟩
  have h1 : (cur.toList.take (l.length * 3))[j]? = (flatP l)[j]? := by rw [ht]
  rw [List.getElem?_take_of_lt hj'] at h1
  have h2 := flatP_get l (j / 3) (j % 3) (by omega) (by omega)
  rw [show j / 3 * 3 + j % 3 = j by omega] at h2
  have h3 : (encP (l.getD (j / 3) z3))[j % 3]? = some ((encP (l.getD (j / 3) z3))[j % 3]!) := by
    have : j % 3 < (encP (l.getD (j / 3) z3)).length := by simp [encP]; omega
    rw [List.getElem?_eq_getElem this, getElem!_pos (encP (l.getD (j / 3) z3)) (j % 3) this]
  simp only [World.cell?, hg, Nat.zero_add]
  rw [get_flatK _ _ _ _ (by simpa using hj')]
  have h4 : l.toArray[j / 3]! = l.getD (j / 3) z3 := by
    have hlt : j / 3 < l.length := by omega
    simp [hlt]
  have h5 : cur[j]? = some ((encP (l.getD (j / 3) z3))[j % 3]!) := by
    rw [← h3, ← h2, ← h1]; simp
  rw [h4]
  simpa using h5

theorem grown_sorted {w : World} {g n : Nat} {os : Array Obj} (d : Array Plc) : w.grownBy (sortWorldK encP 3 w g 0 n d os) (some g) := by
  refine ⟨rfl, rfl, rfl, by simp [sortWorldK, putRowK, grow, putRow, mapBlock, Sort.ahead], fun k hk hne => ?_⟩
  have h1 : g ≠ k := fun e => hne (by rw [e])
  unfold sortWorldK putRowK
  rw [heap_grow_old _ _ (by simpa [putRow, mapBlock, Sort.ahead] using hk)]
  simp [putRow, mapBlock, Sort.ahead, Array.getElem?_modify, h1]

theorem row_of_holds {w : World} {g cap : Nat} {l : List Plc} (hg : g < w.heap.size) (h : HoldsK encP 3 w g 0 l.toArray) : RowP w (.slice (some ⟨g, 0, none⟩) l.length cap) l := by
  refine .inr ⟨g, cap, rfl, hg, fun j hj => ?_⟩
  have e : l.toArray[j]! = l.getD j z3 := by simp [hj]
  have h0 := (h.cell (i := j) (c := 0) (by simpa using hj) (by omega)).1
  have h1 := (h.cell (i := j) (c := 1) (by simpa using hj) (by omega)).1
  have h2 := (h.cell (i := j) (c := 2) (by simpa using hj) (by omega)).1
  rw [e] at h0 h1 h2
  simp only [Nat.zero_add, Nat.add_zero] at h0 h1 h2
  exact ⟨h0, h1, h2⟩

/-! ### the order -/
theorem sortL_perm (l : List Plc) : (sortL l).Perm l := List.mergeSort_perm _ _
theorem sortL_rising {l : List Plc} (h : l.Nodup) : Rising (sortL l) := by
  have hs : (sortL l).Pairwise fun x y => (!(ltOf cmpP) y x) = true := by
    unfold sortL
    refine List.pairwise_mergeSort (fun a b c h1 h2 => ?_) (fun a b => ?_) l
    · simp only [Bool.not_eq_true'] at *
      exact swoP.ntrans _ _ _ h2 h1
    · simp only [Bool.or_eq_true, Bool.not_eq_true']
      cases h1 : ltOf cmpP b a
      · exact .inl rfl
      · refine .inr ?_
        cases h2 : ltOf cmpP a b
        · rfl
        · have := swoP.trans _ _ _ h1 h2
          rw [swoP.irrefl] at this
          cases this
  have hn : (sortL l).Nodup := (sortL_perm l).nodup_iff.2 h
  refine (hs.and hn).imp fun {x y} hxy => ?_
  obtain ⟨h1, h2⟩ := hxy
  cases h3 : ltOf cmpP x y
  · exact absurd (totP x y h3 (by simpa using h1)) h2
  · rfl
theorem PlacesOf.sort {f : Plc → Int} {ss : List Plc} (h : OpsF f ss) : PlacesOf f (sortL ss) := ⟨sortL_rising h.1, fun x => ((sortL_perm ss).mem_iff).trans (h.2 x)⟩

/-! ### the calls -/
set_option maxHeartbeats 1000000 in
theorem collect_any {Bm nn : Nat} {mp : Option Nat} {f : Plc → Int} {w : World} (hBm : Bm < w.heap.size)
    (hm : w.cell? ⟨Bm, 0, none⟩ = some (.map mp)) (hM : MapIs w mp f nn) (hN : nn ≤ maxLen) (hNb : nn * 24 ≤ 140737488355328) :
    Calls Tryz.prog 96 #[.func (.func 98) #[] #[.pointer (some ⟨Bm, 0, none⟩)]] w fun e w' => ∃ v ss, e = .returned v ∧ OpsN f nn ss ∧ w'.ownsRow w.heap.size 58 3 v ss.length (flatP ss) ∧ (v = .slice none 0 0 ↔ ss = []) ∧ Below w.heap.size w w' := by
  have h1 : Calls Tryz.prog 109 #[.slice none 0 0, .func (.func 98) #[] #[.pointer (some ⟨Bm, 0, none⟩)]] w _ := (callsIn_wide (n := 6)).1 (append_in Fence.wide 6 trivial trivial rfl (by omega) hBm hm hM hN hNb)
  clear hm hM
  go_enter Tryz.func96, Tryz.ntmps96
  go_wp2_with (refine h1.mono ?_; rintro e w1 ⟨v, ss, rfl, h2, h3, h4, h5⟩)
  go_ret
  exact ⟨v, ss, rfl, h2, h3, h4, h5⟩

set_option maxHeartbeats 1000000 in
theorem sorted_any {Bm nn : Nat} {mp : Option Nat} {f : Plc → Int} {w : World} (hBm : Bm < w.heap.size)
    (hm : w.cell? ⟨Bm, 0, none⟩ = some (.map mp)) (hM : MapIs w mp f nn) (hN : nn ≤ maxLen) (hNb : nn * 24 ≤ 140737488355328) :
    Calls Tryz.prog 81 #[.func (.func 98) #[] #[.pointer (some ⟨Bm, 0, none⟩)], .func (.func 83) #[] #[]] w fun e w' => ∃ v l, e = .returned v ∧ PlacesOf f l ∧ RowP w' v l ∧ Below w.heap.size w w' := by
  have h1 := collect_any hBm hm hM hN hNb
  clear hm hM
  go_enter Tryz.func81, Tryz.ntmps81
  go_wp2_with fail
  refine h1.mono ?_
  rintro e w1 ⟨v, ss, rfl, ⟨h2, h2n⟩, h3, h4, h5⟩
  rcases h3.2 with ⟨rfl, hz⟩ | ⟨g, cap, cur, rfl, hg0, hg, hl, hcap, hcs, htk⟩
  · have hs : ss = [] := h4.1 rfl
    subst hs
    go_wp2_with (refine (sort_none _ _ _ _).mono ?_; rintro e w2 ⟨rfl, rfl⟩)
    go_ret
    exact ⟨_, [], rfl, ⟨List.Pairwise.nil, fun x => by simpa using h2.2 x⟩, .inl ⟨rfl, rfl⟩, h5⟩
  · have hH := holds_of_row hg hcs hl htk
    have hgl : g < w1.heap.size := (Array.getElem?_eq_some_iff.1 hg).1
    have hc := sort_any g 0 cap ss.toArray w1 hH hgl (by simp; omega)
    have h6 := PlacesOf.sort h2
    have hlen : (sortL ss).length = ss.length := (sortL_perm ss).length_eq
    simp only [List.size_toArray] at hc
    have HH := Lib.hid hH
    clear h1 h3 h4 hg htk hcs hH
    go_wp2_with (refine hc.mono ?_; rintro e w2 ⟨rfl, n, os, rfl⟩)
    go_ret
    have hgr := grown_sorted (w := w1) (g := g) (n := n) (os := os) (sortL ss).toArray
    refine ⟨_, sortL ss, rfl, h6, ?_, h5.grown hgr h5.size fun k e => by cases e; exact hg0⟩
    rw [← hlen]
    refine row_of_holds (Nat.lt_of_lt_of_le hgl hgr.size) (holdsK_grow _ _ _ _ _ _ _ (by simpa [putRowK, putRow, mapBlock, Sort.ahead] using hgl) (holdsK_putRowK _ _ _ _ _ ss.toArray _ ?_ (by simp [hlen])))
    exact holdsK_ahead _ _ _ _ _ _ _ HH.out

set_option maxHeartbeats 1000000 in
theorem places_any {c n : Nat} {F : Nat → Prop} {f : Plc → Int} {q : Cnt} {w : World} (hn : n ≤ 1000000) (hC : IsC w c F f q n) :
    Calls Tryz.prog 57 #[.pointer (some ⟨c, 0, none⟩)] w fun e w' => ∃ v l, e = .returned v ∧ PlacesOf f l ∧ RowP w' v l ∧ Below w.heap.size w w' := by
  obtain ⟨mp, hb, hm, hF⟩ := hC
  have r := hb.rule
  unfold cv at r
  have hk := fun w' => (callsIn_wide (n := 6)).1 (keys_in Fence.wide 6 trivial rfl mp w')
  have hs := sorted_any (w := w.alloc (.cells #[.map mp] 143)) (Bm := w.heap.size) (by simp) ((Blk.new 0 w [.map mp] _).rule 0) (hm.more _) (by unfold maxLen; omega) (by omega)
  go_enter Tryz.func57, Tryz.ntmps57
  go_wp2_with fail
  refine (hk _).mono ?_
  rintro e w1 ⟨rfl, rfl⟩
  clear hk
  go_wp2_with fail
  refine hs.mono ?_
  rintro e w2 ⟨v, l, rfl, h1, h2, h3⟩
  clear hs
  go_wp2
  go_ret
  exact ⟨v, l, rfl, h1, h2, ((Below.refl _ _).alloc (Nat.le_refl _) _).trans (h3.mono (by simp))⟩
end Go.Proofs.YtchcdfoncebemaaGreatDoor

/- The contract of memory: the program's words are the reference's. -/
namespace Go.Proofs.YtchcdfoncebemaaGreatDoor
open Go.RowKit Go.Maps
set_option maxRecDepth 100000

section
variable {w0 w : World} {R : List Item} {p c m n : Nat} {G FU : Nat → Prop} {qc : Cnt} {ml : List OneR}
set_option maxHeartbeats 3200000 in
theorem memory15 (hl : ml.length ≤ 900000) (hn : n ≤ 900000) (hE : Env w0 (wbox p c :: cellI c G (getL ml) qc n :: refI m FU ml :: R) w) :
    Calls Tryz.prog 27 #[.pointer (some ⟨p, 0, none⟩), .pointer (some ⟨m, 0, none⟩)] w fun o w' => o = .returned (.bool true) ∧ Env w0 (wbox p c :: cellI c G (getL ml) qc n :: refI m FU ml :: R) w' := by
  go_enter Tryz.func27, Tryz.ntmps27
  go_wp2_with fail
  refine (cells_w 0 1 hE rfl rfl).mono ?_
  rintro o w1 ⟨c2, F2, rfl, hE1⟩
  clear hE
  go_wp2_with fail
  refine (places_any (by omega) (hE1.cell 0 rfl)).mono ?_
  rintro e w5 ⟨v5, m5, rfl, hp5, hr5, hb⟩
  have hE5 := hE1.over hb
  clear hb hE1
  go_wp2_with fail
  refine (refPlaces_any (by omega) (hE5.ref 3 rfl).nodup (hE5.ref 3 rfl)).mono ?_
  rintro e w6 ⟨m6, v6, rfl, hp6, hm6, ho6, hb⟩
  have hE6 := hE5.over hb
  obtain rfl := hp5.eq hp6
  have hr5' := hr5.below hb
  have hr6 := ownsRow_rowP ho6
  have hwf : ∀ x ∈ m5, Wf x := fun x hx => Classical.byContradiction fun h => ((hp5.2 x).1 hx) ((hE6.cell 2 rfl).words.out x h)
  have hm5 : m5.length ≤ 900000 := by omega
  obtain ⟨A1, cp1, rfl⟩ := hr5'.len
  obtain ⟨A2, cp2, rfl⟩ := hr6.len
  have H1 := Lib.hid hr5'
  have H2 := Lib.hid hr6
  have HWF := Lib.hid hwf
  clear hb hE5 hp5 hp6 hr5 ho6 hm6 hr5' hr6 hwf
  go_wp2_with fail
  go_loopw [7] (fun i wr => ∃ k : Nat, k ≤ m5.length ∧ i = .int .i64 k ∧ Env w0 (cellI c2 F2 (getL ml) ⟨0, 0, 0, 0, 0⟩ n :: wbox p c :: cellI c G (getL ml) qc n :: refI m FU ml :: R) wr ∧ Below w6.heap.size w6 wr) (fun i _ => m5.length - (intOf i).toNat)
  case atStart => exact ⟨0, Nat.zero_le _, rfl, hE6, Below.refl _ _⟩
  case round =>
    clear hE6
    obtain ⟨k, hk, rfl, hEr, hB⟩ := hrel
    by_cases hlt : k < m5.length
    · have hb1 : decide ((k : Int) < (m5.length : Int)) = true := by simp; omega
      have hlti : (k : Int) < (m5.length : Int) := by omega
      rcases H1.out with ⟨h0, _⟩ | ⟨g1, cap1, e1, hg1, hc1⟩
      · rw [h0] at hlt; simp at hlt
      rcases H2.out with ⟨h0, _⟩ | ⟨g2, cap2, e2, hg2, hc2⟩
      · rw [h0] at hlt; simp at hlt
      simp only [Value.slice.injEq] at e1 e2
      obtain ⟨rfl, -, rfl⟩ := e1
      obtain ⟨rfl, -, rfl⟩ := e2
      obtain ⟨a0, a1, a2⟩ := hc1 k hlt
      obtain ⟨b0, b1, b2⟩ := hc2 k hlt
      have hx := HWF.out (m5.getD k z3) (by rw [List.getD_eq_getElem?_getD, List.getElem?_eq_getElem hlt]; exact List.getElem_mem hlt)
      clear hc1 hc2
      generalize m5.getD k z3 = o at a0 a1 a2 b0 b1 b2 hx
      obtain ⟨x, y, z⟩ := o
      simp only at a0 a1 a2 b0 b1 b2
      obtain ⟨v, hv⟩ : ∃ v, getL ml (x, y, z) = v := ⟨_, rfl⟩
      have HC : Hid (∀ w', (Env w0 (cellI c2 F2 (getL ml) ⟨0, 0, 0, 0, 0⟩ n :: wbox p c :: cellI c G (getL ml) qc n :: refI m FU ml :: R) w' ∧ Below w6.heap.size w6 w') → (w'.cell? ⟨g1, k * 3, none⟩ = some (.int .i64 x) ∧ w'.cell? ⟨g1, k * 3 + 1, none⟩ = some (.int .i64 y) ∧ w'.cell? ⟨g1, k * 3 + 2, none⟩ = some (.int .i64 z) ∧
          w'.cell? ⟨g2, k * 3, none⟩ = some (.int .i64 x) ∧ w'.cell? ⟨g2, k * 3 + 1, none⟩ = some (.int .i64 y) ∧ w'.cell? ⟨g2, k * 3 + 2, none⟩ = some (.int .i64 z))) := Lib.hid fun w' hb => by
        refine ⟨?_, ?_, ?_, ?_, ?_, ?_⟩
        · rw [hb.2.cell (p := ⟨g1, k * 3, none⟩) hg1]; exact a0
        · rw [hb.2.cell (p := ⟨g1, k * 3 + 1, none⟩) hg1]; exact a1
        · rw [hb.2.cell (p := ⟨g1, k * 3 + 2, none⟩) hg1]; exact a2
        · rw [hb.2.cell (p := ⟨g2, k * 3, none⟩) hg2]; exact b0
        · rw [hb.2.cell (p := ⟨g2, k * 3 + 1, none⟩) hg2]; exact b1
        · rw [hb.2.cell (p := ⟨g2, k * 3 + 2, none⟩) hg2]; exact b2
      have HPK : Hid (∀ w', (Env w0 (cellI c2 F2 (getL ml) ⟨0, 0, 0, 0, 0⟩ n :: wbox p c :: cellI c G (getL ml) qc n :: refI m FU ml :: R) w' ∧ Below w6.heap.size w6 w') → Calls Tryz.prog 36 #[.pointer (some ⟨p, 0, none⟩), .agg #[.int .i64 x, .int .i64 y, .int .i64 z]] w' fun e v' => e = .returned (.int .u64 v) ∧ Below w'.heap.size w' v') := Lib.hid fun w' hb => by
        rw [← hv]
        exact peek_w x y z hx 1 2 hb.1 rfl rfl
      have HGT : Hid (∀ w', (Env w0 (cellI c2 F2 (getL ml) ⟨0, 0, 0, 0, 0⟩ n :: wbox p c :: cellI c G (getL ml) qc n :: refI m FU ml :: R) w' ∧ Below w6.heap.size w6 w') → Calls Tryz.prog 50 #[.pointer (some ⟨m, 0, none⟩), .agg #[.int .i64 x, .int .i64 y, .int .i64 z]] w' fun e v' => e = .returned (.int .u64 v) ∧ Below w'.heap.size w' v') := Lib.hid fun w' hb => by
        rw [← hv]
        exact refGet_any x y z (by omega) (hb.1.ref 3 rfl)
      clear a0 a1 a2 b0 b1 b2 hv hx
      go_wp2_with fail
      refine wp_text (S := (fun w' => Env w0 (cellI c2 F2 (getL ml) ⟨0, 0, 0, 0, 0⟩ n :: wbox p c :: cellI c G (getL ml) qc n :: refI m FU ml :: R) w' ∧ Below w6.heap.size w6 w')) (by kernel_rfl) (by kernel_rfl) ⟨hEr.drew, hB.drew⟩ (fun hT => ?_)
      have hT9 := Lib.hid hT
      clear hT
      repeat (first
        | (refine text_value (v := ?_) hT9.out (by rfl) ?_ ?_; rotate_left; (focus (intro w5 hS; obtain ⟨a0, a1, a2, b0, b1, b2⟩ := HC.out _ hS; go_simp <;> with_reducible rfl)); (try simp only [Act.put, List.setIfInBounds_toArray, List.set_cons_zero, List.set_cons_succ]))
        | (refine text_off hT9.out (by rfl) ?_; (try simp only [Act.put, List.setIfInBounds_toArray, List.set_cons_zero, List.set_cons_succ]))
        | (refine text_call (v := ?_) (f := ?_) (args := ?_) hT9.out (by rfl) ?_ ?_ ?_; rotate_left 3; (focus (intro w5 hS; obtain ⟨a0, a1, a2, b0, b1, b2⟩ := HC.out _ hS; go_simp; constructor <;> with_reducible rfl)); (focus (intro w5 hS; (first | (with_reducible refine (HPK.out _ hS).mono ?_; rintro o w8 ⟨rfl, hb5⟩; constructor; with_reducible rfl; exact ⟨hS.1.over hb5, hS.2.trans (hb5.mono hS.2.size)⟩) | (with_reducible refine (HGT.out _ hS).mono ?_; rintro o w8 ⟨rfl, hb5⟩; constructor; with_reducible rfl; exact ⟨hS.1.over hb5, hS.2.trans (hb5.mono hS.2.size)⟩)))); (try simp only [Act.put, List.setIfInBounds_toArray, List.set_cons_zero, List.set_cons_succ])))
      refine InText.nil fun w5 hS5 => ?_
      clear hT9
      clear hEr hB HC HPK HGT
      go_wp2_with fail
      exact ⟨⟨k + 1, by omega, by simp, hS5⟩, by simp [intOf]; omega⟩
    · have hb1 : decide ((k : Int) < (m5.length : Int)) = false := by simp; omega
      go_wp2_with fail
      go_ret
      exact ⟨rfl, hEr.sub (.cons _ (List.Sublist.refl _))⟩
end
end Go.Proofs.YtchcdfoncebemaaGreatDoor

/- Threads: the contract of step, where an Alloc goes on. -/
namespace Go.Proofs.YtchcdfoncebemaaGreatDoor
open Go.RowKit Go.Maps
set_option maxRecDepth 100000

/-- Permutations of things, by counting. -/
theorem perm_of {L L' : List Item} (h : ∀ [BEq Item] [LawfulBEq Item] (z : Item), L.count z = L'.count z) : L.Perm L' := by
  classical
  exact List.perm_iff_count.2 fun z => h z
theorem Env.mem {w0 w : World} {L : List Item} (h : Env w0 L w) {a : Item} (ha : a ∈ L) : a.says w := (h.2.2 a ha).1
end Go.Proofs.YtchcdfoncebemaaGreatDoor

/- Shared cells: the contracts of the accesses. -/
namespace Go.Proofs.YtchcdfoncebemaaGreatDoor
open Go.RowKit Go.Maps
set_option maxRecDepth 100000

section
variable {w w' : World} {c n : Nat} {F : Nat → Prop} {f : Plc → Int} {q : Cnt}
end

set_option maxHeartbeats 800000 in
theorem count_any {c n : Nat} {F : Nat → Prop} {f : Plc → Int} {q : Cnt} {w : World} (hC : IsC w c F f q n) :
    Calls Tryz.prog 54 #[.pointer (some ⟨c, 0, none⟩)] w fun e w' => e = .returned (.agg #[.int .i64 q.l, .int .i64 q.s, .int .i64 q.w, .int .i64 q.f, .int .i64 q.a]) ∧ Below w.heap.size w w' := by
  obtain ⟨mp, hb, hm, hF⟩ := hC
  have r1 := cell_more hb.1 hb.rule
  unfold cv at r1
  go_enter Tryz.func54, Tryz.ntmps54
  go_wp2
  refine bodyPost_ret (v := .agg #[.int .i64 q.l, .int .i64 q.s, .int .i64 q.w, .int .i64 q.f, .int .i64 q.a]) (by simp [results, Tryz.results54, go_sem]) rfl ⟨rfl, ?_⟩
  exact (Below.refl _ _).alloc (Nat.le_refl _) _
end Go.Proofs.YtchcdfoncebemaaGreatDoor

/- The plain world: contracts of its accesses: each is the cells' own, among whatever other things there are. -/
namespace Go.Proofs.YtchcdfoncebemaaGreatDoor
open Go.RowKit Go.Maps
set_option maxRecDepth 100000

section
variable {w0 w : World} {L : List Item} {p c n : Nat} {F : Nat → Prop} {f : Plc → Int} {q : Cnt}

set_option maxHeartbeats 1600000 in
theorem count_w (i j : Nat) (hE : Env w0 L w) (hi : L[i]? = some (wbox p c)) (hj : L[j]? = some (cellI c F f q n)) :
    Calls Tryz.prog 15 #[.pointer (some ⟨p, 0, none⟩)] w fun e w' => e = .returned (.agg #[.int .i64 q.l, .int .i64 q.s, .int .i64 q.w, .int .i64 q.f, .int .i64 q.a]) ∧ Below w.heap.size w w' := by
  have hb := (Below.refl w.heap.size w).alloc (Nat.le_refl _) (.cells #[.int .i64 0, .int .i64 0, .int .i64 0, .int .i64 0, .int .i64 0] 55)
  replace hE := hE.box w.heap.size rfl [.int .i64 0, .int .i64 0, .int .i64 0, .int .i64 0, .int .i64 0] 55
  go_enter Tryz.func15, Tryz.ntmps15
  go_wp2_with fail
  refine (kept_any (hE.wblk (i + 1) hi)).mono ?_
  rintro e w1 ⟨rfl, rfl⟩
  go_wp2_with fail
  refine (count_any (hE.cell (j + 1) hj)).mono ?_
  rintro e w2 ⟨rfl, hb2⟩
  have hE2 := hE.over hb2
  have f5 := hE2.thaw 0 rfl
  have f0 := f5 0 (by simp)
  have f1 := f5 1 (by simp)
  have f2 := f5 2 (by simp)
  have f3 := f5 3 (by simp)
  have f4 := f5 4 (by simp)
  have r := hE2.rule 0 rfl
  have hB := hb.trans (hb2.mono hb.size)
  clear f5
  go_wp2
  have hP := hE2.put5 0 rfl (.int .i64 q.l) (.int .i64 q.s) (.int .i64 q.w) (.int .i64 q.f) (.int .i64 q.a)
  have q9 := hP.rule 0 rfl
  refine bodyPost_ret (v := .agg #[.int .i64 q.l, .int .i64 q.s, .int .i64 q.w, .int .i64 q.f, .int .i64 q.a]) (by simp [results, Tryz.results15, go_sem, q9]) rfl ⟨rfl, ?_⟩
  exact ((((hB.setCell (Nat.le_refl _) _).setCell (Nat.le_refl _) _).setCell (Nat.le_refl _) _).setCell (Nat.le_refl _) _).setCell (Nat.le_refl _) _
end
end Go.Proofs.YtchcdfoncebemaaGreatDoor

/- Threads: what they are in memory; contracts of what they tell. -/
namespace Go.Proofs.YtchcdfoncebemaaGreatDoor
open Go.RowKit Go.Maps
set_option maxRecDepth 100000

section
variable {w : World} {c q : Nat} {k s b h l e r hs hi : Int}
set_option maxHeartbeats 800000 in
theorem rolls_c (hb : Blk 0 w c (crv k s b h l e r hs hi q)) : Calls Tryz.prog 19 #[.pointer (some ⟨c, 0, none⟩)] w fun o w' => o = .returned (.int .i64 r) ∧ w' = w := by
  have r1 := hb.rule
  unfold crv at r1
  go_enter Tryz.func19, Tryz.ntmps19
  go_wp2
  go_ret
  exact ⟨rfl, rfl⟩
end
end Go.Proofs.YtchcdfoncebemaaGreatDoor

/- Threads: what they are in memory; contracts of what they tell. -/
namespace Go.Proofs.YtchcdfoncebemaaGreatDoor
open Go.RowKit Go.Maps
set_option maxRecDepth 100000

section
variable {w : World} {c q : Nat} {k s b h l e r hs hi : Int}
set_option maxHeartbeats 800000 in
theorem epoch_c (hb : Blk 0 w c (crv k s b h l e r hs hi q)) : Calls Tryz.prog 20 #[.pointer (some ⟨c, 0, none⟩)] w fun o w' => o = .returned (.int .i64 e) ∧ w' = w := by
  have r1 := hb.rule
  unfold crv at r1
  go_enter Tryz.func20, Tryz.ntmps20
  go_wp2
  go_ret
  exact ⟨rfl, rfl⟩
end
end Go.Proofs.YtchcdfoncebemaaGreatDoor

/- A search of the program and one of the reference, of equal words, among other things. -/
namespace Go.Proofs.YtchcdfoncebemaaGreatDoor
open Go.RowKit Go.Maps
set_option maxRecDepth 100000

/-- Where both searches' things are. -/
structure Js where
  B : Bs
  (sb qb u m : Nat)
  (k key : Int)
  (vs : Bool)
/-- The program's things but for the world's are these. -/
def PConv (w0 : World) (J : Js) (s : Int) (T : Sm) (M : List Item) : Prop :=
  (∀ G f qc n R w, Env w0 (M ++ (wbox J.B.p J.B.cc :: cellI J.B.cc G f qc n :: R)) w → SrchR w0 R J.sb J.k J.key J.vs (mkS J.B G f qc n T.e T.r) s T w) ∧ coreI J.B.c 2 1000 3 1 1073741824 T.e T.r 0 0 J.B.q ∈ M ∧
  (T.on = true → ∃ a nx wd, boxI a (laneV J.B.c 0 J.key J.vs nx s wd (pfS s T.L) (pvS s T.L) T.L) ∈ M ∧ boxI J.sb (srC J.B.c J.k J.key J.vs (.pointer (some ⟨a, 0, none⟩))) ∈ M)
/-- The reference's things but for its memory are these. -/
def QConv (w0 : World) (J : Js) (T : Sm) (Q : List Item) : Prop :=
  (∀ F ml N R w, ml.length ≤ N → Env w0 (Q ++ (refI J.m F ml :: R)) w → RSr w0 R J.qb J.u J.m J.k J.key J.vs T (getL ml) N w) ∧ boxI J.u (ruC T.e T.r) ∈ Q ∧
  (T.on = true → ∃ b, boxI b (rlV 0 J.key J.vs T.L) ∈ Q ∧ boxI J.qb (rsC J.k J.key J.vs true (some ⟨b, 0, none⟩)) ∈ Q)
def BothE (w0 : World) (R : List Item) (J : Js) (G : Nat → Prop) (f : Plc → Int) (qc : Cnt) (n : Nat) (s : Int) (T T2 : Sm) (f2 : Plc → Int) (N : Nat) (w : World) : Prop :=
  ∃ M Q F ml, PConv w0 J s T M ∧ QConv w0 J T2 Q ∧ getL ml = f2 ∧ ml.length ≤ N ∧ Env w0 (M ++ (Q ++ (wbox J.B.p J.B.cc :: cellI J.B.cc G f qc n :: refI J.m F ml :: R))) w

section
variable {w0 w w' : World} {R M Q : List Item} {J : Js} {G F : Nat → Prop} {f f2 : Plc → Int} {qc : Cnt} {n N : Nat} {s : Int} {T T2 : Sm} {ml : List OneR}
theorem SrchR.out (h : SrchR w0 R J.sb J.k J.key J.vs (mkS J.B G f qc n T.e T.r) s T w) : ∃ M, PConv w0 J s T M ∧ Env w0 (M ++ (wbox J.B.p J.B.cc :: cellI J.B.cc G f qc n :: R)) w := by
  obtain ⟨-, -, ⟨hoff, rfl, hE | ⟨a, L, nx, wd, B1, B2, hn, hE⟩⟩ | ⟨hon, a, nx, wd, B1, B2, hn, hE⟩⟩ := h
  · exact ⟨[boxI J.sb (srC J.B.c J.k J.key J.vs (.pointer none)), coreI J.B.c 2 1000 3 1 1073741824 T.e T.r 0 0 J.B.q, queueI J.B.q J.B.F [] J.B.kq], ⟨fun G f qc n R w h => ⟨rfl, rfl, .inl ⟨hoff, rfl, .inl h⟩⟩, by simp, fun h => absurd h (by rw [hoff]; decide)⟩, hE⟩
  · refine ⟨[boxI a (laneV J.B.c 0 J.key J.vs nx 2 wd (pfS 2 L) (pvS 2 L) L), B1, B2, coreI J.B.c 2 1000 3 1 1073741824 T.e T.r 0 0 J.B.q, queueI J.B.q J.B.F [] J.B.kq, boxI J.sb (srC J.B.c J.k J.key J.vs (.pointer (some ⟨a, 0, none⟩)))], ⟨fun G f qc n R w h => ⟨rfl, rfl, .inl ⟨hoff, rfl, .inr ⟨a, L, nx, wd, B1, B2, hn, ?_⟩⟩⟩, by simp, fun h => absurd h (by rw [hoff]; decide)⟩, ?_⟩
    · exact h.perm ((List.perm_middle (l₁ := [_, _])).symm.append_left [_, _, _, _, _])
    · exact hE.perm ((List.perm_middle (l₁ := [_, _])).append_left [_, _, _, _, _])
  · refine ⟨[boxI a (laneV J.B.c 0 J.key J.vs nx s wd (pfS s T.L) (pvS s T.L) T.L), B1, B2, coreI J.B.c 2 1000 3 1 1073741824 T.e T.r 0 0 J.B.q, queueI J.B.q J.B.F [] J.B.kq, boxI J.sb (srC J.B.c J.k J.key J.vs (.pointer (some ⟨a, 0, none⟩)))], ⟨fun G f qc n R w h => ⟨rfl, rfl, .inr ⟨hon, a, nx, wd, B1, B2, hn, ?_⟩⟩, by simp, fun _ => ⟨a, nx, wd, by simp, by simp⟩⟩, ?_⟩
    · exact h.perm ((List.perm_middle (l₁ := [_, _])).symm.append_left [_, _, _, _, _])
    · exact hE.perm ((List.perm_middle (l₁ := [_, _])).append_left [_, _, _, _, _])
theorem RSr.out (h : RSr w0 R J.qb J.u J.m J.k J.key J.vs T f N w) : ∃ Q F ml, QConv w0 J T Q ∧ getL ml = f ∧ ml.length ≤ N ∧ Env w0 (Q ++ (refI J.m F ml :: R)) w := by
  rcases h with ⟨hoff, lp, F, ml, hf, hl, hE⟩ | ⟨hon, b, F, ml, hf, hl, hE⟩
  · exact ⟨[boxI J.qb (rsC J.k J.key J.vs false lp), boxI J.u (ruC T.e T.r)], F, ml, ⟨fun F ml N R w hl h => .inl ⟨hoff, lp, F, ml, rfl, hl, h⟩, by simp, fun h => absurd h (by rw [hoff]; decide)⟩, hf, hl, hE⟩
  · refine ⟨[boxI b (rlV 0 J.key J.vs T.L), boxI J.u (ruC T.e T.r), boxI J.qb (rsC J.k J.key J.vs true (some ⟨b, 0, none⟩))], F, ml, ⟨fun F ml N R w hl h => .inr ⟨hon, b, F, ml, rfl, hl, ?_⟩, by simp, fun _ => ⟨b, by simp, by simp⟩⟩, hf, hl, ?_⟩
    · exact h.perm ((List.perm_middle (l₁ := [_])).symm.append_left [_, _])
    · exact hE.perm ((List.perm_middle (l₁ := [_])).append_left [_, _])
theorem perm_prog (M Q R : List Item) (a b c : Item) : (M ++ (Q ++ (a :: b :: c :: R))).Perm (M ++ (a :: b :: (Q ++ (c :: R)))) := perm_of fun z => by simp only [List.count_append, List.count_cons]; omega
theorem perm_ref (M Q R : List Item) (a b c : Item) : (M ++ (Q ++ (a :: b :: c :: R))).Perm (Q ++ (c :: (M ++ (a :: b :: R)))) := perm_of fun z => by simp only [List.count_append, List.count_cons]; omega
theorem perm_mem (M Q R : List Item) (a b c : Item) : (M ++ (Q ++ (a :: b :: c :: R))).Perm (a :: b :: c :: (M ++ (Q ++ R))) := perm_of fun z => by simp only [List.count_append, List.count_cons]; omega
theorem BothE.over (h : BothE w0 R J G f qc n s T T2 f2 N w) (hb : Below w.heap.size w w') : BothE w0 R J G f qc n s T T2 f2 N w' := by
  obtain ⟨M, Q, F, ml, h1, h2, h3, h4, hE⟩ := h
  exact ⟨M, Q, F, ml, h1, h2, h3, h4, hE.over hb⟩
theorem BothE.below (h : BothE w0 R J G f qc n s T T2 f2 N w) : Below w0.heap.size w0 w := by
  obtain ⟨M, Q, F, ml, h1, h2, h3, h4, hE⟩ := h
  exact hE.below
theorem BothE.words (h : BothE w0 R J G f qc n s T T2 f2 N w) : Words f := by
  obtain ⟨M, Q, F, ml, h1, h2, h3, h4, hE⟩ := h
  exact ((hE.perm (perm_mem M Q R _ _ _)).cell 1 rfl).words
theorem BothE.rest (h : BothE w0 R J G f qc n s T T2 f2 N w) {x : Item} (hx : x ∈ R) : x.says w := by
  obtain ⟨M, Q, F, ml, h1, h2, h3, h4, hE⟩ := h
  exact hE.mem (by simp [hx])
theorem both_prog (hT : SmOk T) (hg : Glo w0) (hn : n < maxLen) (h : BothE w0 R J G f qc n 0 T T2 f2 N w) :
    Calls Tryz.prog 17 #[.pointer (some ⟨J.sb, 0, none⟩), .iface 33 (.pointer (some ⟨J.B.p, 0, none⟩))] w fun o w' => o = .returned (.int .i64 (searchM J.k J.key J.vs T f).1) ∧ ∃ G', BothE w0 R J G' (searchM J.k J.key J.vs T f).2.2 (qcM T f qc) (mM T n) (searchM J.k J.key J.vs T f).1 (searchM J.k J.key J.vs T f).2.1 T2 f2 N w' := by
  obtain ⟨M, Q, F, ml, h1, h2, h3, h4, hE⟩ := h
  refine (search_k hT hg hn (h1.1 _ _ _ _ _ _ (hE.perm (perm_prog M Q R _ _ _)))).mono ?_
  rintro o w1 ⟨rfl, G', hR⟩
  obtain ⟨M', hM', hE'⟩ := hR.out
  exact ⟨rfl, G', M', Q, F, ml, hM', h2, h3, h4, hE'.perm (perm_prog M' Q R _ _ _).symm⟩
theorem both_ref (hT : SmOk T2) (he : 0 ≤ T2.e ∧ T2.e ≤ 9223372036854775807) (hu : ∀ x, InU (f2 x)) (hN : N ≤ 1000000) (h : BothE w0 R J G f qc n s T T2 f2 N w) :
    Calls Tryz.prog 18 #[.pointer (some ⟨J.qb, 0, none⟩), .pointer (some ⟨J.u, 0, none⟩), .pointer (some ⟨J.m, 0, none⟩)] w fun o w' => o = .returned (.int .i64 (searchM J.k J.key J.vs T2 f2).1) ∧ BothE w0 R J G f qc n s T (searchM J.k J.key J.vs T2 f2).2.1 (searchM J.k J.key J.vs T2 f2).2.2 (N + 1) w' := by
  obtain ⟨M, Q, F, ml, h1, h2, h3, h4, hE⟩ := h
  subst h3
  refine (rsearch hT he hu hN (h2.1 _ _ _ _ _ h4 (hE.perm (perm_ref M Q R _ _ _)))).mono ?_
  rintro o w1 ⟨rfl, hR⟩
  obtain ⟨Q', F', ml', hQ', hf', hl', hE'⟩ := hR.out
  exact ⟨rfl, M, Q', F', ml', h1, hQ', hf', hl', hE'.perm (perm_ref M Q' R _ _ _).symm⟩
theorem both_count (h : BothE w0 R J G f qc n s T T2 f2 N w) : Calls Tryz.prog 15 #[.pointer (some ⟨J.B.p, 0, none⟩)] w fun e w' => e = .returned (.agg #[.int .i64 qc.l, .int .i64 qc.s, .int .i64 qc.w, .int .i64 qc.f, .int .i64 qc.a]) ∧ Below w.heap.size w w' := by
  obtain ⟨M, Q, F, ml, h1, h2, h3, h4, hE⟩ := h
  exact count_w 0 1 (hE.perm (perm_mem M Q R _ _ _)) rfl rfl
theorem both_rolls (h : BothE w0 R J G f qc n s T T2 f2 N w) : Calls Tryz.prog 19 #[.pointer (some ⟨J.B.c, 0, none⟩)] w fun o w' => o = .returned (.int .i64 T.r) ∧ w' = w := by
  obtain ⟨M, Q, F, ml, h1, h2, h3, h4, hE⟩ := h
  exact rolls_c (hE.mem (List.mem_append_left _ h1.2.1))
theorem both_epoch (h : BothE w0 R J G f qc n s T T2 f2 N w) : Calls Tryz.prog 20 #[.pointer (some ⟨J.B.c, 0, none⟩)] w fun o w' => o = .returned (.int .i64 T.e) ∧ w' = w := by
  obtain ⟨M, Q, F, ml, h1, h2, h3, h4, hE⟩ := h
  exact epoch_c (hE.mem (List.mem_append_left _ h1.2.1))
theorem both_ucell (h : BothE w0 R J G f qc n s T T2 f2 N w) : w.cell? ⟨J.u, 5, none⟩ = some (.int .i64 T2.e) ∧ w.cell? ⟨J.u, 9, none⟩ = some (.int .i64 T2.r) := by
  obtain ⟨M, Q, F, ml, h1, h2, h3, h4, hE⟩ := h
  have hb : Blk 0 w J.u (ruC T2.e T2.r) := hE.mem (List.mem_append_right _ (List.mem_append_left _ h2.2.1))
  exact ⟨hb.rule 5, hb.rule 9⟩
theorem both_disturb (kd x y z v : Int) (hx : Wf (x, y, z)) (hv : InU v) (hn : n < maxLen) (hN : N ≤ 900000) (h : BothE w0 R J G f qc n s T T2 f N w) :
    Calls Tryz.prog 16 #[.pointer (some ⟨J.B.p, 0, none⟩), .pointer (some ⟨J.m, 0, none⟩), .agg #[.int .i64 kd, .int .i64 x, .int .i64 y, .int .i64 z, .int .u64 v]] w fun o w' => o = .returned (.tuple #[]) ∧ ∃ G' f' n', n' ≤ n + 1 ∧ BothE w0 R J G' f' (dQ kd qc) n' s T T2 f' (N + 1) w' := by
  obtain ⟨M, Q, F, ml, h1, h2, rfl, h4, hE⟩ := h
  refine (disturb_t kd x y z v hx hv hn (by omega) (hE.perm (perm_mem M Q R _ _ _))).mono ?_
  rintro o w1 ⟨rfl, G', F', ml', n', hl', hn', hE'⟩
  exact ⟨rfl, G', getL ml', n', hn', M, Q, F', ml', h1, h2, rfl, by omega, hE'.perm (perm_mem M Q R _ _ _).symm⟩
theorem both_memory (hn : n ≤ 900000) (hN : N ≤ 900000) (h : BothE w0 R J G f qc n s T T2 f N w) :
    Calls Tryz.prog 27 #[.pointer (some ⟨J.B.p, 0, none⟩), .pointer (some ⟨J.m, 0, none⟩)] w fun o w' => o = .returned (.bool true) ∧ BothE w0 R J G f qc n s T T2 f N w' := by
  obtain ⟨M, Q, F, ml, h1, h2, rfl, h4, hE⟩ := h
  refine (memory15 (by omega) hn (hE.perm (perm_mem M Q R _ _ _))).mono ?_
  rintro o w1 ⟨rfl, hE'⟩
  exact ⟨rfl, M, Q, F, ml, h1, h2, rfl, h4, hE'.perm (perm_mem M Q R _ _ _).symm⟩
end
end Go.Proofs.YtchcdfoncebemaaGreatDoor

/- A search alone, by plain mathematics: chains, and how they go. -/
namespace Go.Proofs.YtchcdfoncebemaaGreatDoor
open Go.RowKit Go.Maps
set_option maxRecDepth 100000

/-- The link's cell of a slot. -/
def lkP (s : Int) : Plc := (5, s, 7)
/-- What was gone along: from a place to a place. -/
def Seg (f : Plc → Int) : Plc → List Nd → Plc → Prop
  | p, [], q => p = q
  | p, n :: r, q => slotI (f p) = n.s ∧ Seg f (lkP n.s) r q
/-- What lies ahead. -/
def Ch (f : Plc → Int) : Plc → List Nd → Prop
  | p, [] => slotI (f p) = 0
  | p, n :: r => slotI (f p) = n.s ∧ f (5, n.s, 3) = n.key ∧ f (5, n.s, 4) = n.val ∧ markB (f (lkP n.s)) = n.mb ∧ Ch f (lkP n.s) r
/-- A list's slots. -/
def Sl (f : Plc → Int) : Plc → List Nd → Prop
  | p, [] => slotI (f p) = 0
  | p, n :: r => slotI (f p) = n.s ∧ Sl f (lkP n.s) r
theorem lkP_inj {a b : Int} (h : a ≠ b) : lkP a ≠ lkP b := fun e => h (by unfold lkP at e; simpa using e)
theorem lkP_key (a b : Int) : ((5, a, 3) : Plc) ≠ lkP b := fun e => by unfold lkP at e; simp at e
theorem lkP_val (a b : Int) : ((5, a, 4) : Plc) ≠ lkP b := fun e => by unfold lkP at e; simp at e
theorem Ch.sl {f : Plc → Int} : ∀ {ns : List Nd} {p : Plc}, Ch f p ns → Sl f p ns
  | [], _, h => h
  | _ :: _, _, ⟨h1, _, _, _, h2⟩ => ⟨h1, h2.sl⟩
theorem Seg.sl {f : Plc → Int} : ∀ {ds ns : List Nd} {p q : Plc}, Seg f p ds q → Sl f q ns → Sl f p (ds ++ ns)
  | [], _, _, _, h, h2 => by cases h; exact h2
  | _ :: _, _, _, _, ⟨h1, h3⟩, h2 => ⟨h1, h3.sl h2⟩
theorem Seg.snoc {f : Plc → Int} {n : Nd} : ∀ {ds : List Nd} {p q : Plc}, Seg f p ds q → slotI (f q) = n.s → Seg f p (ds ++ [n]) (lkP n.s)
  | [], _, _, h, h2 => by cases h; exact ⟨h2, rfl⟩
  | _ :: _, _, _, ⟨h1, h3⟩, h2 => ⟨h1, h3.snoc h2⟩
theorem Seg.ends {f : Plc → Int} : ∀ {ds : List Nd} {p q : Plc}, Seg f p ds q → q = p ∨ ∃ d ∈ ds, q = lkP d.s
  | [], _, _, h => .inl h.symm
  | d :: _, _, _, ⟨_, h3⟩ => by
    rcases h3.ends with h | ⟨d', hd, h⟩
    · exact .inr ⟨d, List.mem_cons_self .., h⟩
    · exact .inr ⟨d', List.mem_cons_of_mem _ hd, h⟩
theorem Seg.upd {f : Plc → Int} {v : Int} : ∀ {ds : List Nd} {p q : Plc}, Seg f p ds q → (ds.map (·.s)).Nodup → (∀ d ∈ ds, p ≠ lkP d.s) → Seg (upd f q v) p ds q
  | [], _, _, h, _, _ => h
  | d :: r, p, q, ⟨h1, h3⟩, hn, hp => by
    rw [List.map_cons, List.nodup_cons] at hn
    have hpq : p ≠ q := by
      rcases h3.ends with h | ⟨d', hd, h⟩
      · rw [h]; exact hp d (List.mem_cons_self ..)
      · rw [h]; exact hp d' (List.mem_cons_of_mem _ hd)
    refine ⟨by rw [upd_other f v hpq]; exact h1, h3.upd hn.2 fun d' hd => lkP_inj fun e => hn.1 ?_⟩
    rw [e]
    exact List.mem_map.2 ⟨d', hd, rfl⟩
/-- A cell that is not a link's. -/
def NoKV (q : Plc) : Prop := ∀ s : Int, ((5, s, 3) : Plc) ≠ q ∧ ((5, s, 4) : Plc) ≠ q
theorem noKV_lk (s : Int) : NoKV (lkP s) := fun _ => ⟨lkP_key _ _, lkP_val _ _⟩
theorem noKV_root (k : Int) : NoKV (4, 0, k) := fun _ => ⟨by simp, by simp⟩
theorem Ch.other {f g : Plc → Int} : ∀ {ns : List Nd} {p : Plc}, Ch f p ns → g p = f p → (∀ n ∈ ns, g (5, n.s, 3) = f (5, n.s, 3) ∧ g (5, n.s, 4) = f (5, n.s, 4) ∧ g (lkP n.s) = f (lkP n.s)) → Ch g p ns
  | [], _, h, hp, _ => by show slotI _ = 0; rw [hp]; exact h
  | n :: r, _, ⟨h1, h2, h3, h4, h5⟩, hp, ha => by
    obtain ⟨a1, a2, a3⟩ := ha n (List.mem_cons_self ..)
    exact ⟨by rw [hp]; exact h1, by rw [a1]; exact h2, by rw [a2]; exact h3, by rw [a3]; exact h4, h5.other a3 fun m hm => ha m (List.mem_cons_of_mem _ hm)⟩
/-- A marked head is cut off. -/
theorem Ch.cut {f : Plc → Int} {q : Plc} {n : Nd} {r : List Nd} {v : Int} (h : Ch f q (n :: r)) (hq : NoKV q) (hv : slotI v = slotI (f (lkP n.s))) (hr : ∀ m ∈ r, lkP m.s ≠ q) : Ch (upd f q v) q r := by
  obtain ⟨-, -, -, -, h5⟩ := h
  have ho : ∀ m ∈ r, upd f q v (5, m.s, 3) = f (5, m.s, 3) ∧ upd f q v (5, m.s, 4) = f (5, m.s, 4) ∧ upd f q v (lkP m.s) = f (lkP m.s) := fun m hm => ⟨upd_other f v (hq m.s).1, upd_other f v (hq m.s).2, upd_other f v (hr m hm)⟩
  match r, h5, ho with
  | [], h5, _ =>
    show slotI _ = 0
    rw [upd_same, hv]
    exact h5
  | m :: t, ⟨g1, g2, g3, g4, g5⟩, ho =>
    obtain ⟨a1, a2, a3⟩ := ho m (List.mem_cons_self ..)
    exact ⟨by rw [upd_same, hv]; exact g1, by rw [a1]; exact g2, by rw [a2]; exact g3, by rw [a3]; exact g4, g5.other a3 fun x hx => ho x (List.mem_cons_of_mem _ hx)⟩

/-- What is left of a list. -/
def wantN (key : Int) : List Nd → List Nd
  | [] => []
  | n :: r => if n.mb then wantN key r else if n.key < key then n :: wantN key r else n :: r
/-- The first without a mark that is not below. -/
def hitN (key : Int) : List Nd → Option Nd
  | [] => none
  | n :: r => if n.mb then hitN key r else if n.key < key then hitN key r else some n
def fdN (key : Int) (o : Option Nd) : Bool := match o with | none => false | some n => decide (n.key = key)
def vlN (o : Option Nd) : Int := match o with | none => 0 | some n => n.val

/-- How a list lies that is gone along. -/
structure Lies (f : Plc → Int) (k : Int) (q : Plc) (ds ns : List Nd) : Prop where
  ep : f (1, 0, 0) = 9
  seg : Seg f (4, 0, k) ds q
  ch : Ch f q ns
  nd : ((ds ++ ns).map (·.s)).Nodup
  rg : ∀ n ∈ ds ++ ns, 1 ≤ n.s ∧ n.s ≤ 1000
theorem Lies.noKV {f : Plc → Int} {k : Int} {q : Plc} {ds ns : List Nd} (h : Lies f k q ds ns) : NoKV q := by
  rcases h.seg.ends with e | ⟨d, -, e⟩
  · rw [e]; exact noKV_root k
  · rw [e]; exact noKV_lk _
theorem Lies.noep {f : Plc → Int} {k : Int} {q : Plc} {ds ns : List Nd} (h : Lies f k q ds ns) : ((1, 0, 0) : Plc) ≠ q := by
  rcases h.seg.ends with e | ⟨d, -, e⟩
  · rw [e]; simp
  · rw [e]; simp [lkP]
theorem Lies.cut {f : Plc → Int} {k : Int} {q : Plc} {ds r : List Nd} {n : Nd} {v : Int} (h : Lies f k q ds (n :: r)) (hv : slotI v = slotI (f (lkP n.s))) : Lies (upd f q v) k q ds r := by
  have hnd := h.nd
  rw [List.map_append, List.nodup_append, List.map_cons, List.nodup_cons] at hnd
  obtain ⟨n1, ⟨n2, n3⟩, n4⟩ := hnd
  refine ⟨by rw [upd_other f v h.noep]; exact h.ep, h.seg.upd n1 fun d _ => by simp [lkP], h.ch.cut h.noKV hv fun m hm e => ?_, ?_, fun m hm => h.rg m ?_⟩
  · rcases h.seg.ends with e1 | ⟨d, hd, e1⟩
    · rw [e1] at e; simp [lkP] at e
    · rw [e1] at e
      refine n4 d.s (List.mem_map.2 ⟨d, hd, rfl⟩) m.s (List.mem_cons_of_mem _ (List.mem_map.2 ⟨m, hm, rfl⟩)) ?_
      exact Classical.byContradiction fun h9 => lkP_inj h9 e.symm
  · rw [List.map_append, List.nodup_append]
    exact ⟨n1, n3, fun a ha b hb => n4 a ha b (List.mem_cons_of_mem _ hb)⟩
  · rcases List.mem_append.1 hm with hm | hm
    · exact List.mem_append_left _ hm
    · exact List.mem_append_right _ (List.mem_cons_of_mem _ hm)
theorem Lies.pass {f : Plc → Int} {k : Int} {q : Plc} {ds r : List Nd} {n : Nd} (h : Lies f k q ds (n :: r)) : Lies f k (lkP n.s) (ds ++ [n]) r :=
  ⟨h.ep, h.seg.snoc h.ch.1, h.ch.2.2.2.2, by rw [List.append_assoc]; exact h.nd, by rw [List.append_assoc]; exact h.rg⟩

/-- How a lane stands, alone, at a list; how many steps it has at most. -/
def La (k key : Int) (L : Lm) (f : Plc → Int) (ds ns : List Nd) (mu : Nat) : Prop :=
  Lies f k L.p ds ns ∧ (
    (L.pc = 0 ∧ ds = [] ∧ markB (f L.p) = false ∧ mu = 5 * ns.length + 5) ∨
    (L.pc = 2 ∧ ds = [] ∧ markB (f L.p) = false ∧ L.W = f L.p ∧ mu = 5 * ns.length + 4) ∨
    (L.W = f L.p ∧ ∃ n r, ns = n :: r ∧ L.C = n.s ∧ (
      (L.pc = 3 ∧ mu = 5 * ns.length + 3) ∨
      (L.pc = 4 ∧ L.X = f (lkP n.s) ∧ mu = 5 * ns.length + 2) ∨
      (L.pc = 5 ∧ L.X = f (lkP n.s) ∧ n.mb = true ∧ mu = 5 * ns.length + 1) ∨
      (L.pc = 6 ∧ L.X = f (lkP n.s) ∧ n.mb = false ∧ mu = 5 * ns.length + 1) ∨
      (L.pc = 7 ∧ L.X = f (lkP n.s) ∧ n.mb = false ∧ L.K = n.key ∧ mu = 5 * ns.length) ∨
      (L.pc = 8 ∧ n.mb = false ∧ n.key = key ∧ mu = 5 * ns.length - 1) ∨
      (L.pc = 9 ∧ n.mb = false ∧ n.key = key ∧ L.V = n.val ∧ mu = 5 * ns.length - 2))))
/-- How a search stands. -/
def Al (k key : Int) (T : Sm) (f : Plc → Int) (ds ns : List Nd) (mu : Nat) : Prop :=
  (T.on = false ∧ ds = [] ∧ Lies f k (4, 0, k) ds ns ∧ markB (f (4, 0, k)) = false ∧ mu = 5 * ns.length + 6) ∨ (T.on = true ∧ T.e = 9 ∧ La k key T.L f ds ns mu)
/-- What is left, and what is found, of both. -/
def Left (key : Int) (ds ns : List Nd) : List Nd × Option Nd := (ds ++ wantN key ns, hitN key ns)
/-- How it ends. -/
def AlEnd (k key : Int) (vs : Bool) (L : Lm) (f : Plc → Int) (w : List Nd × Option Nd) : Prop := Sl f (4, 0, k) w.1 ∧ L.fd = fdN key w.2 ∧ (vs = true → L.fd = true → L.V = vlN w.2)
end Go.Proofs.YtchcdfoncebemaaGreatDoor
