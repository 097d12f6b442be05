/- What is proved on the way to the statement, part 11 of 13: contracts of the functions, among other things in memory. -/
import Derived.Test.YtnnjanaclgjneaaGreatDoorE10
import Derived.Shelf.SlSortCmp.NoneTotal
import Derived.Shelf.SlMaps.Clone
import Derived.Shelf.SlMaps.Equal
import Derived.Shelf.SlicesG.Cmp
import Derived.Shelf.SlGeneric
import Derived.Ground.SlsfProg
import Derived.Ground.SlmeProg
import Derived.Ground.SlgcProg
import Derived.Shelf.Lay
import Derived.Shelf.LaySoft
import Derived.Test.YtnnjanaclgjneaaGreatDoorProg
import Derived.LoopN
import Derived.RangeFuncNested
import Derived.RangeFuncBound
import Derived.RangeFuncCalls
import Derived.RangeFuncLeaves
import Derived.OwnWalkIn
import Derived.TacticsInMore
import Derived.LoopNIn
import Derived.LoopIn
import Derived.Maps.AppendAt
import Derived.Sort.MapsRangeIn
import Derived.Laws.IdiomRangeMap
import Derived.Defers
import Derived.Recover

/- The reference's places, in their order: the walk. -/
namespace Go.Proofs.YtnnjanaclgjneaaGreatDoor
open Go.RowKit Go.Maps Go.Sort
set_option maxRecDepth 100000

def okM (l : List OneR) (k : Nat) (m : List Plc) : Prop := Rising m ∧ m.length ≤ k ∧ ∀ x, x ∈ m ↔ ∃ v, (x, v) ∈ l.take k ∧ v ≠ 0
theorem okM.skip {l : List OneR} {k : Nat} {m : List Plc} (h : okM l k m) (hk : k < l.length) (h0 : (l.getD k dO).2 = 0) : okM l (k + 1) m := by
  refine ⟨h.1, by have := h.2.1; omega, fun x => ?_⟩
  rw [h.2.2 x, List.take_succ_eq_append_getElem hk]
  have e : l[k].2 = 0 := by simpa [hk] using h0
  constructor
  · rintro ⟨v, hv, hne⟩; exact ⟨v, List.mem_append.2 (.inl hv), hne⟩
  · rintro ⟨v, hv, hne⟩
    rcases List.mem_append.1 hv with hv | hv
    · exact ⟨v, hv, hne⟩
    · rw [← List.mem_singleton.1 hv] at e; exact absurd e hne
theorem okM.new {l : List OneR} {k : Nat} {m : List Plc} (h : okM l k m) (hnd : (l.map (·.1)).Nodup) (hk : k < l.length) : (l.getD k dO).1 ∉ m := by
  intro hx
  obtain ⟨v, hv, _⟩ := (h.2.2 _).1 hx
  obtain ⟨i, hi, he⟩ := List.getElem_of_mem hv
  have hi' : i < k := by simp at hi; omega
  have e1 : l[i].1 = l[k].1 := by
    have : (l.take k)[i] = l[i] := List.getElem_take
    rw [this] at he
    have e2 : l.getD k dO = l[k] := by simp [hk]
    rw [he, ← e2]
  have := (List.pairwise_iff_getElem.1 hnd) i k (by simp; omega) (by simpa using hk) hi'
  simp at this
  exact this e1
theorem okM.put {l : List OneR} {k j : Nat} {m : List Plc} (h : okM l k m) (hk : k < l.length) (h0 : (l.getD k dO).2 ≠ 0) (hj : j ≤ m.length) (hr : Rising (insAt m j (l.getD k dO).1)) : okM l (k + 1) (insAt m j (l.getD k dO).1) := by
  refine ⟨hr, by have := h.2.1; rw [insAt_length m j hj]; omega, fun x => ?_⟩
  have e2 : l.getD k dO = l[k] := by simp [hk]
  rw [mem_insAt, h.2.2 x, List.take_succ_eq_append_getElem hk, e2]
  rw [e2] at h0
  constructor
  · rintro (rfl | ⟨v, hv, hne⟩)
    · exact ⟨l[k].2, List.mem_append.2 (.inr (List.mem_singleton.2 rfl)), h0⟩
    · exact ⟨v, List.mem_append.2 (.inl hv), hne⟩
  · rintro ⟨v, hv, hne⟩
    rcases List.mem_append.1 hv with hv | hv
    · exact .inr ⟨v, hv, hne⟩
    · exact .inl (by rw [← List.mem_singleton.1 hv])

set_option maxRecDepth 100000 in
set_option maxHeartbeats 6400000 in
theorem refPlaces_any {u : Nat} {F : Nat → Prop} {l : List OneR} {w : World} (hl : l.length ≤ 1000000) (hnd : (l.map (·.1)).Nodup) (hU : IsU w u F l) :
    Calls Tryz.prog 87 #[.pointer (some ⟨u, 0, none⟩)] w fun e w' => ∃ m v, e = .returned v ∧ PlacesOf (getL l) m ∧ m.length ≤ l.length ∧ w'.ownsRow w.heap.size 105 3 v m.length (flatP m) ∧ Below w.heap.size w w' := by
  obtain ⟨A, cap, hblk, hown, hsep, hF⟩ := hU.full
  have hrow := ownsRow_words hown
  have hul := hblk.1
  obtain ⟨i0, hi, hz0, hz1, hz2⟩ := info_parts infoPlace
  have HROW := Lib.hid hrow
  have HB : Hid (∀ w', Below w.heap.size w w' → ∀ i, w'.cell? ⟨u, i, none⟩ = [Value.slice A l.length cap][i]?) := Lib.hid fun w' hb i => by rw [hb.cell (p := ⟨u, i, none⟩) hul]; exact hblk.rule i
  clear hrow hblk hown hsep hF
  have hown0 : (w.alloc (.cells #[] 105)).ownsRow w.heap.size 105 3 (.slice (some ⟨w.heap.size, 0, none⟩) 0 0) 0 [] := ⟨rfl, .inr ⟨w.heap.size, 0, #[], rfl, Nat.le_refl _, heap_alloc_new w _, Nat.le_refl _, Nat.zero_le _, rfl, rfl⟩⟩
  have hB0 : Below w.heap.size w (w.alloc (.cells #[] 105)) := (Below.refl _ w).alloc (Nat.le_refl _) _
  go_enter Tryz.func87, Tryz.ntmps87
  go_wp2_with fail
  go_loopw [3, 4] (fun v i wr => ∃ (k : Nat) (m : List Plc), k ≤ l.length ∧ i = .int .i64 k ∧ okM l k m ∧ wr.ownsRow w.heap.size 105 3 v m.length (flatP m) ∧ Below w.heap.size w wr) (fun _ i _ => l.length - (intOf i).toNat)
  case atStart => exact ⟨0, [], by omega, rfl, ⟨List.Pairwise.nil, by simp, by simp⟩, hown0, hB0⟩
  case round =>
    obtain ⟨k, m, hk, rfl, hm, hrw, hBr⟩ := hrel
    have ru := HB.out _ hBr
    clear hown0 hB0
    by_cases hlt : k < l.length
    · rcases HROW.out with h0 | ⟨g, rfl, hgl, hc⟩
      · rw [h0] at hlt; simp at hlt
      obtain ⟨c0, c1, c2, c3⟩ := hc k hlt
      clear hc
      generalize ho : l.getD k dO = o at c0 c1 c2 c3
      obtain ⟨⟨x, y, z⟩, v0⟩ := o
      simp only at c0 c1 c2 c3
      have HC : Hid (∀ w', Below w.heap.size w w' → (w'.cell? ⟨g, k * 4, none⟩ = some (.int .i64 x) ∧ w'.cell? ⟨g, k * 4 + 1, none⟩ = some (.int .i64 y) ∧ w'.cell? ⟨g, k * 4 + 2, none⟩ = some (.int .i64 z) ∧ w'.cell? ⟨g, k * 4 + 3, none⟩ = some (.int .u64 v0))) := Lib.hid fun w' hb => by
        refine ⟨?_, ?_, ?_, ?_⟩
        · rw [hb.cell (p := ⟨g, k * 4, none⟩) hgl]; exact c0
        · rw [hb.cell (p := ⟨g, k * 4 + 1, none⟩) hgl]; exact c1
        · rw [hb.cell (p := ⟨g, k * 4 + 2, none⟩) hgl]; exact c2
        · rw [hb.cell (p := ⟨g, k * 4 + 3, none⟩) hgl]; exact c3
      have HO := Lib.hid ho
      clear c0 c1 c2 c3 ho
      obtain ⟨c0, c1, c2, c3⟩ := HC.out _ hBr
      by_cases hv0 : v0 = 0
      · subst hv0
        go_wp2_with fail
        exact ⟨⟨k + 1, m, by omega, rfl, hm.skip hlt (by rw [HO.out]), hrw, hBr⟩, by simp [intOf]; omega⟩
      · have hml : m.length ≤ k := hm.2.1
        obtain ⟨A3, cap3, rfl⟩ := ownsRow_slice hrw
        obtain ⟨v', w2, hrun, hown2, hgrow, hv'⟩ := run_append_rows (P := Tryz.prog) 185 185 w.heap.size 105 i0 (.agg #[.int .i64 0, .int .i64 0, .int .i64 0]) 3 24 Tryz.underlying185 hi hz0 hz1 hz2 rfl (by decide) _ _ _ _ (hrw.alloc (.cells #[.int .i64 x, .int .i64 y, .int .i64 z] 105)) (some ⟨wr.heap.size, 0, none⟩) 1 1 [.int .i64 x, .int .i64 y, .int .i64 z] rfl
          (.inr ⟨_, rfl, cells_new _ _ _⟩) (by simp [Value.oneCell']) (by simp [maxLen]; omega) (by omega) (by have := hBr.size; simp; omega)
        obtain ⟨b, cap', rfl, hwb, hbl⟩ := hown2.form (by omega)
        have hB2 : Below w.heap.size w w2 := by
          have h1 := hBr.alloc hBr.size (.cells #[.int .i64 x, .int .i64 y, .int .i64 z] 105)
          exact Turn.below h1 (T := fun k => (Value.slice A3 m.length cap3).ownBlock = some k) ⟨hgrow.os, hgrow.tape, hgrow.output, hgrow.size, fun k hk hn => hgrow.block k hk (fun e => hn e.symm)⟩ h1.size fun k hk => (hrw.lt k hk).1
        go_wp2_with (first | (at_builtin; refine wpList_append_run rfl _ _ 185 rfl hrun rfl rfl ?_))
        have hown3 : w2.ownsRow w.heap.size 105 3 (.slice (some ⟨b, 0, none⟩) (m.length + 1) cap') (m.length + 1) (flatP (insAt m m.length (x, y, z))) := by
          have e : flatP (insAt m m.length (x, y, z)) = flatP m ++ [.int .i64 x, .int .i64 y, .int .i64 z] := by unfold insAt; simp [flatP, encP]
          rw [e]; exact hown2
        clear hrun hown2 hgrow hv' hrw c0 c1 c2 c3 ru
        have HM := Lib.hid hm
        clear hm
        go_loopw [5] (fun kk wq => ∃ j : Nat, j ≤ m.length ∧ kk = .int .i64 j ∧ (∀ t ∈ m.drop j, ltOf cmpP (x, y, z) t = true) ∧ wq.ownsRow w.heap.size 105 3 (.slice (some ⟨b, 0, none⟩) (m.length + 1) cap') (m.length + 1) (flatP (insAt m j (x, y, z))) ∧ Below w.heap.size w wq) (fun kk _ => (intOf kk).toNat)
        case atStart => exact ⟨m.length, Nat.le_refl _, by simp, by simp, hown3, hB2⟩
        case round =>
          obtain ⟨j, hj, rfl, hd, ho3, hBq⟩ := hrel
          clear hown3 hB2
          have HC8 : Hid (∀ w6 w7 : World, (w6.ownsRow w.heap.size 105 3 (.slice (some ⟨b, 0, none⟩) (m.length + 1) cap') (m.length + 1) (flatP (insAt m j (x, y, z))) ∧ Below w.heap.size w w6) → Below w6.heap.size w6 w7 → (w7.ownsRow w.heap.size 105 3 (.slice (some ⟨b, 0, none⟩) (m.length + 1) cap') (m.length + 1) (flatP (insAt m j (x, y, z))) ∧ Below w.heap.size w w7)) := Lib.hid fun w6 w7 h hb => ⟨ownsRow_kept h.1 fun k e => hb.block k (h.1.lt k e).2, h.2.trans (hb.mono h.2.size)⟩
          rcases j with _ | j
          · go_wp2_with fail
            refine Ord.wp_chain [] (fun w' => w'.ownsRow w.heap.size 105 3 (.slice (some ⟨b, 0, none⟩) (m.length + 1) cap') (m.length + 1) (flatP (insAt m 0 (x, y, z))) ∧ Below w.heap.size w w') (fun _ _ => True) (by kernel_rfl) (by kernel_rfl) (by kernel_rfl) (And.intro ho3.drew hBq.drew) trivial (fun hT => ?_)
            have hT9 := Lib.hid hT
            clear hT
            repeat (first
              | (refine Ord.ch_value (v := ?_) hT9.out (by decide) (by rfl) ?_ ?_; rotate_left; (focus (intro w5 hS; skip; go_simp <;> with_reducible rfl)); (try simp only [Act.put, List.setIfInBounds_toArray, List.set_cons_zero, List.set_cons_succ]))
              | (refine Ord.ch_off hT9.out (by decide) (by rfl) ?_; (try simp only [Act.put, List.setIfInBounds_toArray, List.set_cons_zero, List.set_cons_succ]))
              | (refine Ord.ch_call (v := ?_) (f := ?_) (args := ?_) hT9.out (by decide) (by rfl) ?_ ?_ ?_; rotate_left 3; (focus (intro w5 hS; skip; go_simp; constructor <;> with_reducible rfl)); (focus (intro w5 hS; (first | fail))); (try simp only [Act.put, List.setIfInBounds_toArray, List.set_cons_zero, List.set_cons_succ])))
            refine Ord.InText.nil fun w5 hS => ?_
            clear hT9
            obtain ⟨hC, hA⟩ := Ord.chain_end hS
            clear hS
            clear hA
            go_wp2_with fail
            have hins := HM.out.put hlt (by rw [HO.out]; exact hv0) hj (by rw [HO.out]; exact rising_insAt HM.out.1 hj (by have := HM.out.new hnd hlt; rwa [HO.out] at this) hd (.inl rfl))
            rw [HO.out] at hins
            exact ⟨⟨k + 1, _, by omega, by simp, hins, by rw [insAt_length m _ hj]; exact hC.1, hC.2⟩, by simp [intOf]; omega⟩
          · have HCELL : Hid (∀ w' : World, w'.ownsRow w.heap.size 105 3 (.slice (some ⟨b, 0, none⟩) (m.length + 1) cap') (m.length + 1) (flatP (insAt m (j + 1) (x, y, z))) →
                (w'.cell? ⟨b, (j + 1) * 3, none⟩ = some (.int .i64 x) ∧ w'.cell? ⟨b, (j + 1) * 3 + 1, none⟩ = some (.int .i64 y) ∧ w'.cell? ⟨b, (j + 1) * 3 + 2, none⟩ = some (.int .i64 z) ∧
                 w'.cell? ⟨b, j * 3, none⟩ = some (.int .i64 (m.getD j z3).1) ∧ w'.cell? ⟨b, j * 3 + 1, none⟩ = some (.int .i64 (m.getD j z3).2.1) ∧ w'.cell? ⟨b, j * 3 + 2, none⟩ = some (.int .i64 (m.getD j z3).2.2))) := Lib.hid fun w' h => by
              have hlen := insAt_length m (j + 1) hj (x, y, z)
              have e1 : ∀ c, c < 3 → w'.cell? ⟨b, (j + 1) * 3 + c, none⟩ = (encP (x, y, z))[c]? := fun c hc => by
                rw [h.cellAt ((j + 1) * 3 + c) (by omega), flatP_get _ _ _ (by omega) hc, insAt_get_self m (j + 1) hj]
              have e2 : ∀ c, c < 3 → w'.cell? ⟨b, j * 3 + c, none⟩ = (encP (m.getD j z3))[c]? := fun c hc => by
                rw [h.cellAt (j * 3 + c) (by omega), flatP_get _ _ _ (by omega) hc, insAt_get_prev m j (by omega)]
              exact ⟨e1 0 (by omega), e1 1 (by omega), e1 2 (by omega), e2 0 (by omega), e2 1 (by omega), e2 2 (by omega)⟩
            obtain ⟨t, ht⟩ : ∃ t, m.getD j z3 = t := ⟨_, rfl⟩
            rw [ht] at HCELL
            obtain ⟨p, q, s⟩ := t
            simp only at HCELL
            have HT := Lib.hid ht
            clear ht
            have q1 : j < m.length := by omega
            have q2 : (0 : Int) ≤ (j : Int) + 1 := by omega
            have q3 : j < m.length + 1 := by omega
            have q4 : j ≤ m.length := by omega
            have q7 : IntKind.i64.wrap (j : Int) = (j : Int) := by rw [IntKind.wrap_i64]; omega
            have q5 : (j : Int) ≤ (m.length : Int) := by omega
            have q6 : (j : Int) < (m.length : Int) + 1 := by omega
            go_wp2_with fail
            refine Ord.wp_chain [] (fun w' => w'.ownsRow w.heap.size 105 3 (.slice (some ⟨b, 0, none⟩) (m.length + 1) cap') (m.length + 1) (flatP (insAt m (j + 1) (x, y, z))) ∧ Below w.heap.size w w') (fun _ _ => True) (by kernel_rfl) (by kernel_rfl) (by kernel_rfl) (And.intro ho3.drew hBq.drew) trivial (fun hT => ?_)
            have hT9 := Lib.hid hT
            clear hT
            repeat (first
              | (refine Ord.ch_value (v := ?_) hT9.out (by decide) (by rfl) ?_ ?_; rotate_left; (focus (intro w5 hS; obtain ⟨c0, c1, c2, c3, c4, c5⟩ := HCELL.out _ hS.1; go_simp <;> with_reducible rfl)); (try simp only [Act.put, List.setIfInBounds_toArray, List.set_cons_zero, List.set_cons_succ]))
              | (refine Ord.ch_off hT9.out (by decide) (by rfl) ?_; (try simp only [Act.put, List.setIfInBounds_toArray, List.set_cons_zero, List.set_cons_succ]))
              | (refine Ord.ch_call (v := ?_) (f := ?_) (args := ?_) hT9.out (by decide) (by rfl) ?_ ?_ ?_; rotate_left 3; (focus (intro w5 hS; obtain ⟨c0, c1, c2, c3, c4, c5⟩ := HCELL.out _ hS.1; go_simp; constructor <;> with_reducible rfl)); (focus (intro w5 hS; (first | (with_reducible refine (less_any _ _ _ _ _ _ _).mono ?_; rintro e w6 ⟨rfl, hb5⟩; constructor; with_reducible rfl; exact ⟨HC8.out _ _ hS hb5, fun _ h => h⟩)))); (try simp only [Act.put, List.setIfInBounds_toArray, List.set_cons_zero, List.set_cons_succ])))
            refine Ord.InText.nil fun w5 hS => ?_
            clear hT9
            obtain ⟨hC, hA⟩ := Ord.chain_end hS
            clear hS
            clear hA
            obtain ⟨c0, c1, c2, c3, c4, c5⟩ := HCELL.out _ hC.1
            by_cases hL : ltOf cmpP (x, y, z) (p, q, s) = true
            · rw [hL]
              have hb5 : b < w5.heap.size := (hC.1.lt b rfl).2
              have hnb : ¬ w5.heap.size = b := by omega
              have hnb' : ¬ b = w5.heap.size := by omega
              have rA : ∀ ob i, (w5.alloc ob).cell? ⟨b, i, none⟩ = w5.cell? ⟨b, i, none⟩ := fun ob i => World.cell?_of_block (Below.heap_alloc _ _ _ hb5)
              have zA : ∀ ob i, (w5.alloc ob).frozen? ⟨b, i, none⟩ = false := fun ob i => (World.frozen?_of_block (Below.heap_alloc _ _ _ hb5)).trans (hC.1.frozenAt i)
              have zW : ∀ i, w5.frozen? ⟨b, i, none⟩ = false := fun i => hC.1.frozenAt i
              go_wp2_with fail
              have hx := insAt_exch m j q1 (x, y, z)
              rw [HT.out] at hx
              simp only at hx
              have hp3 : (j + 1) * 3 = j * 3 + 3 := by omega
              refine ⟨⟨j, by omega, rfl, fun t ht => ?_, ?_, ?_⟩, by simp [intOf]⟩
              · rw [List.drop_eq_getElem_cons q1] at ht
                rcases List.mem_cons.1 ht with rfl | ht
                · have : m[j] = (p, q, s) := by rw [← HT.out]; simp [q1]
                  rw [this]; exact hL
                · exact hd t ht
              · rw [← hx, hp3]
                exact ((((((((hC.1.stored _ _).1).stored _ _).1).stored _ _).1.stored _ _).1.stored _ _).1.stored _ _).1.alloc _
              · exact Turn.below hC.2 (((((((Turn.refl (fun k => k = b) w5).setCell (p := ⟨b, _, none⟩) (fun _ => rfl) _).setCell (p := ⟨b, _, none⟩) (fun _ => rfl) _).setCell (p := ⟨b, _, none⟩) (fun _ => rfl) _).setCell (p := ⟨b, _, none⟩) (fun _ => rfl) _).setCell (p := ⟨b, _, none⟩) (fun _ => rfl) _).setCell (p := ⟨b, _, none⟩) (fun _ => rfl) _ |>.alloc _) hC.2.size fun k hk => by subst hk; exact hwb
            · have hL' : ltOf cmpP (x, y, z) (p, q, s) = false := by simpa using hL
              rw [hL']
              go_wp2_with fail
              have hins := HM.out.put hlt (by rw [HO.out]; exact hv0) hj (by rw [HO.out]; exact rising_insAt HM.out.1 hj (by have := HM.out.new hnd hlt; rwa [HO.out] at this) hd (.inr (by rw [Nat.add_sub_cancel, HT.out]; exact hL')))
              rw [HO.out] at hins
              exact ⟨⟨k + 1, _, by omega, by simp, hins, by rw [insAt_length m _ hj]; exact hC.1, hC.2⟩, by simp [intOf]; omega⟩
    · go_wp2_with fail
      have : k = l.length := by omega
      subst this
      go_ret
      exact ⟨m, _, rfl, ⟨hm.1, fun x => by rw [hm.2.2 x, getL_ne hnd x]; simp⟩, hm.2.1, hrw, hBr⟩
end Go.Proofs.YtnnjanaclgjneaaGreatDoor

/-
  The library's contracts at this program.
-/
namespace Go.Proofs
open Go.Shelf
shelf_try shelf_lay_g SlLaysF0.n6 Slsf 6 at Tryz 173 as Tryz.sortPlaces
shelf_try shelf_lay_g SlLaysC2.n5 Slgc 5 at Tryz 176 as Tryz.compareInt
shelf_tried
end Go.Proofs

/- The order of places; the library's sort at it. -/
namespace Go.Proofs.YtnnjanaclgjneaaGreatDoor
open Go.RowKit Go.Maps Go.Shelf Go.Sort
set_option maxRecDepth 100000

theorem compareInt_any (x y : Int) (w : World) : Calls Tryz.prog 176 #[.int .i64 x, .int .i64 y] w fun e w' => e = .returned (.int .i64 (Lib.compareInt x y)) ∧ w' = w := AnyG.cmp_Compare_int Tryz.compareInt x y w

set_option maxHeartbeats 1600000 in
theorem or_any (a b c : Int) (N : Nat) (w : World) (h : ∀ i, w.cell? ⟨N, i, none⟩ = [Value.int .i64 a, .int .i64 b, .int .i64 c][i]?) :
    Calls Tryz.prog 175 #[.slice (some ⟨N, 0, none⟩) 3 3] w fun e w' => e = .returned (.int .i64 (orI a b c)) ∧ w' = w := by
  have e1 : (a != 0) = true ∨ ((a != 0) = false ∧ (b != 0) = true) ∨ ((a != 0) = false ∧ (b != 0) = false ∧ (c != 0) = true) ∨ ((a != 0) = false ∧ (b != 0) = false ∧ (c != 0) = false) := by
    cases (a != 0) <;> cases (b != 0) <;> cases (c != 0) <;> simp
  rcases e1 with h1 | ⟨h1, h2⟩ | ⟨h1, h2, h3⟩ | ⟨h1, h2, h3⟩
  · go_enter Tryz.func175, Tryz.ntmps175
    go_wp2
    refine wp_loop_rounds 1 ?_
    rw [rounds_succ]
    go_wp2
    go_ret
    exact ⟨ret_int (by simp at h1; simp [orI, h1]), rfl⟩
  · go_enter Tryz.func175, Tryz.ntmps175
    go_wp2
    refine wp_loop_rounds 2 ?_
    rw [rounds_succ]
    go_wp2
    rw [rounds_succ]
    go_wp2
    go_ret
    exact ⟨ret_int (by simp at h1 h2; simp [orI, h1, h2]), rfl⟩
  · go_enter Tryz.func175, Tryz.ntmps175
    go_wp2
    refine wp_loop_rounds 3 ?_
    rw [rounds_succ]
    go_wp2
    rw [rounds_succ]
    go_wp2
    rw [rounds_succ]
    go_wp2
    go_ret
    exact ⟨ret_int (by simp at h1 h2 h3; simp [orI, h1, h2]), rfl⟩
  · go_enter Tryz.func175, Tryz.ntmps175
    go_wp2
    refine wp_loop_rounds 4 ?_
    rw [rounds_succ]
    go_wp2
    rw [rounds_succ]
    go_wp2
    rw [rounds_succ]
    go_wp2
    rw [rounds_succ]
    go_wp2
    go_ret
    exact ⟨ret_int (by simp at h1 h2 h3; simp [orI, h1, h2, h3]), rfl⟩

set_option maxHeartbeats 1600000 in
theorem compare_any (a b c a' b' c' : Int) (w : World) :
    Calls Tryz.prog 142 #[.agg #[.int .i64 a, .int .i64 b, .int .i64 c], .agg #[.int .i64 a', .int .i64 b', .int .i64 c']] w fun e w' => e = .returned (.int .i64 (cmpP (a, b, c) (a', b', c'))) ∧ ∃ q os', w' = grow (w.drewN q) os' := by
  have k1 : Hid (∀ w', Calls Tryz.prog 176 #[.int .i64 a, .int .i64 a'] w' fun e w'' => e = .returned (.int .i64 (Lib.compareInt a a')) ∧ w'' = w') := Lib.hid fun w' => compareInt_any a a' w'
  have k2 : Hid (∀ w', Calls Tryz.prog 176 #[.int .i64 b, .int .i64 b'] w' fun e w'' => e = .returned (.int .i64 (Lib.compareInt b b')) ∧ w'' = w') := Lib.hid fun w' => compareInt_any b b' w'
  have k3 : Hid (∀ w', Calls Tryz.prog 176 #[.int .i64 c, .int .i64 c'] w' fun e w'' => e = .returned (.int .i64 (Lib.compareInt c c')) ∧ w'' = w') := Lib.hid fun w' => compareInt_any c c' w'
  unfold cmpP
  simp only
  generalize Lib.compareInt a a' = x at *
  generalize Lib.compareInt b b' = y at *
  generalize Lib.compareInt c c' = z at *
  go_enter Tryz.func142, Tryz.ntmps142
  go_wp2_with fail
  have hw2 : ∃ w2, w2 = (w.alloc (.cells #[.int .i64 a, .int .i64 b, .int .i64 c] 105)).alloc (.cells #[.int .i64 a', .int .i64 b', .int .i64 c'] 105) := ⟨_, rfl⟩
  obtain ⟨w2, hw2⟩ := hw2
  have h1 : Blk 0 w2 w.heap.size [.int .i64 a, .int .i64 b, .int .i64 c] := by rw [hw2]; exact (Blk.new 0 w _ _).more _
  have h2 : Blk 0 w2 (w.heap.size + 1) [.int .i64 a', .int .i64 b', .int .i64 c'] := by rw [hw2]; exact (Blk.new 0 (w.alloc _) _ _).at (by simp)
  rw [← hw2]
  have HW := Lib.hid hw2
  clear hw2
  generalize w.heap.size = B at *
  refine Ord.wp_chain [15, 16] (fun w' => Blk 0 w' B [.int .i64 a, .int .i64 b, .int .i64 c] ∧ Blk 0 w' (B + 1) [.int .i64 a', .int .i64 b', .int .i64 c']) (fun j w' => ∃ q, w' = (if j = 0 then w2 else w2.alloc (.cells #[.int .i64 x, .int .i64 y, .int .i64 z] 3)).drewN q) (by kernel_rfl) (by kernel_rfl) (by kernel_rfl) ⟨h1.drew, h2.drew⟩ ⟨1, rfl⟩ (fun hT => ?_)
  have hT9 := Lib.hid hT
  clear hT
  repeat (first
    | (refine Ord.ch_value (v := ?_) hT9.out (by decide) (by rfl) ?_ ?_; rotate_left; (focus (intro w5 hS; have r := hS.1.rule; have r2 := hS.2.rule; go_simp <;> with_reducible rfl)); (try simp only [Act.put, List.setIfInBounds_toArray, List.set_cons_zero, List.set_cons_succ]))
    | (refine Ord.ch_call (v := ?_) (f := ?_) (args := ?_) hT9.out (by decide) (by rfl) ?_ ?_ ?_; rotate_left 3; (focus (intro w5 hS; have r := hS.1.rule; have r2 := hS.2.rule; go_simp; constructor <;> with_reducible rfl)); (focus (intro w5 hS; (first
        | (with_reducible refine (k1.out _).mono ?_; rintro e w6 ⟨rfl, rfl⟩; constructor; with_reducible rfl; exact ⟨hS, fun _ h => h⟩)
        | (with_reducible refine (k2.out _).mono ?_; rintro e w6 ⟨rfl, rfl⟩; constructor; with_reducible rfl; exact ⟨hS, fun _ h => h⟩)
        | (with_reducible refine (k3.out _).mono ?_; rintro e w6 ⟨rfl, rfl⟩; constructor; with_reducible rfl; exact ⟨hS, fun _ h => h⟩)))); (try simp only [Act.put, List.setIfInBounds_toArray, List.set_cons_zero, List.set_cons_succ])))
  refine Ord.ch_turn (v := .slice (some ⟨w2.heap.size, 0, none⟩) 3 3) 0 hT9.out rfl (by decide) (Or.inl rfl) (by rfl) ?_ ?_
  · rintro w5 hC5 ⟨q, hq⟩
    rw [if_pos rfl] at hq
    subst hq
    go_simp
    exact ⟨by first | rfl | simp, ⟨hC5.1.more _, hC5.2.more _⟩, q, rfl⟩
  (try simp only [Act.put, List.setIfInBounds_toArray, List.set_cons_zero, List.set_cons_succ])
  refine Ord.ch_turn (v := .int .i64 (orI x y z)) 1 hT9.out rfl (by decide) (Or.inr ⟨15, rfl, by kernel_rfl⟩) (by rfl) ?_ ?_
  · rintro w5 hC5 ⟨q, hq⟩
    rw [if_neg (by omega)] at hq
    have hcell : ∀ i, w5.cell? ⟨w2.heap.size, i, none⟩ = [Value.int .i64 x, .int .i64 y, .int .i64 z][i]? := fun i => by rw [hq]; exact (Blk.new 0 w2 [Value.int .i64 x, .int .i64 y, .int .i64 z] _).rule i
    have HQ := Lib.hid hq
    clear hq
    go_simp
    simp only [Ord.LandsIn]
    refine (or_any x y z _ w5 hcell).mono ?_
    rintro e w6 ⟨rfl, rfl⟩
    exact ⟨rfl, hC5, q, HQ.out⟩
  (try simp only [Act.put, List.setIfInBounds_toArray, List.set_cons_zero, List.set_cons_succ])
  repeat (first
    | (refine Ord.ch_value (v := ?_) hT9.out (by decide) (by rfl) ?_ ?_; rotate_left; (focus (intro w5 hS; skip; go_simp <;> with_reducible rfl)); (try simp only [Act.put, List.setIfInBounds_toArray, List.set_cons_zero, List.set_cons_succ]))
    | (refine Ord.ch_off hT9.out (by decide) (by rfl) ?_; (try simp only [Act.put, List.setIfInBounds_toArray, List.set_cons_zero, List.set_cons_succ])))
  refine Ord.InText.nil fun w5 hS => ?_
  clear hT9
  obtain ⟨hC9, hA9⟩ := Ord.chain_end hS
  clear hS
  obtain ⟨q, hq⟩ := hA9
  go_wp2
  go_ret
  refine ⟨rfl, q, #[.cells #[.int .i64 a, .int .i64 b, .int .i64 c] 105, .cells #[.int .i64 a', .int .i64 b', .int .i64 c'] 105, .cells #[.int .i64 x, .int .i64 y, .int .i64 z] 3], ?_⟩
  rw [hq, HW.out]
  simp only [List.length_cons, List.length_nil, alloc_eq_grow, grow_grow]
  rfl

theorem cmpLays (blk off size : Nat) (w : World) : CmpLays Tryz.prog 142 #[] encP 3 cmpP blk off size w := fun _ _ _ _ x y => compare_any x.1 x.2.1 x.2.2 y.1 y.2.1 y.2.2 _
theorem aggPlace (w : World) : (isAgg 105).run Tryz.prog w = .ok true w := by kernel_rfl
theorem sizePlace (w : World) : (Go.sizeOf 105).run Tryz.prog w = .ok 3 w := by kernel_rfl

/-- The places in their order. -/
def sortL (l : List Plc) : List Plc := l.mergeSort fun x y => !(ltOf cmpP) y x
theorem sort_any (blk off cap : Nat) (d : Array Plc) (w : World) (hH : HoldsK encP 3 w blk off d) (hblk : blk < w.heap.size) (hsz : d.size < 4611686018427387904) :
    Calls Tryz.prog 173 #[.slice (some ⟨blk, off, none⟩) d.size cap, .func (.func 142) #[] #[]] w fun e w' => e = .returned (.tuple #[]) ∧ ∃ n os, w' = sortWorldK encP 3 w blk off n (sortL d.toList).toArray os :=
  AnyQ.slices_SortFunc_total Tryz.sortPlaces 3 aggPlace sizePlace encP (fun _ => rfl) (fun x v hv => by simp [encP] at hv; rcases hv with rfl | rfl | rfl <;> rfl) cmpP swoP 142 #[] blk off cap d w
    (enters_of Tryz.func142 (by kernel_rfl) rfl) (cmpLays blk off d.size w) hH hblk hsz totP
theorem sort_none (p : Option Addr) (cap : Nat) (fv : Value) (w : World) : Calls Tryz.prog 173 #[.slice p 0 cap, fv] w fun e w' => e = .returned (.tuple #[]) ∧ w' = w :=
  AnyF.slices_SortFunc_none { Tryz.sortPlaces with } p cap fv w
end Go.Proofs.YtnnjanaclgjneaaGreatDoor

/- Rows of the call's own: of whole numbers. -/
namespace Go.Proofs.YtnnjanaclgjneaaGreatDoor
open Go.RowKit
set_option maxRecDepth 100000

/-- Whole numbers in a row. -/
def ints (zs : List Int) : List Value := zs.map (Value.int .i64)
theorem ints_length (zs : List Int) : (ints zs).length = zs.length * 1 := by simp [ints]
theorem ints_append (a b : List Int) : ints (a ++ b) = ints a ++ ints b := by simp [ints]
def intsI (v : Value) (zs : List Int) : Item := rowI v 3 1 zs.length (ints zs)
theorem infoInt : (Tryz.prog.info? 3).map (fun i => (i.zero, i.size, i.bytes)) = some (some (.int .i64 0), 1, 8) := by kernel_rfl
/-- What the cells of such a row hold. -/
def Cells1 (w : World) (A : Option Addr) (zs : List Int) : Prop := zs = [] ∨ ∃ g, A = some ⟨g, 0, none⟩ ∧ g < w.heap.size ∧ ∀ i, i < zs.length → w.cell? ⟨g, i, none⟩ = some (.int .i64 (zs.getD i 0))
theorem cells1 {w : World} {b : Nat} {A : Option Addr} {cap : Nat} {zs : List Int} (h : w.ownsRow b 3 1 (.slice A zs.length cap) zs.length (ints zs)) : Cells1 w A zs := by
  rcases h.2 with ⟨_, h0⟩ | ⟨g, cap', cur, hv, _, hg, hn, hc, hcs, htk⟩
  · exact .inl (List.eq_nil_of_length_eq_zero h0)
  · simp only [Value.slice.injEq] at hv
    obtain ⟨rfl, -, rfl⟩ := hv
    refine .inr ⟨g, rfl, (Array.getElem?_eq_some_iff.1 hg).1, fun j hj => ?_⟩
    have h1 : (ints zs)[j]? = some (.int .i64 (zs.getD j 0)) := by simp [ints, hj]
    rw [← h1, ← htk, List.getElem?_take_of_lt (by omega)]
    simp [World.cell?, hg]
theorem Cells1.over {w w' : World} {A : Option Addr} {zs : List Int} (h : Cells1 w A zs) (hk : ∀ k, (Value.slice A zs.length 0).ownBlock = some k → w'.heap[k]? = w.heap[k]?) (hs : w.heap.size ≤ w'.heap.size) : Cells1 w' A zs := by
  rcases h with h | ⟨g, rfl, hg, hc⟩
  · exact .inl h
  · exact .inr ⟨g, rfl, Nat.lt_of_lt_of_le hg hs, fun i hi => by rw [World.cell?_of_block (w := w) (hk g rfl)]; exact hc i hi⟩

section
variable {w0 w w' : World} {L : List Item}
theorem Env.row (h : Env w0 L w) (i : Nat) {v : Value} {zs : List Int} (hi : L[i]? = some (intsI v zs)) : w.ownsRow 0 3 1 v zs.length (ints zs) := h.get i hi
theorem Env.rowCells (h : Env w0 L w) (i : Nat) {A : Option Addr} {n cap : Nat} {zs : List Int} (hn : n = zs.length) (hi : L[i]? = some (intsI (.slice A n cap) zs)) : Cells1 w A zs := by subst hn; exact cells1 (h.row i hi)
/-- A row that has come into being. -/
theorem Env.addRow (h : Env w0 L w) {v : Value} {zs : List Int} (ho : w'.ownsRow w.heap.size 3 1 v zs.length (ints zs)) (hb : Below w.heap.size w w') : Env w0 (intsI v zs :: L) w' :=
  h.add (intsI v zs) hb (ownsRow_base ho (Nat.zero_le _)) fun k hk => ho.lt k hk
theorem Env.addNone (h : Env w0 L w) : Env w0 (intsI (.slice none 0 0) [] :: L) w :=
  h.add (intsI (.slice none 0 0) []) (Below.refl _ _) (World.ownsRow_nil _ _ _ _) fun k hk => by cases hk
/-- An empty row that has been made. -/
theorem Env.addEmpty (h : Env w0 L w) (n : Nat) (hn : w.heap.size = n) : Env w0 (intsI (.slice (some ⟨n, 0, none⟩) 0 0) [] :: L) (w.alloc (.cells #[] 3)) := by
  subst hn
  exact h.addRow (v := .slice (some ⟨w.heap.size, 0, none⟩) 0 0) (zs := []) ⟨rfl, .inr ⟨w.heap.size, 0, #[], rfl, Nat.le_refl _, heap_alloc_new w _, Nat.le_refl _, Nat.zero_le _, rfl, rfl⟩⟩ ((Below.refl _ _).alloc (Nat.le_refl _) _)
/-- One number appended to a row. -/
theorem Env.append1 (h : Env w0 L w) (i : Nat) {v : Value} {zs : List Int} (hi : L[i]? = some (intsI v zs)) (x : Int) (hz : zs.length ≤ 1000000) (n : Nat) (hn : w.heap.size = n) :
    ∃ g cap w', (Builtin.append_ #[23, 23] 23 #[v, .slice (some ⟨n, 0, none⟩) 1 1]).run Tryz.prog (w.alloc (.cells #[.int .i64 x] 3)) = .ok (.slice (some ⟨g, 0, none⟩) (zs.length + 1) cap) w' ∧
      Env w0 (L.set i (intsI (.slice (some ⟨g, 0, none⟩) (zs.length + 1) cap) (zs ++ [x]))) w' ∧ Step (fun k => v.ownBlock = some k) (fun k => k = g) w w' := by
  subst hn
  obtain ⟨i0, hi0, hz0, hz1, hz2⟩ := info_parts infoInt
  have hown := h.row i hi
  obtain ⟨g, cap, w', hrun, ho, hgr, hg, hgl⟩ := run_append_lies (P := Tryz.prog) (w.alloc (.cells #[.int .i64 x] 3)) 23 23 0 3 i0 (.int .i64 0) 1 8 Tryz.underlying23 hi0 hz0 hz1 hz2 rfl (by decide) v zs.length (ints zs) (hown.alloc _)
    ⟨w.heap.size, 0, none⟩ 1 1 [.int .i64 x] rfl (cells_new _ _ _) (by simp [Value.oneCell']) (by omega) (by simp [maxLen]; omega) (by omega) (by simp) _ rfl
  have hst : Step (fun k => v.ownBlock = some k) (fun k => k = g) w w' := ⟨((Turn.refl _ w).alloc _).grown hgr fun k _ e => e, fun k hk => by
    subst hk
    rcases hg with e | e
    · exact .inl e
    · right; rw [e]; simp⟩
  refine ⟨g, cap, w', hrun, ?_, hst⟩
  refine h.step i (intsI (.slice (some ⟨g, 0, none⟩) (zs.length + 1) cap) (zs ++ [x])) hi ⟨hst.turn, fun k hk => hst.from' k (by cases hk; rfl)⟩ ?_ fun k hk => by cases hk; exact hgl
  have e1 : (zs ++ [x]).length = zs.length + 1 := by simp
  show w'.ownsRow 0 3 1 _ (zs ++ [x]).length (ints (zs ++ [x]))
  rw [e1, ints_append]
  exact ho
end
end Go.Proofs.YtnnjanaclgjneaaGreatDoor

/- The keys of a map of words, collected: each once, in whatever order; then sorted: Places. -/
namespace Go.Proofs.YtnnjanaclgjneaaGreatDoor
open Go.RowKit Go.Maps Go.Shelf Go.Sort
set_option maxRecDepth 100000

attribute [local go_sem] Oper.semAt_some

/-- ss are the places that have come: each once, places alone, those of the map that are no longer to come. -/
structure CollP (D : DataW Unit) (left : Lit → Bool) (ss : List Plc) : Prop where
  once : ss.Nodup
  wf : ∀ x ∈ ss, Wf x
  mem : ∀ x, Wf x → (x ∈ ss ↔ Maps.has D (kl x) = true ∧ left (kl x) = false)
theorem CollP.start (D : DataW Unit) : CollP D (Maps.has D) [] := ⟨List.nodup_nil, by simp, fun x _ => by simp⟩
theorem CollP.step {D : DataW Unit} {left : Lit → Bool} {ss : List Plc} (h : CollP D left ss) {x : Plc} (hx : Wf x) (hl : left (kl x) = true) {yd : DataW Unit} (hat : ∀ zd, D.atKey (kl x) zd = yd) : CollP D (fun z => left z && !z.sameKey (kl x)) (ss ++ [x]) := by
  have hnot : x ∉ ss := fun e => by have := ((h.mem x hx).1 e).2; rw [hl] at this; cases this
  refine ⟨List.nodup_append.2 ⟨h.once, by simp, fun a ha b hb e => ?_⟩, fun y hy => ?_, fun y hy => ?_⟩
  · simp at hb; subst hb; subst e; exact hnot ha
  · rcases List.mem_append.1 hy with h1 | h1
    · exact h.wf y h1
    · simp at h1; subst h1; exact hx
  · by_cases e : y = x
    · subst e
      simp [has_true_of_atKey hat, WideAt.sameKey_self (kl_key y)]
    · have hne : kl y ≠ kl x := fun e' => e (kl_inj hy hx e')
      simp [e, h.mem y hy, sameKey_ne hne]


set_option maxRecDepth 100000 in
set_option maxHeartbeats 2000000 in
theorem keys1_any (F : Fence) (n : Nat) (hf : F.fn 174) (hro : F.round = none) (hn : 1 ≤ n) (l Bm b nn : Nat) (D0 : DataW Unit) (J Jx : List Plc → World → Prop)
    (hY : ∀ pre x W, J pre W → pre.length < Maps.size D0 → YieldAt F (n - 1) Tryz.prog l #[pv x] W fun e W' => (e = .returned (.bool true) ∧ J (pre ++ [x]) W' ∧ KeepsWalks W W') ∨ (e = .returned (.bool false) ∧ Jx (pre ++ [x]) W'))
    (W : World) (hJ : AbidesFrom W.heap.size J) (hm : W.cell? ⟨Bm, 0, none⟩ = some (.map (some b))) (hown : W.ownsMap Tryz.prog 105 (plainElem (H := Unit) Tryz.prog 48) b nn D0) (h0 : J [] W) :
    CallsIn F n Tryz.prog 174 #[.func (.yield l) #[] #[], .pointer (some ⟨Bm, 0, none⟩)] W fun e W' => (∃ v, e = .returned v) ∧
      ((∃ ss, (CollP D0 (fun _ => false) ss ∧ ss.length ≤ Maps.size D0) ∧ J ss W') ∨ (∃ pre, True ∧ Jx pre W')) := by
  refine callsIn_of_wp Tryz.func174 rfl hf ?_ hro
  simp only [Tryz.ntmps174, List.size_toArray, List.length_cons, List.length_nil, Nat.reduceAdd, Nat.reduceSub, Array.replicate_succ, Array.replicate_zero, List.push_toArray, List.append_toArray, List.nil_append, List.cons_append]
  gi_wp2_with (first
    | (gi_at_range; refine wpListIn_range_own _ rfl _ 233 rfl 105 48 keyPlace Tryz.underlying233 _ b nn _ rfl hown ?_; intro w0 hrg0 hg0 hs0)
    | gi_in)
  go_frame
  gi_loopw [3] (fun _ wr => ∃ (left : Lit → Bool) (cnt : Nat) (ss : List Plc), wr.ranges Tryz.prog 105 (plainElem (H := Unit) Tryz.prog 48) b W.heap.size nn D0 left cnt ∧ ss.length + cnt ≤ Maps.size D0 ∧ CollP D0 left ss ∧ J ss wr)
    (fun _ wr => wr.rangeLeft b W.heap.size)
  case atStart =>
    exact ⟨_, _, [], hrg0, by simp, CollP.start D0, hJ [] W w0 none h0 hg0 (fun r e => by cases e)⟩
  case round =>
    obtain ⟨left, cnt, ss, hrg, hcs, hC, hJs⟩ := hrel
    gi_wp2_with (first
      | (gi_at_next; refine wpListIn_next_ranges _ rfl _ rfl 105 keyPlace (plainElem (H := Unit) Tryz.prog 48) (fun x : Plc => Value.agg #[.int .i64 x.1, .int .i64 x.2.1, .int .i64 x.2.2]) id (fun key kl hk => by obtain ⟨x, _, hx, _⟩ := key_inv hk; exact ⟨x, hx⟩) (fun v _ _ => ⟨v, rfl⟩) b W.heap.size nn _ _ _ rfl hrg ?_ ?_)
      | gi_in)
    · intro hc0 hl0
      gi_wp2
      go_end0
      exact ⟨⟨_, rfl⟩, .inl ⟨ss, ⟨⟨hC.once, hC.wf, fun x hx => by rw [hC.mem x hx, hl0]⟩, by omega⟩, hJs⟩⟩
    · intro xa xb xc c kx yd yp w2 cnt2 hkey hlk hv hat hrg2 hlt hg2 hs2 hen
      obtain ⟨x, hx', ex, rfl⟩ := key_inv hkey
      obtain ⟨ya, yb, yc⟩ := x
      have ex' := pv_inj (x := (xa, xb, xc)) ex
      obtain ⟨rfl, rfl, rfl⟩ : xa = ya ∧ xb = yb ∧ xc = yc := by simpa using ex'
      clear ex ex'
      have hJ2 : J ss w2 := hJ ss wr w2 (some W.heap.size) hJs hg2 (fun r e => by cases e; exact ⟨Nat.le_refl _, hrg.iter_walk⟩)
      have hJ3 : J ss (w2.alloc (.cells #[.int .i64 xa, .int .i64 xb, .int .i64 xc] 105)) := hJ ss w2 _ none hJ2 (World.grownBy_alloc w2 _ none) (fun r e => by cases e)
      obtain ⟨fn, tmps, assign, body, hy, hR⟩ := hY ss (xa, xb, xc) _ hJ3 (by omega)
      have hrg2' := hrg2.alloc (.cells #[.int .i64 xa, .int .i64 xb, .int .i64 xc] 105)
      have hC2 := hC.step hx' hlk hat
      simp only [pv] at hy
      clear hs2
      gi_wp2
      refine hR.mono ?_
      rintro e W3 (⟨rfl, hJ4, hk3⟩ | ⟨rfl, hJx4⟩)
      · gi_wp2
        have hrg3 := hrg2'.of_walks hk3
        go_roundw
        case rel => exact ⟨_, cnt2, ss ++ [(xa, xb, xc)], hrg3, by simp; omega, hC2, hJ4⟩
        case measure => rw [hrg3.left_eq, hrg.left_eq]; exact hlt
      · gi_wp2
        refine bodyPost_ret (results_none rfl _ _ _) rfl ?_
        exact ⟨⟨_, rfl⟩,   .inr ⟨ss ++ [(xa, xb, xc)], trivial, hJx4⟩⟩

/-- .. and at most n of them. -/
def OpsN (f : Plc → Int) (n : Nat) (ss : List Plc) : Prop := OpsF f ss ∧ ss.length ≤ n

set_option maxRecDepth 100000 in
set_option maxHeartbeats 2000000 in
theorem keys1_none (F : Fence) (n : Nat) (hf : F.fn 174) (hro : F.round = none) (l Bm : Nat) (J : List Plc → World → Prop) (W : World) (hJ : AbidesFrom W.heap.size J)
    (hm : W.cell? ⟨Bm, 0, none⟩ = some (.map none)) (h0 : J [] W) :
    CallsIn F n Tryz.prog 174 #[.func (.yield l) #[] #[], .pointer (some ⟨Bm, 0, none⟩)] W fun e W' => (∃ v, e = .returned v) ∧ J [] W' := by
  have hrg := run_range_nilMap (P := Tryz.prog) W 233 _ _ Tryz.underlying233
  have hnx : ∀ ty, (Instr.next (.pointer (some ⟨W.heap.size, 0, none⟩)) false ty).run Tryz.prog (W.alloc (.mapIter none 0 #[] 0)) = _ := fun ty => run_next_nilMap _ ty 0 0 #[]
  refine callsIn_of_wp Tryz.func174 rfl hf ?_ hro
  simp only [Tryz.ntmps174, List.size_toArray, List.length_cons, List.length_nil, Nat.reduceAdd, Nat.reduceSub, Array.replicate_succ, Array.replicate_zero, List.push_toArray, List.append_toArray, List.nil_append, List.cons_append]
  gi_wp2
  refine wpIn_loop_rounds 1 ?_
  rw [roundsIn_succ]
  gi_wp2
  go_end0
  exact ⟨⟨_, rfl⟩, hJ [] W _ none h0 (World.grownBy_alloc W _ none) (fun r e => by cases e)⟩

theorem keys_stops (F : Fence) (n : Nat) (hf : F.fn 174) (hro : F.round = none) (hn : 1 ≤ n) {Bm nn : Nat} {mp : Option Nat} {f : Plc → Int} {w : World} (hBm : Bm < w.heap.size)
    (hm : w.cell? ⟨Bm, 0, none⟩ = some (.map mp)) (hM : MapIs w mp f nn) :
    SeqStopsK F n Tryz.prog 174 #[.pointer (some ⟨Bm, 0, none⟩)] (fun x : Plc => #[Value.agg #[.int .i64 x.1, .int .i64 x.2.1, .int .i64 x.2.2]]) KeepsWalks (OpsN f nn) (fun _ => True) nn w := fun l J Jx W hW hJ _ hY h0 => by
  rcases hM with ⟨rfl, rfl⟩ | ⟨b, D, rfl, ho, hr⟩
  · exact (keys1_none F n hf hro l Bm J W hJ ((hW.cell (p := ⟨Bm, 0, none⟩) hBm).trans hm) h0).mono fun _ _ ⟨he, hj⟩ => ⟨he, .inl ⟨[], ⟨⟨List.nodup_nil, by simp⟩, Nat.zero_le _⟩, hj⟩⟩
  · have hlt := ho.lt
    have hsz := ho.size_le
    have ho' : W.ownsMap Tryz.prog 105 (plainElem (H := Unit) Tryz.prog 48) b nn D := by
      obtain ⟨es, clock, hb, r⟩ := ho
      exact ⟨es, clock, (hW.block b hlt).trans hb, r⟩
    refine (keys1_any F n hf hro hn l Bm b nn D J Jx (fun pre x W1 h1 h2 => hY pre x W1 h1 (by omega)) W hJ ((hW.cell (p := ⟨Bm, 0, none⟩) hBm).trans hm) ho' h0).mono ?_
    rintro e W' ⟨he, ⟨ss, ⟨hC, hlen⟩, hj⟩ | hx⟩
    · refine ⟨he, .inl ⟨ss, ⟨⟨hC.once, fun x => ?_⟩, Nat.le_trans hlen hsz⟩, hj⟩⟩
      by_cases hw : Wf x
      · rw [hC.mem x hw, hr.has' x hw]; simp
      · constructor
        · intro e; exact absurd (hC.wf x e) hw
        · intro e; exact absurd (hr.words.out x hw) e
    · exact ⟨he, .inr hx⟩

set_option maxHeartbeats 1000000 in
theorem keys_in (F : Fence) (n : Nat) (hf : F.fn 141) (hro : F.round = none) (mp : Option Nat) (w : World) :
    CallsIn F n Tryz.prog 141 #[.map mp] w fun e w' => e = .returned (.func (.func 174) #[] #[.pointer (some ⟨w.heap.size, 0, none⟩)]) ∧ w' = w.alloc (.cells #[.map mp] 233) := by
  refine callsIn_of_wp Tryz.func141 rfl hf ?_ hro
  simp only [Tryz.ntmps141, List.size_toArray, List.length_cons, List.length_nil, Nat.reduceAdd, Nat.reduceSub, Array.replicate_succ, Array.replicate_zero, List.push_toArray, List.append_toArray, List.nil_append, List.cons_append]
  gi_wp2
  go_ret
  exact ⟨rfl, rfl⟩

def Box3 (W : World) (B : Nat) (x : Plc) : Prop := W.heap[B]? = some (.cells #[.int .i64 x.1, .int .i64 x.2.1, .int .i64 x.2.2] 105 (0, 0))
theorem Box3.rule {W : World} {B : Nat} {x : Plc} (h : Box3 W B x) : ∀ i, W.cell? ⟨B, i, none⟩ = [Value.int .i64 x.1, .int .i64 x.2.1, .int .i64 x.2.2][i]? := fun i => by
  unfold Box3 at h
  simp [World.cell?, h]

set_option maxRecDepth 100000 in
set_option maxHeartbeats 2000000 in
theorem append_in (F : Fence) (n : Nat) (hf : F.fn 199) (hk : F.fn 174) (hro : F.round = none) (hn : 3 ≤ n) {Bm nn : Nat} {mp : Option Nat} {f : Plc → Int} {w : World} (hBm : Bm < w.heap.size)
    (hm : w.cell? ⟨Bm, 0, none⟩ = some (.map mp)) (hM : MapIs w mp f nn) (hN : nn ≤ maxLen) (hNb : nn * 24 ≤ 140737488355328) :
    CallsIn F n Tryz.prog 199 #[.slice none 0 0, .func (.func 174) #[] #[.pointer (some ⟨Bm, 0, none⟩)]] w fun e w' => ∃ v ss, e = .returned v ∧ OpsN f nn ss ∧ w'.ownsRow w.heap.size 105 3 v ss.length (flatP ss) ∧ (v = .slice none 0 0 ↔ ss = []) ∧ Below w.heap.size w w' := by
  have h1 : 1 ≤ n := by omega
  obtain ⟨i0, hi, hz0, hz1, hz2⟩ := info_parts infoPlace
  refine callsIn_of_wp_marks Tryz.func199 rfl hf ?_ hro
  simp only [Tryz.ntmps199, List.size_toArray, List.length_cons, List.length_nil, Nat.reduceAdd, Nat.reduceSub, Array.replicate_succ, Array.replicate_zero, List.push_toArray, List.append_toArray, List.nil_append, List.cons_append]
  gi_wp2
  have bO := Boxed.new w 185 (.slice none 0 0)
  have hB0 : Below w.heap.size w (w.alloc (.cells #[.slice none 0 0] 185)) := (Below.refl _ w).alloc (Nat.le_refl _) _
  refine wpIn_rangeFunc_ownH hro h1 (gf := 174) (lb := #[.pointer (some ⟨Bm, 0, none⟩)]) rfl hk (enters_of Tryz.func174 (by kernel_rfl) rfl)
    (keys_stops F (n - 1) hk hro (by omega) (w := w.alloc (.cells #[.slice none 0 0] 185)) (by simp; omega) ((hB0.cell (p := ⟨Bm, 0, none⟩) hBm).trans hm) (hM.more _)) walksK_t walksK_b (Below.refl _ _) (fun _ => rfl)
    (fun pre W => (∃ v, Boxed W w.heap.size 185 v ∧ W.ownsRow w.heap.size 105 3 v pre.length (flatP pre) ∧ (v = .slice none 0 0 ↔ pre = [])) ∧ Below w.heap.size w W)
    (fun _ _ _ => False)
    (OwnFrom.and (Own.from (holdsRow_own w.heap.size w.heap.size 185 105 3 (fun pre : List Plc => pre.length) flatP (fun pre v => v = .slice none 0 0 ↔ pre = [])) _) (ownFrom_below (Nat.le_refl _) (by simp)))
    (fun _ _ _ _ _ hs _ _ => hs)
    ⟨⟨_, bO, World.ownsRow_nil _ _ _ _, by simp⟩, hB0⟩
    (fun x a' W => ∃ Bx, Box3 W Bx x ∧ a' = { tmps := #[.slice none 0 0, .func (.func 174) #[] #[.pointer (some ⟨Bm, 0, none⟩)], .pointer (some ⟨w.heap.size, 0, none⟩), undef, .slice none 0 0, .pointer (some ⟨Bx, 0, none⟩), .func (.func 174) #[] #[.pointer (some ⟨Bm, 0, none⟩)], .agg #[.int .i64 x.1, .int .i64 x.2.1, .int .i64 x.2.2], undef, undef, undef, undef, undef], defers := [] })
    (fun x a' _ X Y row hs hg hr => by
      obtain ⟨Bx, h2, h3⟩ := hs
      refine ⟨Bx, (hg.block Bx (Array.getElem?_eq_some_iff.1 h2).1 (fun e => ?_)).trans h2, h3⟩
      obtain ⟨_, o, ho, hc⟩ := hr Bx e.symm
      rw [show X.heap[Bx]? = _ from h2] at ho
      cases ho
      cases hc) ?assign ?body ?done ?stop
  case assign =>
    rintro l pre x W K ⟨⟨v, bV, hrow, hnil⟩, hB1⟩ hK
    gi_wp2
    exact hK _ _ ((KeepsOthers.alloc _ _).from _) (KeepsWalks.alloc _ _) ⟨⟨v, bV.alloc _, hrow.alloc _, hnil⟩, hB1.alloc hB1.size _⟩ ⟨W.heap.size, World.alloc_heap_new W _, rfl⟩
  case body =>
    rintro l pre x a' W hl ⟨r, hr⟩ ⟨⟨v, hv, hrow, hnil⟩, hB⟩ ⟨Bx, hBx, rfl⟩ hlt
    have hc := hv.cell
    have hx := hBx.rule
    gi_wp2_with (gi_at_builtin; refine wpListIn_append_own _ rfl _ _ 185 rfl w.heap.size 105 i0 (.agg #[.int .i64 0, .int .i64 0, .int .i64 0]) 3 24 Tryz.underlying185 hi hz0 hz1 hz2 rfl (by decide) _ _ _ rfl (hrow.alloc _) ⟨W.heap.size, 0, none⟩ 1 1 [.int .i64 x.1, .int .i64 x.2.1, .int .i64 x.2.2] rfl rfl (cells_new _ _ _) (by simp [Value.oneCell']) (by omega) (by omega) (by have := hB.size; simp; omega) ?_; intro v' w1 hown' hgrow _; obtain ⟨g', cap', rfl⟩ := ownsRow_succ hown'; obtain ⟨hv1, hv2, hr2, hk2, hb2⟩ := hv.appended (by decide) hrow hB.size (Nat.le_refl _) hown' hgrow; have hc1 := hv1.cell; have hf1 := hv1.frozen)
    exact ⟨hk2.from _, hk2.walks, ⟨_, hv2, by rw [flatP_snoc]; simpa [encP] using hr2, by simp⟩, hB.trans hb2⟩
  case done =>
    rintro D ys W hD hS ⟨⟨v, hv, hrow, hnil⟩, hB⟩ hK
    have hc := hv.cell
    gi_wp2
    refine ⟨by simp, .inl ⟨_, _, rfl, run_takeDeferred hK, ?_⟩⟩
    exact ⟨_, results_tmp rfl _ _ _, v, ys, rfl, hS, ownsRow_putObj hrow _ hK rfl, hnil, hB.trans (belowK_b (w := w) (Nat.le_refl _) W D _ _ (by simp at hD; omega) hK rfl rfl)⟩
  case stop =>
    rintro D c pre W _ _ h _
    exact h.elim
end Go.Proofs.YtnnjanaclgjneaaGreatDoor

/- Places: those whose words aren't 0, in their order. -/
namespace Go.Proofs.YtnnjanaclgjneaaGreatDoor
open Go.RowKit Go.Maps Go.Shelf Go.Sort
set_option maxRecDepth 100000

/-! ### rows of places -/
theorem holds_of_row {w : World} {g cap : Nat} {cur : Array Value} {l : List Plc} {t : TypeId} (hg : w.heap[g]? = some (.cells cur t (0, 0))) (hc : cur.size = cap * 3) (hl : l.length ≤ cap) (ht : cur.toList.take (l.length * 3) = flatP l) : HoldsK encP 3 w g 0 l.toArray := by
  intro j hj
  have hj' : j < l.length * 3 := by simpa using hj
  refine ⟨?_, by simp [World.frozen?, hg]⟩
  have h1 : (cur.toList.take (l.length * 3))[j]? = (flatP l)[j]? := by rw [ht]
  rw [List.getElem?_take_of_lt hj'] at h1
  have h2 := flatP_get l (j / 3) (j % 3) (by omega) (by omega)
  rw [show j / 3 * 3 + j % 3 = j by omega] at h2
  have h3 : (encP (l.getD (j / 3) z3))[j % 3]? = some ((encP (l.getD (j / 3) z3))[j % 3]!) := by
    have : j % 3 < (encP (l.getD (j / 3) z3)).length := by simp [encP]; omega
    rw [List.getElem?_eq_getElem this, getElem!_pos (encP (l.getD (j / 3) z3)) (j % 3) this]
  simp only [World.cell?, hg, Nat.zero_add]
  rw [get_flatK _ _ _ _ (by simpa using hj')]
  have h4 : l.toArray[j / 3]! = l.getD (j / 3) z3 := by
    have hlt : j / 3 < l.length := by omega
    simp [hlt]
  have h5 : cur[j]? = some ((encP (l.getD (j / 3) z3))[j % 3]!) := by
    rw [← h3, ← h2, ← h1]; simp
  rw [h4]
  simpa using h5

theorem grown_sorted {w : World} {g n : Nat} {os : Array Obj} (d : Array Plc) : w.grownBy (sortWorldK encP 3 w g 0 n d os) (some g) := by
  refine ⟨rfl, rfl, rfl, by simp [sortWorldK, putRowK, grow, putRow, mapBlock, Sort.ahead], fun k hk hne => ?_⟩
  have h1 : g ≠ k := fun e => hne (by rw [e])
  unfold sortWorldK putRowK
  rw [heap_grow_old _ _ (by simpa [putRow, mapBlock, Sort.ahead] using hk)]
  simp [putRow, mapBlock, Sort.ahead, Array.getElem?_modify, h1]

theorem row_of_holds {w : World} {g cap : Nat} {l : List Plc} (hg : g < w.heap.size) (h : HoldsK encP 3 w g 0 l.toArray) : RowP w (.slice (some ⟨g, 0, none⟩) l.length cap) l := by
  refine .inr ⟨g, cap, rfl, hg, fun j hj => ?_⟩
  have e : l.toArray[j]! = l.getD j z3 := by simp [hj]
  have h0 := (h.cell (i := j) (c := 0) (by simpa using hj) (by omega)).1
  have h1 := (h.cell (i := j) (c := 1) (by simpa using hj) (by omega)).1
  have h2 := (h.cell (i := j) (c := 2) (by simpa using hj) (by omega)).1
  rw [e] at h0 h1 h2
  simp only [Nat.zero_add, Nat.add_zero] at h0 h1 h2
  exact ⟨h0, h1, h2⟩

/-! ### the order -/
theorem sortL_perm (l : List Plc) : (sortL l).Perm l := List.mergeSort_perm _ _
theorem sortL_rising {l : List Plc} (h : l.Nodup) : Rising (sortL l) := by
  have hs : (sortL l).Pairwise fun x y => (!(ltOf cmpP) y x) = true := by
    unfold sortL
    refine List.pairwise_mergeSort (fun a b c h1 h2 => ?_) (fun a b => ?_) l
    · simp only [Bool.not_eq_true'] at *
      exact swoP.ntrans _ _ _ h2 h1
    · simp only [Bool.or_eq_true, Bool.not_eq_true']
      cases h1 : ltOf cmpP b a
      · exact .inl rfl
      · refine .inr ?_
        cases h2 : ltOf cmpP a b
        · rfl
        · have := swoP.trans _ _ _ h1 h2
          rw [swoP.irrefl] at this
          cases this
  have hn : (sortL l).Nodup := (sortL_perm l).nodup_iff.2 h
  refine (hs.and hn).imp fun {x y} hxy => ?_
  obtain ⟨h1, h2⟩ := hxy
  cases h3 : ltOf cmpP x y
  · exact absurd (totP x y h3 (by simpa using h1)) h2
  · rfl
theorem PlacesOf.sort {f : Plc → Int} {ss : List Plc} (h : OpsF f ss) : PlacesOf f (sortL ss) := ⟨sortL_rising h.1, fun x => ((sortL_perm ss).mem_iff).trans (h.2 x)⟩

/-! ### the calls -/
set_option maxHeartbeats 1000000 in
theorem collect_any {Bm nn : Nat} {mp : Option Nat} {f : Plc → Int} {w : World} (hBm : Bm < w.heap.size)
    (hm : w.cell? ⟨Bm, 0, none⟩ = some (.map mp)) (hM : MapIs w mp f nn) (hN : nn ≤ maxLen) (hNb : nn * 24 ≤ 140737488355328) :
    Calls Tryz.prog 172 #[.func (.func 174) #[] #[.pointer (some ⟨Bm, 0, none⟩)]] w fun e w' => ∃ v ss, e = .returned v ∧ OpsN f nn ss ∧ w'.ownsRow w.heap.size 105 3 v ss.length (flatP ss) ∧ (v = .slice none 0 0 ↔ ss = []) ∧ Below w.heap.size w w' := by
  have h1 : Calls Tryz.prog 199 #[.slice none 0 0, .func (.func 174) #[] #[.pointer (some ⟨Bm, 0, none⟩)]] w _ := (callsIn_wide (n := 6)).1 (append_in Fence.wide 6 trivial trivial rfl (by omega) hBm hm hM hN hNb)
  clear hm hM
  go_enter Tryz.func172, Tryz.ntmps172
  go_wp2_with (refine h1.mono ?_; rintro e w1 ⟨v, ss, rfl, h2, h3, h4, h5⟩)
  go_ret
  exact ⟨v, ss, rfl, h2, h3, h4, h5⟩

set_option maxHeartbeats 1000000 in
theorem sorted_any {Bm nn : Nat} {mp : Option Nat} {f : Plc → Int} {w : World} (hBm : Bm < w.heap.size)
    (hm : w.cell? ⟨Bm, 0, none⟩ = some (.map mp)) (hM : MapIs w mp f nn) (hN : nn ≤ maxLen) (hNb : nn * 24 ≤ 140737488355328) :
    Calls Tryz.prog 140 #[.func (.func 174) #[] #[.pointer (some ⟨Bm, 0, none⟩)], .func (.func 142) #[] #[]] w fun e w' => ∃ v l, e = .returned v ∧ PlacesOf f l ∧ RowP w' v l ∧ Below w.heap.size w w' := by
  have h1 := collect_any hBm hm hM hN hNb
  clear hm hM
  go_enter Tryz.func140, Tryz.ntmps140
  go_wp2_with fail
  refine h1.mono ?_
  rintro e w1 ⟨v, ss, rfl, ⟨h2, h2n⟩, h3, h4, h5⟩
  rcases h3.2 with ⟨rfl, hz⟩ | ⟨g, cap, cur, rfl, hg0, hg, hl, hcap, hcs, htk⟩
  · have hs : ss = [] := h4.1 rfl
    subst hs
    go_wp2_with (refine (sort_none _ _ _ _).mono ?_; rintro e w2 ⟨rfl, rfl⟩)
    go_ret
    exact ⟨_, [], rfl, ⟨List.Pairwise.nil, fun x => by simpa using h2.2 x⟩, .inl ⟨rfl, rfl⟩, h5⟩
  · have hH := holds_of_row hg hcs hl htk
    have hgl : g < w1.heap.size := (Array.getElem?_eq_some_iff.1 hg).1
    have hc := sort_any g 0 cap ss.toArray w1 hH hgl (by simp; omega)
    have h6 := PlacesOf.sort h2
    have hlen : (sortL ss).length = ss.length := (sortL_perm ss).length_eq
    simp only [List.size_toArray] at hc
    have HH := Lib.hid hH
    clear h1 h3 h4 hg htk hcs hH
    go_wp2_with (refine hc.mono ?_; rintro e w2 ⟨rfl, n, os, rfl⟩)
    go_ret
    have hgr := grown_sorted (w := w1) (g := g) (n := n) (os := os) (sortL ss).toArray
    refine ⟨_, sortL ss, rfl, h6, ?_, h5.grown hgr h5.size fun k e => by cases e; exact hg0⟩
    rw [← hlen]
    refine row_of_holds (Nat.lt_of_lt_of_le hgl hgr.size) (holdsK_grow _ _ _ _ _ _ _ (by simpa [putRowK, putRow, mapBlock, Sort.ahead] using hgl) (holdsK_putRowK _ _ _ _ _ ss.toArray _ ?_ (by simp [hlen])))
    exact holdsK_ahead _ _ _ _ _ _ _ HH.out

set_option maxHeartbeats 1000000 in
theorem places_any {c n : Nat} {F : Nat → Prop} {f : Plc → Int} {q : Cnt} {w : World} (hn : n ≤ 1000000) (hC : IsC w c F f q n) :
    Calls Tryz.prog 86 #[.pointer (some ⟨c, 0, none⟩)] w fun e w' => ∃ v l, e = .returned v ∧ PlacesOf f l ∧ RowP w' v l ∧ Below w.heap.size w w' := by
  obtain ⟨mp, hb, hm, hF⟩ := hC
  have r := hb.rule
  unfold cv at r
  have hk := fun w' => (callsIn_wide (n := 6)).1 (keys_in Fence.wide 6 trivial rfl mp w')
  have hs := sorted_any (w := w.alloc (.cells #[.map mp] 233)) (Bm := w.heap.size) (by simp) ((Blk.new 0 w [.map mp] _).rule 0) (hm.more _) (by unfold maxLen; omega) (by omega)
  go_enter Tryz.func86, Tryz.ntmps86
  go_wp2_with fail
  refine (hk _).mono ?_
  rintro e w1 ⟨rfl, rfl⟩
  clear hk
  go_wp2_with fail
  refine hs.mono ?_
  rintro e w2 ⟨v, l, rfl, h1, h2, h3⟩
  clear hs
  go_wp2
  go_ret
  exact ⟨v, l, rfl, h1, h2, ((Below.refl _ _).alloc (Nat.le_refl _) _).trans (h3.mono (by simp))⟩
end Go.Proofs.YtnnjanaclgjneaaGreatDoor

/- The contract of memory: the program's words are the reference's. -/
namespace Go.Proofs.YtnnjanaclgjneaaGreatDoor
open Go.RowKit Go.Maps
set_option maxRecDepth 100000

section
variable {w0 w : World} {R : List Item} {p c m n : Nat} {G FU : Nat → Prop} {qc : Cnt} {ml : List OneR}
set_option maxHeartbeats 3200000 in
theorem memory18 (hl : ml.length ≤ 900000) (hn : n ≤ 900000) (hE : Env w0 (wbox p c :: cellI c G (getL ml) qc n :: refI m FU ml :: R) w) :
    Calls Tryz.prog 56 #[.pointer (some ⟨p, 0, none⟩), .pointer (some ⟨m, 0, none⟩)] w fun o w' => o = .returned (.bool true) ∧ Env w0 (wbox p c :: cellI c G (getL ml) qc n :: refI m FU ml :: R) w' := by
  go_enter Tryz.func56, Tryz.ntmps56
  go_wp2_with fail
  refine (cells_w 0 1 hE rfl rfl).mono ?_
  rintro o w1 ⟨c2, F2, rfl, hE1⟩
  clear hE
  go_wp2_with fail
  refine (places_any (by omega) (hE1.cell 0 rfl)).mono ?_
  rintro e w5 ⟨v5, m5, rfl, hp5, hr5, hb⟩
  have hE5 := hE1.over hb
  clear hb hE1
  go_wp2_with fail
  refine (refPlaces_any (by omega) (hE5.ref 3 rfl).nodup (hE5.ref 3 rfl)).mono ?_
  rintro e w6 ⟨m6, v6, rfl, hp6, hm6, ho6, hb⟩
  have hE6 := hE5.over hb
  obtain rfl := hp5.eq hp6
  have hr5' := hr5.below hb
  have hr6 := ownsRow_rowP ho6
  have hwf : ∀ x ∈ m5, Wf x := fun x hx => Classical.byContradiction fun h => ((hp5.2 x).1 hx) ((hE6.cell 2 rfl).words.out x h)
  have hm5 : m5.length ≤ 900000 := by omega
  obtain ⟨A1, cp1, rfl⟩ := hr5'.len
  obtain ⟨A2, cp2, rfl⟩ := hr6.len
  have H1 := Lib.hid hr5'
  have H2 := Lib.hid hr6
  have HWF := Lib.hid hwf
  clear hb hE5 hp5 hp6 hr5 ho6 hm6 hr5' hr6 hwf
  go_wp2_with fail
  go_loopw [7] (fun i wr => ∃ k : Nat, k ≤ m5.length ∧ i = .int .i64 k ∧ Env w0 (cellI c2 F2 (getL ml) ⟨0, 0, 0, 0, 0⟩ n :: wbox p c :: cellI c G (getL ml) qc n :: refI m FU ml :: R) wr ∧ Below w6.heap.size w6 wr) (fun i _ => m5.length - (intOf i).toNat)
  case atStart => exact ⟨0, Nat.zero_le _, rfl, hE6, Below.refl _ _⟩
  case round =>
    clear hE6
    obtain ⟨k, hk, rfl, hEr, hB⟩ := hrel
    by_cases hlt : k < m5.length
    · have hb1 : decide ((k : Int) < (m5.length : Int)) = true := by simp; omega
      have hlti : (k : Int) < (m5.length : Int) := by omega
      rcases H1.out with ⟨h0, _⟩ | ⟨g1, cap1, e1, hg1, hc1⟩
      · rw [h0] at hlt; simp at hlt
      rcases H2.out with ⟨h0, _⟩ | ⟨g2, cap2, e2, hg2, hc2⟩
      · rw [h0] at hlt; simp at hlt
      simp only [Value.slice.injEq] at e1 e2
      obtain ⟨rfl, -, rfl⟩ := e1
      obtain ⟨rfl, -, rfl⟩ := e2
      obtain ⟨a0, a1, a2⟩ := hc1 k hlt
      obtain ⟨b0, b1, b2⟩ := hc2 k hlt
      have hx := HWF.out (m5.getD k z3) (by rw [List.getD_eq_getElem?_getD, List.getElem?_eq_getElem hlt]; exact List.getElem_mem hlt)
      clear hc1 hc2
      generalize m5.getD k z3 = o at a0 a1 a2 b0 b1 b2 hx
      obtain ⟨x, y, z⟩ := o
      simp only at a0 a1 a2 b0 b1 b2
      obtain ⟨v, hv⟩ : ∃ v, getL ml (x, y, z) = v := ⟨_, rfl⟩
      have HC : Hid (∀ w', (Env w0 (cellI c2 F2 (getL ml) ⟨0, 0, 0, 0, 0⟩ n :: wbox p c :: cellI c G (getL ml) qc n :: refI m FU ml :: R) w' ∧ Below w6.heap.size w6 w') → (w'.cell? ⟨g1, k * 3, none⟩ = some (.int .i64 x) ∧ w'.cell? ⟨g1, k * 3 + 1, none⟩ = some (.int .i64 y) ∧ w'.cell? ⟨g1, k * 3 + 2, none⟩ = some (.int .i64 z) ∧
          w'.cell? ⟨g2, k * 3, none⟩ = some (.int .i64 x) ∧ w'.cell? ⟨g2, k * 3 + 1, none⟩ = some (.int .i64 y) ∧ w'.cell? ⟨g2, k * 3 + 2, none⟩ = some (.int .i64 z))) := Lib.hid fun w' hb => by
        refine ⟨?_, ?_, ?_, ?_, ?_, ?_⟩
        · rw [hb.2.cell (p := ⟨g1, k * 3, none⟩) hg1]; exact a0
        · rw [hb.2.cell (p := ⟨g1, k * 3 + 1, none⟩) hg1]; exact a1
        · rw [hb.2.cell (p := ⟨g1, k * 3 + 2, none⟩) hg1]; exact a2
        · rw [hb.2.cell (p := ⟨g2, k * 3, none⟩) hg2]; exact b0
        · rw [hb.2.cell (p := ⟨g2, k * 3 + 1, none⟩) hg2]; exact b1
        · rw [hb.2.cell (p := ⟨g2, k * 3 + 2, none⟩) hg2]; exact b2
      have HPK : Hid (∀ w', (Env w0 (cellI c2 F2 (getL ml) ⟨0, 0, 0, 0, 0⟩ n :: wbox p c :: cellI c G (getL ml) qc n :: refI m FU ml :: R) w' ∧ Below w6.heap.size w6 w') → Calls Tryz.prog 62 #[.pointer (some ⟨p, 0, none⟩), .agg #[.int .i64 x, .int .i64 y, .int .i64 z]] w' fun e v' => e = .returned (.int .u64 v) ∧ Below w'.heap.size w' v') := Lib.hid fun w' hb => by
        rw [← hv]
        exact peek_w x y z hx 1 2 hb.1 rfl rfl
      have HGT : Hid (∀ w', (Env w0 (cellI c2 F2 (getL ml) ⟨0, 0, 0, 0, 0⟩ n :: wbox p c :: cellI c G (getL ml) qc n :: refI m FU ml :: R) w' ∧ Below w6.heap.size w6 w') → Calls Tryz.prog 88 #[.pointer (some ⟨m, 0, none⟩), .agg #[.int .i64 x, .int .i64 y, .int .i64 z]] w' fun e v' => e = .returned (.int .u64 v) ∧ Below w'.heap.size w' v') := Lib.hid fun w' hb => by
        rw [← hv]
        exact refGet_any x y z (by omega) (hb.1.ref 3 rfl)
      clear a0 a1 a2 b0 b1 b2 hv hx
      go_wp2_with fail
      refine wp_text (S := (fun w' => Env w0 (cellI c2 F2 (getL ml) ⟨0, 0, 0, 0, 0⟩ n :: wbox p c :: cellI c G (getL ml) qc n :: refI m FU ml :: R) w' ∧ Below w6.heap.size w6 w')) (by kernel_rfl) (by kernel_rfl) ⟨hEr.drew, hB.drew⟩ (fun hT => ?_)
      have hT9 := Lib.hid hT
      clear hT
      repeat (first
        | (refine text_value (v := ?_) hT9.out (by rfl) ?_ ?_; rotate_left; (focus (intro w5 hS; obtain ⟨a0, a1, a2, b0, b1, b2⟩ := HC.out _ hS; go_simp <;> with_reducible rfl)); (try simp only [Act.put, List.setIfInBounds_toArray, List.set_cons_zero, List.set_cons_succ]))
        | (refine text_off hT9.out (by rfl) ?_; (try simp only [Act.put, List.setIfInBounds_toArray, List.set_cons_zero, List.set_cons_succ]))
        | (refine text_call (v := ?_) (f := ?_) (args := ?_) hT9.out (by rfl) ?_ ?_ ?_; rotate_left 3; (focus (intro w5 hS; obtain ⟨a0, a1, a2, b0, b1, b2⟩ := HC.out _ hS; go_simp; constructor <;> with_reducible rfl)); (focus (intro w5 hS; (first | (with_reducible refine (HPK.out _ hS).mono ?_; rintro o w8 ⟨rfl, hb5⟩; constructor; with_reducible rfl; exact ⟨hS.1.over hb5, hS.2.trans (hb5.mono hS.2.size)⟩) | (with_reducible refine (HGT.out _ hS).mono ?_; rintro o w8 ⟨rfl, hb5⟩; constructor; with_reducible rfl; exact ⟨hS.1.over hb5, hS.2.trans (hb5.mono hS.2.size)⟩)))); (try simp only [Act.put, List.setIfInBounds_toArray, List.set_cons_zero, List.set_cons_succ])))
      refine InText.nil fun w5 hS5 => ?_
      clear hT9
      clear hEr hB HC HPK HGT
      go_wp2_with fail
      exact ⟨⟨k + 1, by omega, by simp, hS5⟩, by simp [intOf]; omega⟩
    · have hb1 : decide ((k : Int) < (m5.length : Int)) = false := by simp; omega
      go_wp2_with fail
      go_ret
      exact ⟨rfl, hEr.sub (.cons _ (List.Sublist.refl _))⟩
end
end Go.Proofs.YtnnjanaclgjneaaGreatDoor

/- The plain world: it starts; it is awake. -/
namespace Go.Proofs.YtnnjanaclgjneaaGreatDoor
open Go.RowKit Go.Maps
set_option maxRecDepth 100000

/-- The deferred recover, where nothing panicked. -/
theorem caught_none (w : World) : CallsD Tryz.prog 107 #[] .returning w fun e u' w' => u' = .returning ∧ e = .returned (.tuple #[]) ∧ w' = w := by
  refine callsD_of_wpS Tryz.func107 rfl fun c₀ cs hu => ?_
  apply wpS_region
  cases c₀
  simp_all [wpOpsS, go_sem, recoverD, Tryz.ntmps107, Exit.thenS, bodyPostS, results, Tryz.results107]

theorem method_store (k p : Nat) (w : World) : (method (k + 1) 26 (.pointer (some ⟨p, 0, none⟩)) "Store").run Tryz.prog w = .ok (94, .pointer (some ⟨p, 0, none⟩)) w := by kernel_rfl

section
variable {w0 w : World} {L : List Item} {p c n : Nat} {F : Nat → Prop} {f : Plc → Int} {q : Cnt}
set_option maxHeartbeats 1600000 in
theorem start_w (i j : Nat) (hij : j ≠ i) (hn : n < maxLen) (hE : Env w0 L w) (hi : L[i]? = some (wbox p c)) (hj : L[j]? = some (cellI c F f q n)) :
    Calls Tryz.prog 58 #[.iface 26 (.pointer (some ⟨p, 0, none⟩))] w fun e w' => e = .returned (.tuple #[]) ∧ ∃ F', Env w0 (L.set j (cellI c F' (upd f (1, 0, 0) 1) { q with s := wrap64 (q.s + 1) } (n + 1))) w' := by
  have hmf : ∀ (fn : Fn) (first cap : Array Value) (w : World), (Instr.makeFunc fn first cap).run Tryz.prog w = .ok (.func fn first cap) w := fun _ _ _ _ => rfl
  go_enter_defers Tryz.func58, Tryz.ntmps58
  go_wp2_with fail
  refine Ord.wp_chain [6] (fun _ => True) (fun k w' => ∃ F', Env w0 (if k = 0 then L else L.set j (cellI c F' (upd f (1, 0, 0) 1) { q with s := wrap64 (q.s + 1) } (n + 1))) w') (by kernel_rfl) (by kernel_rfl) (by kernel_rfl) trivial ⟨F, hE.drew⟩ (fun hT => ?_)
  have hT9 := Lib.hid hT
  clear hT
  repeat (first
    | (refine Ord.ch_value (v := ?_) hT9.out (by decide) (by rfl) ?_ ?_; rotate_left; (focus (intro w5 hS; skip; go_simp <;> with_reducible rfl)); (try simp only [Act.put, List.setIfInBounds_toArray, List.set_cons_zero, List.set_cons_succ]))
    | (refine Ord.ch_off hT9.out (by decide) (by rfl) ?_; (try simp only [Act.put, List.setIfInBounds_toArray, List.set_cons_zero, List.set_cons_succ]))
    | (refine Ord.ch_call (v := ?_) (f := ?_) (args := ?_) hT9.out (by decide) (by rfl) ?_ ?_ ?_; rotate_left 3; (focus (intro w5 hS; skip; go_simp; constructor <;> with_reducible rfl)); (focus (intro w5 hS; (first | (with_reducible refine (epoch_any _).mono ?_; rintro e w6 ⟨rfl, hb6⟩; constructor; with_reducible rfl; exact ⟨trivial, fun k h => h.elim fun F' h => ⟨F', h.over hb6⟩⟩)))); (try simp only [Act.put, List.setIfInBounds_toArray, List.set_cons_zero, List.set_cons_succ])))
  refine Ord.ch_turn (v := .tuple #[]) 0 hT9.out rfl (by decide) (Or.inl rfl) (by rfl) ?_ ?_
  · rintro w5 hC5 ⟨F5, hA5⟩
    simp only [if_true] at hA5
    go_simp
    rw [method_store]
    simp only [Result.andThen_ok]
    go_simp
    simp only [Ord.LandsIn]
    refine (store_w 1 0 0 0 1 0 false (by unfold Wf In64; simp) (by unfold InU; simp) hn i j hij hA5 hi hj).mono ?_
    rintro e w6 ⟨rfl, F6, hE6⟩
    exact ⟨rfl, F6, hE6⟩
  (try simp only [Act.put, List.setIfInBounds_toArray, List.set_cons_zero, List.set_cons_succ])
  repeat (first
    | (refine Ord.ch_value (v := ?_) hT9.out (by decide) (by rfl) ?_ ?_; rotate_left; (focus (intro w5 hS; skip; go_simp <;> with_reducible rfl)); (try simp only [Act.put, List.setIfInBounds_toArray, List.set_cons_zero, List.set_cons_succ]))
    | (refine Ord.ch_off hT9.out (by decide) (by rfl) ?_; (try simp only [Act.put, List.setIfInBounds_toArray, List.set_cons_zero, List.set_cons_succ])))
  refine Ord.InText.nil fun w5 hS => ?_
  clear hT9
  obtain ⟨hC9, hA9⟩ := Ord.chain_end hS
  clear hS
  obtain ⟨F9, hA9⟩ := hA9
  simp only [List.length_cons, List.length_nil, Nat.zero_add, Nat.one_ne_zero, if_false] at hA9
  go_wp2
  refine leaves_cons (f := 107) (args := #[]) (by simp) (by simp [go_sem]) ?_
  refine (caught_none _).mono ?_
  rintro e u' w'' ⟨rfl, rfl, rfl⟩
  exact ⟨_, results_none rfl _ _ _, rfl, F9, hA9⟩
end
theorem start_nil (w : World) : Calls Tryz.prog 58 #[.nilIface] w fun e w' => e = .returned (.tuple #[]) ∧ w' = w := by
  go_enter_defers Tryz.func58, Tryz.ntmps58
  go_wp2
  exact ⟨_, results_none rfl _ _ _, rfl, rfl⟩
end Go.Proofs.YtnnjanaclgjneaaGreatDoor

/- Shared cells: the contracts of the accesses. -/
namespace Go.Proofs.YtnnjanaclgjneaaGreatDoor
open Go.RowKit Go.Maps
set_option maxRecDepth 100000

section
variable {w w' : World} {c n : Nat} {F : Nat → Prop} {f : Plc → Int} {q : Cnt}
end

set_option maxHeartbeats 800000 in
theorem count_any {c n : Nat} {F : Nat → Prop} {f : Plc → Int} {q : Cnt} {w : World} (hC : IsC w c F f q n) :
    Calls Tryz.prog 80 #[.pointer (some ⟨c, 0, none⟩)] w fun e w' => e = .returned (.agg #[.int .i64 q.l, .int .i64 q.s, .int .i64 q.w, .int .i64 q.f, .int .i64 q.a]) ∧ Below w.heap.size w w' := by
  obtain ⟨mp, hb, hm, hF⟩ := hC
  have r1 := cell_more hb.1 hb.rule
  unfold cv at r1
  go_enter Tryz.func80, Tryz.ntmps80
  go_wp2
  refine bodyPost_ret (v := .agg #[.int .i64 q.l, .int .i64 q.s, .int .i64 q.w, .int .i64 q.f, .int .i64 q.a]) (by simp [results, Tryz.results80, go_sem]) rfl ⟨rfl, ?_⟩
  exact (Below.refl _ _).alloc (Nat.le_refl _) _
end Go.Proofs.YtnnjanaclgjneaaGreatDoor

/- The plain world: contracts of its accesses: each is the cells' own, among whatever other things there are. -/
namespace Go.Proofs.YtnnjanaclgjneaaGreatDoor
open Go.RowKit Go.Maps
set_option maxRecDepth 100000

section
variable {w0 w : World} {L : List Item} {p c n : Nat} {F : Nat → Prop} {f : Plc → Int} {q : Cnt}

set_option maxHeartbeats 1600000 in
theorem count_w (i j : Nat) (hE : Env w0 L w) (hi : L[i]? = some (wbox p c)) (hj : L[j]? = some (cellI c F f q n)) :
    Calls Tryz.prog 27 #[.pointer (some ⟨p, 0, none⟩)] w fun e w' => e = .returned (.agg #[.int .i64 q.l, .int .i64 q.s, .int .i64 q.w, .int .i64 q.f, .int .i64 q.a]) ∧ Below w.heap.size w w' := by
  have hb := (Below.refl w.heap.size w).alloc (Nat.le_refl _) (.cells #[.int .i64 0, .int .i64 0, .int .i64 0, .int .i64 0, .int .i64 0] 70)
  replace hE := hE.box w.heap.size rfl [.int .i64 0, .int .i64 0, .int .i64 0, .int .i64 0, .int .i64 0] 70
  go_enter Tryz.func27, Tryz.ntmps27
  go_wp2_with fail
  refine (kept_any (hE.wblk (i + 1) hi)).mono ?_
  rintro e w1 ⟨rfl, rfl⟩
  go_wp2_with fail
  refine (count_any (hE.cell (j + 1) hj)).mono ?_
  rintro e w2 ⟨rfl, hb2⟩
  have hE2 := hE.over hb2
  have f5 := hE2.thaw 0 rfl
  have f0 := f5 0 (by simp)
  have f1 := f5 1 (by simp)
  have f2 := f5 2 (by simp)
  have f3 := f5 3 (by simp)
  have f4 := f5 4 (by simp)
  have r := hE2.rule 0 rfl
  have hB := hb.trans (hb2.mono hb.size)
  clear f5
  go_wp2
  have hP := hE2.put5 0 rfl (.int .i64 q.l) (.int .i64 q.s) (.int .i64 q.w) (.int .i64 q.f) (.int .i64 q.a)
  have q9 := hP.rule 0 rfl
  refine bodyPost_ret (v := .agg #[.int .i64 q.l, .int .i64 q.s, .int .i64 q.w, .int .i64 q.f, .int .i64 q.a]) (by simp [results, Tryz.results27, go_sem, q9]) rfl ⟨rfl, ?_⟩
  exact ((((hB.setCell (Nat.le_refl _) _).setCell (Nat.le_refl _) _).setCell (Nat.le_refl _) _).setCell (Nat.le_refl _) _).setCell (Nat.le_refl _) _
end
end Go.Proofs.YtnnjanaclgjneaaGreatDoor

/- Finds: the program is awake. -/
namespace Go.Proofs.YtnnjanaclgjneaaGreatDoor
open Go.RowKit Go.Maps
set_option maxRecDepth 100000

theorem skip_t (h : Int) (w : World) : Calls Tryz.prog 42 #[.int .i64 h] w fun o w' => o = .returned (.agg #[.int .i64 3, .int .i64 1000, .int .i64 0, .int .i64 h, .int .i64 1073741824]) ∧ Below w.heap.size w w' := by
  go_enter Tryz.func42, Tryz.ntmps42
  go_wp2
  exact bodyPost_ret (v := .agg #[.int .i64 3, .int .i64 1000, .int .i64 0, .int .i64 h, .int .i64 1073741824]) (by simp [results, Tryz.results42, go_sem]) rfl ⟨rfl, (Below.refl _ _).alloc (Nat.le_refl _) _⟩
/-- So many steps of a Find alone. -/
def runD (h : Nat) (key : Int) (f : Plc → Int) : Nat → Int × Fm × (Plc → Int)
  | 0 => (0, F0m 0 0, f)
  | n + 1 => downM h key (runD h key f n).2.1 (runD h key f n).2.2
def f18 : Plc → Int := upd (fun _ => 0) (1, 0, 0) 1
theorem busy18 : ∀ n, n < 5 → (runD 2 5 f18 n).1 = 0 := by decide +kernel
theorem done18 : (runD 2 5 f18 5).1 = 1 := by decide +kernel
theorem fin18 : (runD 2 5 f18 5).2.1.lv = 0 ∧ ((runD 2 5 f18 5).2.1.L 0).fd = false ∧ ((runD 2 5 f18 5).2.1.L 1).p = (4, 0, 1) ∧ ((runD 2 5 f18 5).2.1.L 0).p = (4, 0, 0) := by decide +kernel
theorem FindR.words {w0 w : World} {R : List Item} {fb h : Nat} {S : ST} {key s : Int} {F : Fm} (hR : FindR w0 R fb h key S s F w) : Words S.f := by
  obtain ⟨-, -, ⟨-, -, g, ps, l0, -, hE⟩ | ⟨-, -, g, ps, a, D, b1, b2, nx, -, -, -, -, ny, wd, B1, B2, -, hE⟩⟩ := hR
  · exact (hE.cell 5 rfl).words
  · exact (hE.cell 6 rfl).words
theorem FindR.below {w0 w : World} {R : List Item} {fb h : Nat} {S : ST} {key s : Int} {F : Fm} (hR : FindR w0 R fb h key S s F w) : Below w0.heap.size w0 w := by
  obtain ⟨-, -, ⟨-, -, g, ps, l0, -, hE⟩ | ⟨-, -, g, ps, a, D, b1, b2, nx, -, -, -, -, ny, wd, B1, B2, -, hE⟩⟩ := hR
  · exact hE.below
  · exact hE.below
theorem FindR.start {w0 w : World} {R : List Item} {fb h g : Nat} {B : Bs} {G : Nat → Prop} {f : Plc → Int} {qc : Cnt} {m : Nat} {key : Int} (hE : Env w0 (boxI fb (fdC B.c key (mvL 96 fb) 0 g h 0) :: boxI g (List.replicate h (.pointer none)) :: LT (mk18 B h G f qc m 0 0) R) w) : FindR w0 R fb h key (mk18 B h G f qc m 0 0) 0 (F0m 0 0) w :=
  ⟨rfl, rfl, .inl ⟨rfl, rfl, g, _, 0, List.length_replicate, hE⟩⟩
theorem at_placeF (v : World) (x y z d : Int) : (Instr.field 122 (.agg #[.int .i64 x, .int .i64 y, .int .i64 z, .int .i64 d]) 0).run Tryz.prog v = .ok (.agg #[.int .i64 x, .int .i64 y, .int .i64 z]) v := by kernel_rfl
set_option maxHeartbeats 6400000 in
theorem awake18 (w : World) (hg : Glo w) : Calls Tryz.prog 39 #[] w fun o w' => o = .returned (.bool true) ∧ Below w.heap.size w w' := by
  have hE := Env.start w
  have HG := Lib.hid hg
  have HC := Lib.hid (show chkI 3 1000 0 2 1073741824 = 0 by decide)
  have HC2 := Lib.hid (show chkI 1 1 0 1 2 = 0 by decide)
  clear hg
  go_enter Tryz.func39, Tryz.ntmps39
  go_wp2_with fail
  refine (new_w hE).mono ?_
  rintro o w3 ⟨p, cc, rfl, hE3, hb⟩
  clear hb hE
  go_wp2_with fail
  refine (start_w 0 1 (by decide) (by unfold maxLen; omega) hE3 rfl rfl).mono ?_
  rintro o w4 ⟨rfl, F4, hE4⟩
  simp only [List.set_cons_succ, List.set_cons_zero] at hE4
  clear hE3
  generalize ({ l := _, s := _, w := _, f := _, a := _ } : Cnt) = q4 at hE4
  go_wp2_with fail
  refine (skip_t 2 _).mono ?_
  rintro o w5 ⟨rfl, hb⟩
  replace hE4 := hE4.over hb
  clear hb
  go_wp2_with fail
  refine (newYes_c 3 1000 0 2 1073741824 HC.out hE4).mono ?_
  rintro o w6 ⟨c, q, F, rfl, hE6⟩
  clear hE4
  go_wp2_with fail
  refine (newYes_f (h := 2) 0 5 (by omega) rfl hE6).mono ?_
  rintro o w7 ⟨fb, g, rfl, hE7⟩
  clear hE6
  have hR : FindR w [] fb 2 5 (mk18 ⟨c, q, p, cc, F, 2⟩ 2 F4 f18 q4 (0 + 1) 0 0) 0 (F0m 0 0) w7 := FindR.start hE7
  clear hE7
  go_wp2_with fail
  go_loopw [3, 4] (fun sv nv wr => ∃ (j mm : Nat) (G : Nat → Prop) (qc : Cnt) (s : Int) (T : Fm) (f : Plc → Int), nv = .int .i64 j ∧ sv = .int .i64 s ∧ j ≤ 5 ∧ mm ≤ 20 + j ∧ Hid (runD 2 5 f18 j = (s, T, f)) ∧ Hid (s = 0 → FmOk 2 T) ∧ FindR w [] fb 2 5 (mk18 ⟨c, q, p, cc, F, 2⟩ 2 G f qc mm T.e T.r) s T wr) (fun _ nv _ => 20 - (intOf nv).toNat)
  case atStart => exact ⟨0, 0 + 1, F4, q4, 0, F0m 0 0, f18, rfl, rfl, by omega, by omega, Lib.hid rfl, Lib.hid (fun _ => F0m_ok _ _ _), hR⟩
  case round =>
    clear hR
    obtain ⟨j, mm, G, qc, s, T, f, rfl, rfl, hj, hmm, hrun, hok, hR⟩ := hrel
    by_cases hlt : j < 5
    · have hs : s = 0 := by
        have h1 := busy18 j hlt
        rw [hrun.out] at h1
        exact h1
      subst hs
      have hb1 : decide ((j : Int) < 20) = true := by simp; omega
      have hW : Words f := hR.words
      have hT := hok.out rfl
      have hst := down_k (by omega) (by omega) hT HG.out (by unfold maxLen; omega) hR
      have HNX : Hid (runD 2 5 f18 (j + 1) = downM 2 5 T f) := Lib.hid (by show downM 2 5 (runD 2 5 f18 j).2.1 (runD 2 5 f18 j).2.2 = _; rw [hrun.out])
      have HOK : Hid ((downM 2 5 T f).1 = 0 → FmOk 2 (downM 2 5 T f).2.1) := Lib.hid (down_ok (by omega) (by omega) hT hW.u)
      have HM : Hid (mD T mm ≤ 20 + (j + 1)) := Lib.hid (by have := mD_le T mm; omega)
      generalize downM 2 5 T f = q9 at *
      generalize qcD T f qc = qc9 at *
      generalize mD T mm = mm9 at *
      obtain ⟨s9, T9, f9⟩ := q9
      have HST := Lib.hid hst
      clear hst hR hW hT hok hrun
      go_wp2_with fail
      refine HST.out.mono ?_
      rintro o w8 ⟨rfl, G9, hR9⟩
      go_wp2_with fail
      exact ⟨⟨j + 1, mm9, G9, qc9, s9, T9, f9, by simp, rfl, by omega, HM.out, HNX, HOK, hR9⟩, by simp [intOf]; omega⟩
    · have hj5 : j = 5 := by omega
      subst hj5
      have hs : s = 1 := by
        have h1 := done18
        rw [hrun.out] at h1
        exact h1
      have hfin := fin18
      rw [hrun.out] at hfin
      subst hs
      obtain ⟨h1, h2, h3, h4⟩ := hfin
      obtain ⟨g9, ps, D, nx, hps, hE⟩ := hR.fin h1
      have HF0 : Hid (∀ v, Env w (boxI fb (fdC c 5 nx 1 g9 2 0) :: boxI g9 ps :: (endL c 5 T.L D 2 ++ LT (mk18 ⟨c, q, p, cc, F, 2⟩ 2 G f qc mm T.e T.r) [])) v → Calls Tryz.prog 50 #[.pointer (some ⟨fb, 0, none⟩)] v fun o w' => o = .returned (.bool false) ∧ w' = v) := Lib.hid fun v hv => by
        have h9 := endFound0 (by omega) (by omega) hps hv
        rwa [h2] at h9
      have HA1 : Hid (∀ v, Env w (boxI fb (fdC c 5 nx 1 g9 2 0) :: boxI g9 ps :: (endL c 5 T.L D 2 ++ LT (mk18 ⟨c, q, p, cc, F, 2⟩ 2 G f qc mm T.e T.r) [])) v → Calls Tryz.prog 53 #[.pointer (some ⟨fb, 0, none⟩), .int .i64 1] v fun o w' => o = .returned (.agg #[.int .i64 4, .int .i64 0, .int .i64 1, .int .i64 0]) ∧ Below v.heap.size v w') := Lib.hid fun v hv => by
        have h9 := endAt (by omega) hps hv (l := 1) (by omega)
        rwa [h3] at h9
      have HA0 : Hid (∀ v, Env w (boxI fb (fdC c 5 nx 1 g9 2 0) :: boxI g9 ps :: (endL c 5 T.L D 2 ++ LT (mk18 ⟨c, q, p, cc, F, 2⟩ 2 G f qc mm T.e T.r) [])) v → Calls Tryz.prog 53 #[.pointer (some ⟨fb, 0, none⟩), .int .i64 0] v fun o w' => o = .returned (.agg #[.int .i64 4, .int .i64 0, .int .i64 0, .int .i64 0]) ∧ Below v.heap.size v w') := Lib.hid fun v hv => by
        have h9 := endAt (by omega) hps hv (l := 0) (by omega)
        rwa [h4] at h9
      have HA2 : Hid (∀ v, Env w (boxI fb (fdC c 5 nx 1 g9 2 0) :: boxI g9 ps :: (endL c 5 T.L D 2 ++ LT (mk18 ⟨c, q, p, cc, F, 2⟩ 2 G f qc mm T.e T.r) [])) v → Calls Tryz.prog 53 #[.pointer (some ⟨fb, 0, none⟩), .int .i64 2] v fun o w' => o = .returned (.agg #[.int .i64 0, .int .i64 0, .int .i64 0, .int .i64 0]) ∧ Below v.heap.size v w') := Lib.hid fun v hv => endAtNo 2 (.inr (by omega)) hv
      have hap := at_placeF
      clear hok hrun h1 h2 h3 h4
      obtain ⟨XL, hXL⟩ : ∃ XL, boxI fb (fdC c 5 nx 1 g9 2 0) :: boxI g9 ps :: (endL c 5 T.L D 2 ++ LT (mk18 ⟨c, q, p, cc, F, 2⟩ 2 G f qc mm T.e T.r) []) = XL := ⟨_, rfl⟩
      replace hE : Env w XL wr := by rw [← hXL]; exact hE
      rw [hXL] at HF0 HA1 HA0 HA2
      clear hXL hps
      go_wp2_with (first
        | (with_reducible refine (HF0.out _ hE).mono ?_; rintro o w8 ⟨rfl, rfl⟩)
        | (with_reducible refine (HA1.out _ hE).mono ?_; rintro o w8 ⟨rfl, hb⟩; replace hE := hE.over hb; clear hb)
        | (with_reducible refine (HA0.out _ hE).mono ?_; rintro o w8 ⟨rfl, hb⟩; replace hE := hE.over hb; clear hb)
        | (with_reducible refine (HA2.out _ hE).mono ?_; rintro o w8 ⟨rfl, hb⟩; replace hE := hE.over hb; clear hb)
        | (with_reducible refine (root_any _ _).mono ?_; rintro o w8 ⟨rfl, hb⟩; replace hE := hE.over hb; clear hb))
      refine (newYes_c 1 1 0 1 2 HC2.out hE).mono ?_
      rintro o w9 ⟨c9, q9, F9, rfl, hE9⟩
      go_wp2_with fail
      refine (newNo_f 0 1 1 (by decide) rfl hE9).mono ?_
      rintro o w10 ⟨rfl, hE10⟩
      go_wp2_with fail
      go_ret
      exact ⟨rfl, hE10.below⟩
end Go.Proofs.YtnnjanaclgjneaaGreatDoor

/- Threads: what they are in memory; contracts of what they tell. -/
namespace Go.Proofs.YtnnjanaclgjneaaGreatDoor
open Go.RowKit Go.Maps
set_option maxRecDepth 100000

section
variable {w : World} {c q : Nat} {k s b h l e r hs hi : Int}
set_option maxHeartbeats 800000 in
theorem rolls_c (hb : Blk 0 w c (crv k s b h l e r hs hi q)) : Calls Tryz.prog 48 #[.pointer (some ⟨c, 0, none⟩)] w fun o w' => o = .returned (.int .i64 r) ∧ w' = w := by
  have r1 := hb.rule
  unfold crv at r1
  go_enter Tryz.func48, Tryz.ntmps48
  go_wp2
  go_ret
  exact ⟨rfl, rfl⟩
end
end Go.Proofs.YtnnjanaclgjneaaGreatDoor

/- Threads: what they are in memory; contracts of what they tell. -/
namespace Go.Proofs.YtnnjanaclgjneaaGreatDoor
open Go.RowKit Go.Maps
set_option maxRecDepth 100000

section
variable {w : World} {c q : Nat} {k s b h l e r hs hi : Int}
set_option maxHeartbeats 800000 in
theorem epoch_c (hb : Blk 0 w c (crv k s b h l e r hs hi q)) : Calls Tryz.prog 49 #[.pointer (some ⟨c, 0, none⟩)] w fun o w' => o = .returned (.int .i64 e) ∧ w' = w := by
  have r1 := hb.rule
  unfold crv at r1
  go_enter Tryz.func49, Tryz.ntmps49
  go_wp2
  go_ret
  exact ⟨rfl, rfl⟩
end
end Go.Proofs.YtnnjanaclgjneaaGreatDoor

/- A Find of the program and one of the reference, of equal words, among other things. -/
namespace Go.Proofs.YtnnjanaclgjneaaGreatDoor
open Go.RowKit Go.Maps
set_option maxRecDepth 100000

def U18 (h : Nat) : Uc := ⟨3, 1000, 0, (h : Int), 1073741824, none, 0, 0, 0, 0⟩
/-- Where both Finds' things are. -/
structure Jd where
  B : Bs
  (fb q u m h : Nat)
  (key : Int)
/-- The program's things but for the world's are these. -/
def PFc (w0 : World) (J : Jd) (s : Int) (F : Fm) (M : List Item) : Prop :=
  (∀ G f qc n R w, Env w0 (M ++ (wbox J.B.p J.B.cc :: cellI J.B.cc G f qc n :: R)) w → FindR w0 R J.fb J.h J.key (mk18 J.B J.h G f qc n F.e F.r) s F w) ∧ coreI J.B.c 3 1000 0 J.h 1073741824 F.e F.r 0 0 J.B.q ∈ M
/-- The reference's things but for its memory are these. -/
def QFc (w0 : World) (J : Jd) (F : Fm) (Q : List Item) : Prop :=
  (∀ G ml N R w, ml.length ≤ N → Env w0 (Q ++ (refI J.m G ml :: R)) w → RFi (U18 J.h) w0 R J.q J.u J.m J.h J.key F (getL ml) N w) ∧ boxI J.u (ruC (U18 J.h) F.e F.r) ∈ Q
def BothD (w0 : World) (R : List Item) (J : Jd) (G : Nat → Prop) (f : Plc → Int) (qc : Cnt) (n : Nat) (s : Int) (F F2 : Fm) (f2 : Plc → Int) (N : Nat) (w : World) : Prop :=
  ∃ M Q G2 ml, PFc w0 J s F M ∧ QFc w0 J F2 Q ∧ getL ml = f2 ∧ ml.length ≤ N ∧ Env w0 (M ++ (Q ++ (wbox J.B.p J.B.cc :: cellI J.B.cc G f qc n :: refI J.m G2 ml :: R))) w
section
variable {w0 w w' : World} {R M Q : List Item} {J : Jd} {G : Nat → Prop} {f f2 : Plc → Int} {qc : Cnt} {n N : Nat} {s : Int} {F F2 : Fm}
theorem perm_progD (M Q R : List Item) (a b c : Item) : (M ++ (Q ++ (a :: b :: c :: R))).Perm (M ++ (a :: b :: (Q ++ (c :: R)))) := perm_of fun z => by simp only [List.count_append, List.count_cons]; omega
theorem perm_refD (M Q R : List Item) (a b c : Item) : (M ++ (Q ++ (a :: b :: c :: R))).Perm (Q ++ (c :: (M ++ (a :: b :: R)))) := perm_of fun z => by simp only [List.count_append, List.count_cons]; omega
theorem perm_memD (M Q R : List Item) (a b c : Item) : (M ++ (Q ++ (a :: b :: c :: R))).Perm (a :: b :: c :: (M ++ (Q ++ R))) := perm_of fun z => by simp only [List.count_append, List.count_cons]; omega
theorem FindR.toM (h : FindR w0 R J.fb J.h J.key (mk18 J.B J.h G f qc n F.e F.r) s F w) : ∃ M, PFc w0 J s F M ∧ Env w0 (M ++ (wbox J.B.p J.B.cc :: cellI J.B.cc G f qc n :: R)) w := by
  obtain ⟨-, -, ⟨hoff, hs, g, ps, l0, hps, hE⟩ | ⟨hon, hlt, g, ps, a, D, b1, b2, nx, h1, h2, h3, h4, ny, wd, B1, B2, hn, hE⟩⟩ := h
  · refine ⟨[boxI J.fb (fdC J.B.c J.key (mvL 96 J.fb) 0 g J.h l0), boxI g ps, coreI J.B.c 3 1000 0 J.h 1073741824 F.e F.r 0 0 J.B.q, queueI J.B.q J.B.F [] J.B.kq], ⟨fun G f qc n R w h => ⟨rfl, rfl, .inl ⟨hoff, hs, g, ps, l0, hps, h⟩⟩, by simp⟩, hE⟩
  · refine ⟨[boxI a (laneV J.B.c F.lv J.key false ny s wd (pfS s (F.L F.lv)) (pvS s (F.L F.lv)) (F.L F.lv)), B1, B2, coreI J.B.c 3 1000 0 J.h 1073741824 F.e F.r 0 0 J.B.q, queueI J.B.q J.B.F [] J.B.kq, boxI b1 [mvL 181 a], boxI b2 [mvL 189 J.fb], boxI J.fb (fdC J.B.c J.key nx s g J.h F.lv), boxI g ps] ++ dnL J.B.c J.key F.L D F.lv (J.h - 1 - F.lv), ⟨fun G f qc n R w h => ⟨rfl, rfl, .inr ⟨hon, hlt, g, ps, a, D, b1, b2, nx, h1, h2, h3, h4, ny, wd, B1, B2, hn, h.perm (perm_of fun z => ?_)⟩⟩, by simp⟩, hE.perm (perm_of fun z => ?_)⟩
    · simp only [mk18, LT, List.count_append, List.count_cons, List.count_nil]
      omega
    · simp only [mk18, LT, List.count_append, List.count_cons, List.count_nil]
      omega
theorem RFi.toQ (h : RFi (U18 J.h) w0 R J.q J.u J.m J.h J.key F f N w) : ∃ Q G2 ml, QFc w0 J F Q ∧ getL ml = f ∧ ml.length ≤ N ∧ Env w0 (Q ++ (refI J.m G2 ml :: R)) w := by
  obtain ⟨V, hV, hl, ml, hf, hm, G2, hE⟩ := h
  exact ⟨[boxI J.q (blkF J.key (if F.on then (F.lv : Int) else -1) V), boxI J.u (ruC (U18 J.h) F.e F.r)], G2, ml, ⟨fun G ml N R w h1 h2 => ⟨V, hV, hl, ml, rfl, h1, G, h2⟩, by simp⟩, hf, hm, hE⟩
theorem BothD.over (h : BothD w0 R J G f qc n s F F2 f2 N w) (hb : Below w.heap.size w w') : BothD w0 R J G f qc n s F F2 f2 N w' := by
  obtain ⟨M, Q, G2, ml, h1, h2, h3, h4, hE⟩ := h
  exact ⟨M, Q, G2, ml, h1, h2, h3, h4, hE.over hb⟩
theorem BothD.below (h : BothD w0 R J G f qc n s F F2 f2 N w) : Below w0.heap.size w0 w := by
  obtain ⟨M, Q, G2, ml, h1, h2, h3, h4, hE⟩ := h
  exact hE.below
theorem BothD.words (h : BothD w0 R J G f qc n s F F2 f2 N w) : Words f := by
  obtain ⟨M, Q, G2, ml, h1, h2, h3, h4, hE⟩ := h
  exact ((hE.perm (perm_memD M Q R _ _ _)).cell 1 rfl).words
theorem bd_prog (hh : 1 ≤ J.h) (hh2 : J.h ≤ 1000) (hF : FmOk J.h F) (hg : Glo w0) (hn : n < maxLen) (h : BothD w0 R J G f qc n 0 F F2 f2 N w) :
    Calls Tryz.prog 46 #[.pointer (some ⟨J.fb, 0, none⟩), .iface 26 (.pointer (some ⟨J.B.p, 0, none⟩))] w fun o w' => o = .returned (.int .i64 (downM J.h J.key F f).1) ∧ ∃ G', BothD w0 R J G' (downM J.h J.key F f).2.2 (qcD F f qc) (mD F n) (downM J.h J.key F f).1 (downM J.h J.key F f).2.1 F2 f2 N w' := by
  obtain ⟨M, Q, G2, ml, h1, h2, h3, h4, hE⟩ := h
  refine (down_k hh hh2 hF hg hn (h1.1 _ _ _ _ _ _ (hE.perm (perm_progD M Q R _ _ _)))).mono ?_
  rintro o w1 ⟨rfl, G', hR⟩
  obtain ⟨M', hM', hE'⟩ := hR.toM
  exact ⟨rfl, G', M', Q, G2, ml, hM', h2, h3, h4, hE'.perm (perm_progD M' Q R _ _ _).symm⟩
theorem bd_ref (hh : 1 ≤ J.h ∧ J.h ≤ 16) (hF : FmOk J.h F2) (he : 0 ≤ F2.e ∧ F2.e ≤ 9223372036854775807) (hu : ∀ x, InU (f2 x)) (hN : N ≤ 1000000) (h : BothD w0 R J G f qc n s F F2 f2 N w) :
    Calls Tryz.prog 47 #[.pointer (some ⟨J.q, 0, none⟩), .pointer (some ⟨J.u, 0, none⟩), .pointer (some ⟨J.m, 0, none⟩)] w fun o w' => o = .returned (.int .i64 (downM J.h J.key F2 f2).1) ∧ BothD w0 R J G f qc n s F (downM J.h J.key F2 f2).2.1 (downM J.h J.key F2 f2).2.2 (N + 1) w' := by
  obtain ⟨M, Q, G2, ml, h1, h2, h3, h4, hE⟩ := h
  subst h3
  refine (rdown hh rfl hF he hu hN (h2.1 _ _ _ _ _ h4 (hE.perm (perm_refD M Q R _ _ _)))).mono ?_
  rintro o w1 ⟨rfl, hR⟩
  obtain ⟨Q', G', ml', hQ', hf', hl', hE'⟩ := hR.toQ
  exact ⟨rfl, M, Q', G', ml', h1, hQ', hf', hl', hE'.perm (perm_refD M Q' R _ _ _).symm⟩
theorem bd_rolls (h : BothD w0 R J G f qc n s F F2 f2 N w) : Calls Tryz.prog 48 #[.pointer (some ⟨J.B.c, 0, none⟩)] w fun o w' => o = .returned (.int .i64 F.r) ∧ w' = w := by
  obtain ⟨M, Q, G2, ml, h1, h2, h3, h4, hE⟩ := h
  exact rolls_c (hE.mem (List.mem_append_left _ h1.2))
theorem bd_epoch (h : BothD w0 R J G f qc n s F F2 f2 N w) : Calls Tryz.prog 49 #[.pointer (some ⟨J.B.c, 0, none⟩)] w fun o w' => o = .returned (.int .i64 F.e) ∧ w' = w := by
  obtain ⟨M, Q, G2, ml, h1, h2, h3, h4, hE⟩ := h
  exact epoch_c (hE.mem (List.mem_append_left _ h1.2))
theorem bd_ucell (h : BothD w0 R J G f qc n s F F2 f2 N w) : w.cell? ⟨J.u, 5, none⟩ = some (.int .i64 F2.e) ∧ w.cell? ⟨J.u, 9, none⟩ = some (.int .i64 F2.r) := by
  obtain ⟨M, Q, G2, ml, h1, h2, h3, h4, hE⟩ := h
  have hb : Blk 0 w J.u (ruC (U18 J.h) F2.e F2.r) := hE.mem (List.mem_append_right _ (List.mem_append_left _ h2.2))
  exact ⟨hb.rule 5, hb.rule 9⟩
theorem bd_disturb (kd x y z v : Int) (hx : Wf (x, y, z)) (hv : InU v) (hn : n < maxLen) (hN : N ≤ 900000) (h : BothD w0 R J G f qc n s F F2 f N w) :
    Calls Tryz.prog 45 #[.pointer (some ⟨J.B.p, 0, none⟩), .pointer (some ⟨J.m, 0, none⟩), .agg #[.int .i64 kd, .int .i64 x, .int .i64 y, .int .i64 z, .int .u64 v]] w fun o w' => o = .returned (.tuple #[]) ∧ ∃ G' f' n', n' ≤ n + 1 ∧ BothD w0 R J G' f' (dQ kd qc) n' s F F2 f' (N + 1) w' := by
  obtain ⟨M, Q, G2, ml, h1, h2, rfl, h4, hE⟩ := h
  refine (disturb18_t kd x y z v hx hv hn (by omega) (hE.perm (perm_memD M Q R _ _ _))).mono ?_
  rintro o w1 ⟨rfl, G', F', ml', n', hl', hn', hE'⟩
  exact ⟨rfl, G', getL ml', n', hn', M, Q, F', ml', h1, h2, rfl, by omega, hE'.perm (perm_memD M Q R _ _ _).symm⟩
theorem bd_memory (hn : n ≤ 900000) (hN : N ≤ 900000) (h : BothD w0 R J G f qc n s F F2 f N w) :
    Calls Tryz.prog 56 #[.pointer (some ⟨J.B.p, 0, none⟩), .pointer (some ⟨J.m, 0, none⟩)] w fun o w' => o = .returned (.bool true) ∧ BothD w0 R J G f qc n s F F2 f N w' := by
  obtain ⟨M, Q, G2, ml, h1, h2, rfl, h4, hE⟩ := h
  refine (memory18 (by omega) hn (hE.perm (perm_memD M Q R _ _ _))).mono ?_
  rintro o w1 ⟨rfl, hE'⟩
  exact ⟨rfl, M, Q, G2, ml, h1, h2, rfl, h4, hE'.perm (perm_memD M Q R _ _ _).symm⟩
/-- At its end: what both tell. -/
theorem bd_end (hlv : F.lv = 0) (h : BothD w0 R J G f qc n 1 F F2 f2 N w) : ∃ g ps D nx X, (∀ l, l < J.h → ps[l]? = some (.pointer (some ⟨(D l).1, 0, none⟩))) ∧ Env w0 (boxI J.fb (fdC J.B.c J.key nx 1 g J.h 0) :: boxI g ps :: (endL J.B.c J.key F.L D J.h ++ X)) w := by
  obtain ⟨M, Q, G2, ml, h1, h2, h3, h4, hE⟩ := h
  obtain ⟨g, ps, D, nx, hps, hE'⟩ := (h1.1 _ _ _ _ _ _ (hE.perm (perm_progD M Q R _ _ _))).fin hlv
  exact ⟨g, ps, D, nx, _, hps, hE'⟩
theorem bd_q (hon : F2.on = true) (hlv : F2.lv = 0) (hh : J.h ≤ 16) (h : BothD w0 R J G f qc n s F F2 f2 N w) (l : Nat) (hl : l < J.h) :
    w.cell? ⟨J.q, 2 + l * 13, none⟩ = some (.int .i64 (F2.L l).p.1) ∧ w.cell? ⟨J.q, 2 + l * 13 + 1, none⟩ = some (.int .i64 (F2.L l).p.2.1) ∧ w.cell? ⟨J.q, 2 + l * 13 + 2, none⟩ = some (.int .i64 (F2.L l).p.2.2) ∧ w.cell? ⟨J.q, 2 + l * 13 + 7, none⟩ = some (.int .u64 (F2.L l).W) ∧ w.cell? ⟨J.q, 2 + l * 13 + 8, none⟩ = some (.int .u64 (F2.L l).X) ∧ w.cell? ⟨J.q, 2 + l * 13 + 11, none⟩ = some (.int .i64 (F2.L l).C) ∧ w.cell? ⟨J.q, 2 + l * 13 + 12, none⟩ = some (.bool (F2.L l).fd) := by
  obtain ⟨M, Q, G2, ml, h1, h2, h3, h4, hE⟩ := h
  obtain ⟨V, hV, hVl, ml', -, -, G3, hE'⟩ := h2.1 _ _ _ _ _ h4 (hE.perm (perm_refD M Q R _ _ _))
  have h8 := hE'.rule 0 rfl
  rw [blkF_split _ _ V (show l < 16 by omega), (hVl hon).2 l (by omega) hl] at h8
  obtain ⟨d0, d1, d2, -, -, -, -, d7, d8, -, -, d11, d12⟩ := rl_at (preF_length J.key _ hV l) h8
  exact ⟨d0, d1, d2, d7, d8, d11, d12⟩
end
theorem down_e {h : Nat} {key : Int} {F : Fm} {f : Plc → Int} (he : 0 ≤ F.e ∧ F.e ≤ 9223372036854775807) (hu : ∀ x, InU (f x)) : 0 ≤ (downM h key F f).2.1.e ∧ (downM h key F f).2.1.e ≤ 9223372036854775807 := by
  by_cases hon : F.on = true
  · rw [((down_er h key F f).1 hon).1]; exact he
  · rw [((down_er h key F f).2 (by simpa using hon)).1]; exact epI_in (hu _)
end Go.Proofs.YtnnjanaclgjneaaGreatDoor
