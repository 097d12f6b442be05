/- SeekNil: of nothing there is nothing, and no access: so the law answers true, for every reference, level and key, where package link's three variables hold what the program's text lays in them (tied). -/
import Derived.Test.YtchcdfoncebemaaDoorE6
import Derived.LoopIn
import Derived.Test.YtchcdfoncebemaaDoorTie
import Derived.LaidMore
import Derived.Stop.Joined
import Derived.Test.YtchcdfoncebemaaDoorCards
import Derived.SevenTiedAt

/- The reference's places, in their order: the walk. -/
namespace Go.Proofs.YtchcdfoncebemaaDoor
open Go.RowKit Go.Maps Go.Sort
set_option maxRecDepth 100000

def okM (l : List OneR) (k : Nat) (m : List Plc) : Prop := Rising m ∧ m.length ≤ k ∧ ∀ x, x ∈ m ↔ ∃ v, (x, v) ∈ l.take k ∧ v ≠ 0
theorem okM.skip {l : List OneR} {k : Nat} {m : List Plc} (h : okM l k m) (hk : k < l.length) (h0 : (l.getD k dO).2 = 0) : okM l (k + 1) m := by
  refine ⟨h.1, by have := h.2.1; omega, fun x => ?_⟩
  rw [h.2.2 x, List.take_succ_eq_append_getElem hk]
  have e : l[k].2 = 0 := by simpa [hk] using h0
  constructor
  · rintro ⟨v, hv, hne⟩; exact ⟨v, List.mem_append.2 (.inl hv), hne⟩
  · rintro ⟨v, hv, hne⟩
    rcases List.mem_append.1 hv with hv | hv
    · exact ⟨v, hv, hne⟩
    · rw [← List.mem_singleton.1 hv] at e; exact absurd e hne
theorem okM.new {l : List OneR} {k : Nat} {m : List Plc} (h : okM l k m) (hnd : (l.map (·.1)).Nodup) (hk : k < l.length) : (l.getD k dO).1 ∉ m := by
  intro hx
  obtain ⟨v, hv, _⟩ := (h.2.2 _).1 hx
  obtain ⟨i, hi, he⟩ := List.getElem_of_mem hv
  have hi' : i < k := by simp at hi; omega
  have e1 : l[i].1 = l[k].1 := by
    have : (l.take k)[i] = l[i] := List.getElem_take
    rw [this] at he
    have e2 : l.getD k dO = l[k] := by simp [hk]
    rw [he, ← e2]
  have := (List.pairwise_iff_getElem.1 hnd) i k (by simp; omega) (by simpa using hk) hi'
  simp at this
  exact this e1
theorem okM.put {l : List OneR} {k j : Nat} {m : List Plc} (h : okM l k m) (hk : k < l.length) (h0 : (l.getD k dO).2 ≠ 0) (hj : j ≤ m.length) (hr : Rising (insAt m j (l.getD k dO).1)) : okM l (k + 1) (insAt m j (l.getD k dO).1) := by
  refine ⟨hr, by have := h.2.1; rw [insAt_length m j hj]; omega, fun x => ?_⟩
  have e2 : l.getD k dO = l[k] := by simp [hk]
  rw [mem_insAt, h.2.2 x, List.take_succ_eq_append_getElem hk, e2]
  rw [e2] at h0
  constructor
  · rintro (rfl | ⟨v, hv, hne⟩)
    · exact ⟨l[k].2, List.mem_append.2 (.inr (List.mem_singleton.2 rfl)), h0⟩
    · exact ⟨v, List.mem_append.2 (.inl hv), hne⟩
  · rintro ⟨v, hv, hne⟩
    rcases List.mem_append.1 hv with hv | hv
    · exact .inr ⟨v, hv, hne⟩
    · exact .inl (by rw [← List.mem_singleton.1 hv])

set_option maxRecDepth 100000 in
set_option maxHeartbeats 6400000 in
theorem refPlaces_any {u : Nat} {F : Nat → Prop} {l : List OneR} {w : World} (hl : l.length ≤ 1000000) (hnd : (l.map (·.1)).Nodup) (hU : IsU w u F l) :
    Calls Tryd.prog 34 #[.pointer (some ⟨u, 0, none⟩)] w fun e w' => ∃ m v, e = .returned v ∧ PlacesOf (getL l) m ∧ m.length ≤ l.length ∧ w'.ownsRow w.heap.size 23 3 v m.length (flatP m) ∧ Below w.heap.size w w' := by
  obtain ⟨A, cap, hblk, hown, hsep, hF⟩ := hU.full
  have hrow := ownsRow_words hown
  have hul := hblk.1
  obtain ⟨i0, hi, hz0, hz1, hz2⟩ := info_parts infoPlace
  have HROW := Lib.hid hrow
  have HB : Hid (∀ w', Below w.heap.size w w' → ∀ i, w'.cell? ⟨u, i, none⟩ = [Value.slice A l.length cap][i]?) := Lib.hid fun w' hb i => by rw [hb.cell (p := ⟨u, i, none⟩) hul]; exact hblk.rule i
  clear hrow hblk hown hsep hF
  have hown0 : (w.alloc (.cells #[] 23)).ownsRow w.heap.size 23 3 (.slice (some ⟨w.heap.size, 0, none⟩) 0 0) 0 [] := ⟨rfl, .inr ⟨w.heap.size, 0, #[], rfl, Nat.le_refl _, heap_alloc_new w _, Nat.le_refl _, Nat.zero_le _, rfl, rfl⟩⟩
  have hB0 : Below w.heap.size w (w.alloc (.cells #[] 23)) := (Below.refl _ w).alloc (Nat.le_refl _) _
  go_enter Tryd.func34, Tryd.ntmps34
  go_wp2_with fail
  go_loopw [3, 4] (fun v i wr => ∃ (k : Nat) (m : List Plc), k ≤ l.length ∧ i = .int .i64 k ∧ okM l k m ∧ wr.ownsRow w.heap.size 23 3 v m.length (flatP m) ∧ Below w.heap.size w wr) (fun _ i _ => l.length - (intOf i).toNat)
  case atStart => exact ⟨0, [], by omega, rfl, ⟨List.Pairwise.nil, by simp, by simp⟩, hown0, hB0⟩
  case round =>
    obtain ⟨k, m, hk, rfl, hm, hrw, hBr⟩ := hrel
    have ru := HB.out _ hBr
    clear hown0 hB0
    by_cases hlt : k < l.length
    · rcases HROW.out with h0 | ⟨g, rfl, hgl, hc⟩
      · rw [h0] at hlt; simp at hlt
      obtain ⟨c0, c1, c2, c3⟩ := hc k hlt
      clear hc
      generalize ho : l.getD k dO = o at c0 c1 c2 c3
      obtain ⟨⟨x, y, z⟩, v0⟩ := o
      simp only at c0 c1 c2 c3
      have HC : Hid (∀ w', Below w.heap.size w w' → (w'.cell? ⟨g, k * 4, none⟩ = some (.int .i64 x) ∧ w'.cell? ⟨g, k * 4 + 1, none⟩ = some (.int .i64 y) ∧ w'.cell? ⟨g, k * 4 + 2, none⟩ = some (.int .i64 z) ∧ w'.cell? ⟨g, k * 4 + 3, none⟩ = some (.int .u64 v0))) := Lib.hid fun w' hb => by
        refine ⟨?_, ?_, ?_, ?_⟩
        · rw [hb.cell (p := ⟨g, k * 4, none⟩) hgl]; exact c0
        · rw [hb.cell (p := ⟨g, k * 4 + 1, none⟩) hgl]; exact c1
        · rw [hb.cell (p := ⟨g, k * 4 + 2, none⟩) hgl]; exact c2
        · rw [hb.cell (p := ⟨g, k * 4 + 3, none⟩) hgl]; exact c3
      have HO := Lib.hid ho
      clear c0 c1 c2 c3 ho
      obtain ⟨c0, c1, c2, c3⟩ := HC.out _ hBr
      by_cases hv0 : v0 = 0
      · subst hv0
        go_wp2_with fail
        exact ⟨⟨k + 1, m, by omega, rfl, hm.skip hlt (by rw [HO.out]), hrw, hBr⟩, by simp [intOf]; omega⟩
      · have hml : m.length ≤ k := hm.2.1
        obtain ⟨A3, cap3, rfl⟩ := ownsRow_slice hrw
        obtain ⟨v', w2, hrun, hown2, hgrow, hv'⟩ := run_append_rows (P := Tryd.prog) 85 85 w.heap.size 23 i0 (.agg #[.int .i64 0, .int .i64 0, .int .i64 0]) 3 24 Tryd.underlying85 hi hz0 hz1 hz2 rfl (by decide) _ _ _ _ (hrw.alloc (.cells #[.int .i64 x, .int .i64 y, .int .i64 z] 23)) (some ⟨wr.heap.size, 0, none⟩) 1 1 [.int .i64 x, .int .i64 y, .int .i64 z] rfl
          (.inr ⟨_, rfl, cells_new _ _ _⟩) (by simp [Value.oneCell']) (by simp [maxLen]; omega) (by omega) (by have := hBr.size; simp; omega)
        obtain ⟨b, cap', rfl, hwb, hbl⟩ := hown2.form (by omega)
        have hB2 : Below w.heap.size w w2 := by
          have h1 := hBr.alloc hBr.size (.cells #[.int .i64 x, .int .i64 y, .int .i64 z] 23)
          exact Turn.below h1 (T := fun k => (Value.slice A3 m.length cap3).ownBlock = some k) ⟨hgrow.os, hgrow.tape, hgrow.output, hgrow.size, fun k hk hn => hgrow.block k hk (fun e => hn e.symm)⟩ h1.size fun k hk => (hrw.lt k hk).1
        go_wp2_with (first | (at_builtin; refine wpList_append_run rfl _ _ 85 rfl hrun rfl rfl ?_))
        have hown3 : w2.ownsRow w.heap.size 23 3 (.slice (some ⟨b, 0, none⟩) (m.length + 1) cap') (m.length + 1) (flatP (insAt m m.length (x, y, z))) := by
          have e : flatP (insAt m m.length (x, y, z)) = flatP m ++ [.int .i64 x, .int .i64 y, .int .i64 z] := by unfold insAt; simp [flatP, encP]
          rw [e]; exact hown2
        clear hrun hown2 hgrow hv' hrw c0 c1 c2 c3 ru
        have HM := Lib.hid hm
        clear hm
        go_loopw [5] (fun kk wq => ∃ j : Nat, j ≤ m.length ∧ kk = .int .i64 j ∧ (∀ t ∈ m.drop j, ltOf cmpP (x, y, z) t = true) ∧ wq.ownsRow w.heap.size 23 3 (.slice (some ⟨b, 0, none⟩) (m.length + 1) cap') (m.length + 1) (flatP (insAt m j (x, y, z))) ∧ Below w.heap.size w wq) (fun kk _ => (intOf kk).toNat)
        case atStart => exact ⟨m.length, Nat.le_refl _, by simp, by simp, hown3, hB2⟩
        case round =>
          obtain ⟨j, hj, rfl, hd, ho3, hBq⟩ := hrel
          clear hown3 hB2
          have HC8 : Hid (∀ w6 w7 : World, (w6.ownsRow w.heap.size 23 3 (.slice (some ⟨b, 0, none⟩) (m.length + 1) cap') (m.length + 1) (flatP (insAt m j (x, y, z))) ∧ Below w.heap.size w w6) → Below w6.heap.size w6 w7 → (w7.ownsRow w.heap.size 23 3 (.slice (some ⟨b, 0, none⟩) (m.length + 1) cap') (m.length + 1) (flatP (insAt m j (x, y, z))) ∧ Below w.heap.size w w7)) := Lib.hid fun w6 w7 h hb => ⟨ownsRow_kept h.1 fun k e => hb.block k (h.1.lt k e).2, h.2.trans (hb.mono h.2.size)⟩
          rcases j with _ | j
          · go_wp2_with fail
            refine Ord.wp_chain [] (fun w' => w'.ownsRow w.heap.size 23 3 (.slice (some ⟨b, 0, none⟩) (m.length + 1) cap') (m.length + 1) (flatP (insAt m 0 (x, y, z))) ∧ Below w.heap.size w w') (fun _ _ => True) (by kernel_rfl) (by kernel_rfl) (by kernel_rfl) (And.intro ho3.drew hBq.drew) trivial (fun hT => ?_)
            have hT9 := Lib.hid hT
            clear hT
            repeat (first
              | (refine Ord.ch_value (v := ?_) hT9.out (by decide) (by rfl) ?_ ?_; rotate_left; (focus (intro w5 hS; skip; go_simp <;> with_reducible rfl)); (try simp only [Act.put, List.setIfInBounds_toArray, List.set_cons_zero, List.set_cons_succ]))
              | (refine Ord.ch_off hT9.out (by decide) (by rfl) ?_; (try simp only [Act.put, List.setIfInBounds_toArray, List.set_cons_zero, List.set_cons_succ]))
              | (refine Ord.ch_call (v := ?_) (f := ?_) (args := ?_) hT9.out (by decide) (by rfl) ?_ ?_ ?_; rotate_left 3; (focus (intro w5 hS; skip; go_simp; constructor <;> with_reducible rfl)); (focus (intro w5 hS; (first | fail))); (try simp only [Act.put, List.setIfInBounds_toArray, List.set_cons_zero, List.set_cons_succ])))
            refine Ord.InText.nil fun w5 hS => ?_
            clear hT9
            obtain ⟨hC, hA⟩ := Ord.chain_end hS
            clear hS
            clear hA
            go_wp2_with fail
            have hins := HM.out.put hlt (by rw [HO.out]; exact hv0) hj (by rw [HO.out]; exact rising_insAt HM.out.1 hj (by have := HM.out.new hnd hlt; rwa [HO.out] at this) hd (.inl rfl))
            rw [HO.out] at hins
            exact ⟨⟨k + 1, _, by omega, by simp, hins, by rw [insAt_length m _ hj]; exact hC.1, hC.2⟩, by simp [intOf]; omega⟩
          · have HCELL : Hid (∀ w' : World, w'.ownsRow w.heap.size 23 3 (.slice (some ⟨b, 0, none⟩) (m.length + 1) cap') (m.length + 1) (flatP (insAt m (j + 1) (x, y, z))) →
                (w'.cell? ⟨b, (j + 1) * 3, none⟩ = some (.int .i64 x) ∧ w'.cell? ⟨b, (j + 1) * 3 + 1, none⟩ = some (.int .i64 y) ∧ w'.cell? ⟨b, (j + 1) * 3 + 2, none⟩ = some (.int .i64 z) ∧
                 w'.cell? ⟨b, j * 3, none⟩ = some (.int .i64 (m.getD j z3).1) ∧ w'.cell? ⟨b, j * 3 + 1, none⟩ = some (.int .i64 (m.getD j z3).2.1) ∧ w'.cell? ⟨b, j * 3 + 2, none⟩ = some (.int .i64 (m.getD j z3).2.2))) := Lib.hid fun w' h => by
              have hlen := insAt_length m (j + 1) hj (x, y, z)
              have e1 : ∀ c, c < 3 → w'.cell? ⟨b, (j + 1) * 3 + c, none⟩ = (encP (x, y, z))[c]? := fun c hc => by
                rw [h.cellAt ((j + 1) * 3 + c) (by omega), flatP_get _ _ _ (by omega) hc, insAt_get_self m (j + 1) hj]
              have e2 : ∀ c, c < 3 → w'.cell? ⟨b, j * 3 + c, none⟩ = (encP (m.getD j z3))[c]? := fun c hc => by
                rw [h.cellAt (j * 3 + c) (by omega), flatP_get _ _ _ (by omega) hc, insAt_get_prev m j (by omega)]
              exact ⟨e1 0 (by omega), e1 1 (by omega), e1 2 (by omega), e2 0 (by omega), e2 1 (by omega), e2 2 (by omega)⟩
            obtain ⟨t, ht⟩ : ∃ t, m.getD j z3 = t := ⟨_, rfl⟩
            rw [ht] at HCELL
            obtain ⟨p, q, s⟩ := t
            simp only at HCELL
            have HT := Lib.hid ht
            clear ht
            have q1 : j < m.length := by omega
            have q2 : (0 : Int) ≤ (j : Int) + 1 := by omega
            have q3 : j < m.length + 1 := by omega
            have q4 : j ≤ m.length := by omega
            have q7 : IntKind.i64.wrap (j : Int) = (j : Int) := by rw [IntKind.wrap_i64]; omega
            have q5 : (j : Int) ≤ (m.length : Int) := by omega
            have q6 : (j : Int) < (m.length : Int) + 1 := by omega
            go_wp2_with fail
            refine Ord.wp_chain [] (fun w' => w'.ownsRow w.heap.size 23 3 (.slice (some ⟨b, 0, none⟩) (m.length + 1) cap') (m.length + 1) (flatP (insAt m (j + 1) (x, y, z))) ∧ Below w.heap.size w w') (fun _ _ => True) (by kernel_rfl) (by kernel_rfl) (by kernel_rfl) (And.intro ho3.drew hBq.drew) trivial (fun hT => ?_)
            have hT9 := Lib.hid hT
            clear hT
            repeat (first
              | (refine Ord.ch_value (v := ?_) hT9.out (by decide) (by rfl) ?_ ?_; rotate_left; (focus (intro w5 hS; obtain ⟨c0, c1, c2, c3, c4, c5⟩ := HCELL.out _ hS.1; go_simp <;> with_reducible rfl)); (try simp only [Act.put, List.setIfInBounds_toArray, List.set_cons_zero, List.set_cons_succ]))
              | (refine Ord.ch_off hT9.out (by decide) (by rfl) ?_; (try simp only [Act.put, List.setIfInBounds_toArray, List.set_cons_zero, List.set_cons_succ]))
              | (refine Ord.ch_call (v := ?_) (f := ?_) (args := ?_) hT9.out (by decide) (by rfl) ?_ ?_ ?_; rotate_left 3; (focus (intro w5 hS; obtain ⟨c0, c1, c2, c3, c4, c5⟩ := HCELL.out _ hS.1; go_simp; constructor <;> with_reducible rfl)); (focus (intro w5 hS; (first | (with_reducible refine (less_any _ _ _ _ _ _ _).mono ?_; rintro e w6 ⟨rfl, hb5⟩; constructor; with_reducible rfl; exact ⟨HC8.out _ _ hS hb5, fun _ h => h⟩)))); (try simp only [Act.put, List.setIfInBounds_toArray, List.set_cons_zero, List.set_cons_succ])))
            refine Ord.InText.nil fun w5 hS => ?_
            clear hT9
            obtain ⟨hC, hA⟩ := Ord.chain_end hS
            clear hS
            clear hA
            obtain ⟨c0, c1, c2, c3, c4, c5⟩ := HCELL.out _ hC.1
            by_cases hL : ltOf cmpP (x, y, z) (p, q, s) = true
            · rw [hL]
              have hb5 : b < w5.heap.size := (hC.1.lt b rfl).2
              have hnb : ¬ w5.heap.size = b := by omega
              have hnb' : ¬ b = w5.heap.size := by omega
              have rA : ∀ ob i, (w5.alloc ob).cell? ⟨b, i, none⟩ = w5.cell? ⟨b, i, none⟩ := fun ob i => World.cell?_of_block (Below.heap_alloc _ _ _ hb5)
              have zA : ∀ ob i, (w5.alloc ob).frozen? ⟨b, i, none⟩ = false := fun ob i => (World.frozen?_of_block (Below.heap_alloc _ _ _ hb5)).trans (hC.1.frozenAt i)
              have zW : ∀ i, w5.frozen? ⟨b, i, none⟩ = false := fun i => hC.1.frozenAt i
              go_wp2_with fail
              have hx := insAt_exch m j q1 (x, y, z)
              rw [HT.out] at hx
              simp only at hx
              have hp3 : (j + 1) * 3 = j * 3 + 3 := by omega
              refine ⟨⟨j, by omega, rfl, fun t ht => ?_, ?_, ?_⟩, by simp [intOf]⟩
              · rw [List.drop_eq_getElem_cons q1] at ht
                rcases List.mem_cons.1 ht with rfl | ht
                · have : m[j] = (p, q, s) := by rw [← HT.out]; simp [q1]
                  rw [this]; exact hL
                · exact hd t ht
              · rw [← hx, hp3]
                exact ((((((((hC.1.stored _ _).1).stored _ _).1).stored _ _).1.stored _ _).1.stored _ _).1.stored _ _).1.alloc _
              · exact Turn.below hC.2 (((((((Turn.refl (fun k => k = b) w5).setCell (p := ⟨b, _, none⟩) (fun _ => rfl) _).setCell (p := ⟨b, _, none⟩) (fun _ => rfl) _).setCell (p := ⟨b, _, none⟩) (fun _ => rfl) _).setCell (p := ⟨b, _, none⟩) (fun _ => rfl) _).setCell (p := ⟨b, _, none⟩) (fun _ => rfl) _).setCell (p := ⟨b, _, none⟩) (fun _ => rfl) _ |>.alloc _) hC.2.size fun k hk => by subst hk; exact hwb
            · have hL' : ltOf cmpP (x, y, z) (p, q, s) = false := by simpa using hL
              rw [hL']
              go_wp2_with fail
              have hins := HM.out.put hlt (by rw [HO.out]; exact hv0) hj (by rw [HO.out]; exact rising_insAt HM.out.1 hj (by have := HM.out.new hnd hlt; rwa [HO.out] at this) hd (.inr (by rw [Nat.add_sub_cancel, HT.out]; exact hL')))
              rw [HO.out] at hins
              exact ⟨⟨k + 1, _, by omega, by simp, hins, by rw [insAt_length m _ hj]; exact hC.1, hC.2⟩, by simp [intOf]; omega⟩
    · go_wp2_with fail
      have : k = l.length := by omega
      subst this
      go_ret
      exact ⟨m, _, rfl, ⟨hm.1, fun x => by rw [hm.2.2 x, getL_ne hnd x]; simp⟩, hm.2.1, hrw, hBr⟩
end Go.Proofs.YtchcdfoncebemaaDoor

/- Rows of the call's own, of structs of k cells each: appended to, read. General. -/
namespace Go.Proofs.YtchcdfoncebemaaDoor
open Go.RowKit Go.Maps
set_option maxRecDepth 100000

section
variable {α : Type} {enc : α → List Value} {k : Nat}
def flatK (enc : α → List Value) (l : List α) : List Value := l.flatMap enc
theorem flatK_length (hk : ∀ x, (enc x).length = k) (l : List α) : (flatK enc l).length = l.length * k := by
  induction l with
  | nil => simp [flatK]
  | cons x l ih =>
    have e : flatK enc (x :: l) = enc x ++ flatK enc l := by simp [flatK]
    rw [e, List.length_append, ih, hk, List.length_cons, Nat.add_mul]
    omega
theorem flatK_append (a b : List α) : flatK enc (a ++ b) = flatK enc a ++ flatK enc b := by simp [flatK]
theorem flatK_get [Inhabited α] (hk : ∀ x, (enc x).length = k) : ∀ (l : List α) (j c : Nat), j < l.length → c < k → (flatK enc l)[j * k + c]? = (enc (l.getD j default))[c]? := by
  intro l
  induction l with
  | nil => intro j c h; simp at h
  | cons x l ih =>
    intro j c hj hc
    have e : flatK enc (x :: l) = enc x ++ flatK enc l := by simp [flatK]
    cases j with
    | zero => rw [e, List.getElem?_append_left (by rw [hk]; omega)]; simp
    | succ j =>
      have e3 : (j + 1) * k = j * k + k := by rw [Nat.add_mul, Nat.one_mul]
      rw [e, List.getElem?_append_right (by rw [hk]; omega)]
      have := ih j c (by simpa using hj) hc
      have e2 : (j + 1) * k + c - (enc x).length = j * k + c := by rw [hk]; omega
      rw [e2, this]
      simp
theorem RowX.news [Inhabited α] (hk : ∀ x, (enc x).length = k) (hk0 : 0 < k) {w : World} {ad : Addr} {xs : List α} (h : RowX enc k w (some ad) xs) : ∀ j u, (flatK enc xs)[j]? = some u → w.cell? (ad.add j) = some u := by
  intro j u hu
  rcases h with rfl | ⟨b, off, he, hl, hc⟩
  · simp [flatK] at hu
  · cases he
    have hj : j < xs.length * k := by rw [← flatK_length hk]; exact (List.getElem?_eq_some_iff.1 hu).1
    have e : (⟨b, off, none⟩ : Addr).add j = ⟨b, off + j, none⟩ := by unfold Addr.add; split <;> simp_all
    have e2 : j / k * k + j % k = j := by rw [Nat.mul_comm]; exact Nat.div_add_mod j k
    have hlt : j / k < xs.length := (Nat.div_lt_iff_lt_mul hk0).2 hj
    have h1 := hc (j / k) hlt (j % k) u (by rw [← flatK_get hk xs (j / k) (j % k) hlt (Nat.mod_lt _ hk0), e2, hu])
    rw [e]
    rwa [Nat.add_assoc, e2] at h1
theorem Blk.rowK [Inhabited α] (hk : ∀ x, (enc x).length = k) {w : World} {g : Nat} {l : List α} (h : Blk 0 w g (flatK enc l)) : RowX enc k w (some ⟨g, 0, none⟩) l := by
  refine .inr ⟨g, 0, rfl, h.1, fun i hi j v e => ?_⟩
  have hj : j < k := by have := (List.getElem?_eq_some_iff.1 e).1; rw [hk] at this; exact this
  rw [Nat.zero_add, h.rule, flatK_get hk l i j hi hj]
  exact e
theorem owns_rowK [Inhabited α] (hk : ∀ x, (enc x).length = k) {w : World} {b : Nat} {e : TypeId} {A : Option Addr} {cap : Nat} {l : List α} (h : w.ownsRow b e k (.slice A l.length cap) l.length (flatK enc l)) : RowX enc k w A l := by
  rcases h.2 with ⟨_, h0⟩ | ⟨g, cap', cur, hv, _, hg, hn, hc, hcs, htk⟩
  · exact .inl (List.eq_nil_of_length_eq_zero h0)
  · simp only [Value.slice.injEq] at hv
    obtain ⟨rfl, -, rfl⟩ := hv
    refine .inr ⟨g, 0, rfl, (Array.getElem?_eq_some_iff.1 hg).1, fun i hi j v e => ?_⟩
    have hj : j < k := by have := (List.getElem?_eq_some_iff.1 e).1; rw [hk] at this; exact this
    have h1 := flatK_get hk l i j hi hj
    have hlt : i * k + j < l.length * k := by
      have : (i + 1) * k ≤ l.length * k := Nat.mul_le_mul_right k hi
      rw [Nat.add_mul] at this
      omega
    rw [e, ← htk, List.getElem?_take_of_lt hlt] at h1
    rw [Nat.zero_add]
    simp only [World.cell?, hg]
    simpa using h1
/-- A row of its own, appended to. -/
def rowKI (enc : α → List Value) (k : Nat) (v : Value) (e : TypeId) (l : List α) : Item := rowI v e k l.length (flatK enc l)
variable {w0 w w' : World} {L : List Item}
theorem Env.rowK (h : Env w0 L w) (i : Nat) {v : Value} {e : TypeId} {l : List α} (hi : L[i]? = some (rowKI enc k v e l)) : w.ownsRow 0 e k v l.length (flatK enc l) := h.get i hi
theorem Env.cellsK [Inhabited α] (hk : ∀ x, (enc x).length = k) (h : Env w0 L w) (i : Nat) {A : Option Addr} {n cap : Nat} {e : TypeId} {l : List α} (hn : n = l.length) (hi : L[i]? = some (rowKI enc k (.slice A n cap) e l)) : RowX enc k w A l := by subst hn; exact owns_rowK hk (h.rowK i hi)
theorem Env.addEmptyK (h : Env w0 L w) (n : Nat) (hn : w.heap.size = n) (e : TypeId) : Env w0 (rowKI enc k (.slice (some ⟨n, 0, none⟩) 0 0) e [] :: L) (w.alloc (.cells #[] e)) := by
  subst hn
  have ho : (w.alloc (.cells #[] e)).ownsRow w.heap.size e k (.slice (some ⟨w.heap.size, 0, none⟩) 0 0) 0 (flatK enc []) := ⟨by simp [flatK], .inr ⟨w.heap.size, 0, #[], rfl, Nat.le_refl _, heap_alloc_new w _, Nat.le_refl _, by simp, by simp, by simp [flatK]⟩⟩
  exact h.add (rowKI enc k (.slice (some ⟨w.heap.size, 0, none⟩) 0 0) e []) ((Below.refl _ _).alloc (Nat.le_refl _) _) (ownsRow_base ho (Nat.zero_le _)) fun k hk => ho.lt k hk
/-- A row appended to a row of its own. -/
theorem Env.appendK [Inhabited α] (hk : ∀ x, (enc x).length = k) (hk0 : 0 < k) (hone : ∀ x, ∀ u ∈ enc x, u.oneCell' = true) {P : Program} (h : Env w0 L w) (i : Nat) {v : Value} {e : TypeId} {l xs : List α} (hi : L[i]? = some (rowKI enc k v e l)) (t ty : TypeId) (ht : P.underlying t = some (.slice e))
    {zz : Value} {bytes : Nat} (hzz0 : zz.cells.size = k) (hinfo : (P.info? e).map (fun i => (i.zero, i.size, i.bytes)) = some (some zz, k, bytes))
    {A : Option Addr} (c : Nat) (hx : RowX enc k w A xs) (hA : A = none → xs = []) (hz : l.length + xs.length ≤ maxLen) (hby : (l.length + xs.length) * bytes ≤ 140737488355328) :
    ∃ A' c' w', (Builtin.append_ #[t, t] ty #[v, .slice A xs.length c]).run P w = .ok (.slice A' (l.length + xs.length) c') w' ∧ Env w0 (L.set i (rowKI enc k (.slice A' (l.length + xs.length) c') e (l ++ xs))) w' := by
  obtain ⟨i0, hi0, hzz⟩ := Option.map_eq_some_iff.1 hinfo
  simp only [Prod.mk.injEq] at hzz
  obtain ⟨hz0, hs, hb⟩ := hzz
  have hown := h.rowK i hi
  obtain ⟨v', w', hrun, ho, hg, hv⟩ := run_append_rows (P := P) t ty 0 e i0 zz k bytes ht hi0 hz0 hs hb hzz0 hk0 w v l.length (flatK enc l) hown A xs.length c (flatK enc xs) (flatK_length hk xs)
    (by
      cases A with
      | none =>
        left
        have := hA rfl
        subst this
        exact ⟨rfl, rfl⟩
      | some ad => exact .inr ⟨ad, rfl, RowX.news hk hk0 hx⟩) (fun u hu => by
        obtain ⟨x, _, hx2⟩ := List.mem_flatMap.1 hu
        exact hone x u hx2) hz hby (Nat.zero_le _)
  obtain ⟨A', c', rfl⟩ := ownsRow_slice ho
  have hst : Step (fun k => v.ownBlock = some k) (fun k => (Value.slice A' (l.length + xs.length) c').ownBlock = some k) w w' := ⟨(Turn.refl _ w).grown hg fun k _ e => e, fun k hk => by
    rcases hv with e | e
    · exact .inl (by rw [← e]; exact hk)
    · right
      rw [e] at hk
      cases hk
      exact Nat.le_refl _⟩
  refine ⟨A', c', w', hrun, h.step i (rowKI enc k _ e (l ++ xs)) hi hst ?_ ?_⟩
  · show w'.ownsRow 0 e k _ (l ++ xs).length (flatK enc (l ++ xs))
    rw [List.length_append, flatK_append]
    exact ho
  · exact ownsRow_lt ho
end
end Go.Proofs.YtchcdfoncebemaaDoor

/- The structure of the statements' lists; a program's memory with the words of the reference's. -/
namespace Go.Proofs.YtchcdfoncebemaaDoor
open Go.RowKit Go.Maps
set_option maxRecDepth 100000

theorem conf15 (w : World) : Calls Tryd.prog 21 #[] w fun o w' => o = .returned (.agg #[.int .i64 2, .int .i64 1000, .int .i64 3, .int .i64 1, .int .i64 1073741824]) ∧ Below w.heap.size w w' := by
  go_enter Tryd.func21, Tryd.ntmps21
  go_wp2
  exact bodyPost_ret (v := .agg #[.int .i64 2, .int .i64 1000, .int .i64 3, .int .i64 1, .int .i64 1073741824]) (by simp [results, Tryd.results21, go_sem]) rfl ⟨rfl, (Below.refl _ _).alloc (Nat.le_refl _) _⟩

/-- A row of places, as a thing. -/
theorem Env.addPl {w0 w w' : World} {L : List Item} {v : Value} {l : List Plc} (h : Env w0 L w) (ho : w'.ownsRow w.heap.size 23 3 v l.length (flatP l)) (hb : Below w.heap.size w w') : Env w0 (rowKI encP 3 v 23 l :: L) w' :=
  h.add (rowKI encP 3 v 23 l) hb (ownsRow_base ho (Nat.zero_le _)) fun k hk => ho.lt k hk
theorem encP_len (x : Plc) : (encP x).length = 3 := rfl
/-- What is laid so far. -/
def laidF (f : Plc → Int) (l : List Plc) : Plc → Int := fun x => if x ∈ l then f x else 0
theorem laidF_nil (f : Plc → Int) : laidF f [] = fun _ => 0 := by funext x; simp [laidF]
theorem laidF_step {f : Plc → Int} {l : List Plc} {j : Nat} (hj : j < l.length) {x : Plc} (hx : l.getD j z3 = x) : laidF f (l.take (j + 1)) = upd (laidF f (l.take j)) x (f x) := by
  have e : l.take (j + 1) = l.take j ++ [x] := by
    rw [List.take_succ_eq_append_getElem hj, ← hx]
    simp [hj]
  funext y
  rw [e]
  unfold laidF upd
  by_cases hy : y = x
  · subst hy; simp
  · simp [hy]
theorem laidF_all {f : Plc → Int} {l : List Plc} (h : PlacesOf f l) : laidF f l = f := by
  funext y
  unfold laidF
  by_cases hy : y ∈ l
  · rw [if_pos hy]
  · rw [if_neg hy]
    exact (Classical.byContradiction fun h0 => hy ((h.2 y).2 (fun e => h0 e.symm)))

section
variable {w0 w : World} {R : List Item} {m : Nat} {FU : Nat → Prop} {ml : List OneR}
set_option maxHeartbeats 6400000 in
theorem laid_t (hml : ml.length ≤ 10000) (hW : Words (getL ml)) (hE : Env w0 (refI m FU ml :: R) w) :
    Calls Tryd.prog 19 #[.pointer (some ⟨m, 0, none⟩)] w fun o w' => ∃ (p cc n : Nat) (G : Nat → Prop), o = .returned (.pointer (some ⟨p, 0, none⟩)) ∧ n ≤ ml.length ∧ Env w0 (wbox p cc :: cellI cc G (getL ml) ⟨0, (n : Int), 0, 0, 0⟩ n :: refI m FU ml :: R) w' := by
  have HW := Lib.hid hW
  have HML := Lib.hid hml
  clear hW hml
  go_enter Tryd.func19, Tryd.ntmps19
  go_wp2_with fail
  refine (new_w hE).mono ?_
  rintro o w1 ⟨p, cc, rfl, hE1, -⟩
  clear hE
  go_wp2_with fail
  refine (refPlaces_any (by have := HML.out; omega) (hE1.ref 2 rfl).nodup (hE1.ref 2 rfl)).mono ?_
  rintro o w2 ⟨pl, v2, rfl, hpl, hpn, ho, hb⟩
  obtain ⟨A, cap, rfl⟩ := ownsRow_slice ho
  have hE2 := hE1.addPl ho hb
  have HPL := Lib.hid hpl
  have hpl1 : pl.length ≤ 10000 := by have := HML.out; omega
  have HPN := Lib.hid hpn
  clear hb ho hE1 hpl hpn
  rw [← laidF_nil (getL ml)] at hE2
  go_wp2_with fail
  go_loopw [5] (fun iv wr => ∃ (j : Nat) (G : Nat → Prop), j ≤ pl.length ∧ iv = .int .i64 j ∧ Env w0 (rowKI encP 3 (.slice A pl.length cap) 23 pl :: wbox p cc :: cellI cc G (laidF (getL ml) (pl.take j)) ⟨0, (j : Int), 0, 0, 0⟩ j :: refI m FU ml :: R) wr) (fun iv _ => pl.length - (intOf iv).toNat)
  case atStart => exact ⟨0, _, Nat.zero_le _, rfl, hE2⟩
  case round =>
    clear hE2
    obtain ⟨j, G, hj, rfl, hE⟩ := hrel
    by_cases hlt : j < pl.length
    · have hb1 : decide ((j : Int) < (pl.length : Int)) = true := by simp; omega
      have hlt1 : (j : Int) < (pl.length : Int) := by omega
      obtain ⟨⟨x, y, z⟩, hx⟩ : ∃ x, pl.getD j z3 = x := ⟨_, rfl⟩
      obtain ⟨g, off, rfl⟩ : ∃ g off, A = some ⟨g, off, none⟩ := by
        rcases hE.cellsK encP_len 0 rfl rfl with h0 | ⟨g, off, h, -⟩
        · rw [h0] at hlt; simp at hlt
        · exact ⟨g, off, h⟩
      have HC : Hid (∀ G f q n v, Env w0 (rowKI encP 3 (.slice (some ⟨g, off, none⟩) pl.length cap) 23 pl :: wbox p cc :: cellI cc G f q n :: refI m FU ml :: R) v → v.cell? ⟨g, off + j * 3, none⟩ = some (.int .i64 x) ∧ v.cell? ⟨g, off + j * 3 + 1, none⟩ = some (.int .i64 y) ∧ v.cell? ⟨g, off + j * 3 + 2, none⟩ = some (.int .i64 z)) := Lib.hid fun G f q n v hv => by
        rcases hv.cellsK encP_len 0 rfl rfl with h0 | ⟨g', off', h, -, hc⟩
        · rw [h0] at hlt; simp at hlt
        · cases h
          have h9 := hc j hlt
          rw [show pl.getD j default = (x, y, z) from hx] at h9
          exact ⟨h9 0 _ rfl, h9 1 _ rfl, h9 2 _ rfl⟩
      obtain ⟨u, hu⟩ : ∃ u, getL ml (x, y, z) = u := ⟨_, rfl⟩
      have HGT : Hid (∀ G f q n v, Env w0 (rowKI encP 3 (.slice (some ⟨g, off, none⟩) pl.length cap) 23 pl :: wbox p cc :: cellI cc G f q n :: refI m FU ml :: R) v → Calls Tryd.prog 36 #[.pointer (some ⟨m, 0, none⟩), .agg #[.int .i64 x, .int .i64 y, .int .i64 z]] v fun e v' => e = .returned (.int .u64 u) ∧ Below v.heap.size v v') := Lib.hid fun G f q n v hv => by
        rw [← hu]
        exact refGet_any x y z (by have := HML.out; omega) (hv.ref 3 rfl)
      have hmem : (x, y, z) ∈ pl := by
        rw [← hx, List.getD_eq_getElem?_getD, List.getElem?_eq_getElem hlt]
        exact List.getElem_mem hlt
      have hwf : Wf (x, y, z) := Classical.byContradiction fun h => ((HPL.out.2 _).1 hmem) (HW.out.out _ h)
      have hui : InU u := by rw [← hu]; exact HW.out.u _
      have hstep : laidF (getL ml) (pl.take (j + 1)) = upd (laidF (getL ml) (pl.take j)) (x, y, z) u := by rw [laidF_step hlt hx, hu]
      have hwj : wrap64 ((j : Int) + 1) = (j : Int) + 1 := w64 _ (by omega)
      have HWF := Lib.hid hwf
      have HUI := Lib.hid hui
      have HSTEP := Lib.hid hstep
      have HWJ := Lib.hid hwj
      clear hmem hwf hui hstep hwj hu hx
      obtain ⟨c0, c1, c2⟩ := HC.out _ _ _ _ _ hE
      go_wp2_with fail
      clear c0 c1 c2
      refine Ord.wp_chain [13] (fun v => ∃ G f q n, Env w0 (rowKI encP 3 (.slice (some ⟨g, off, none⟩) pl.length cap) 23 pl :: wbox p cc :: cellI cc G f q n :: refI m FU ml :: R) v) (fun k w' => ∃ G, Env w0 (rowKI encP 3 (.slice (some ⟨g, off, none⟩) pl.length cap) 23 pl :: wbox p cc :: (if k = 0 then cellI cc G (laidF (getL ml) (pl.take j)) ⟨0, (j : Int), 0, 0, 0⟩ j else cellI cc G (upd (laidF (getL ml) (pl.take j)) (x, y, z) u) ⟨0, wrap64 ((j : Int) + 1), 0, 0, 0⟩ (j + 1)) :: refI m FU ml :: R) w') (by kernel_rfl) (by kernel_rfl) (by kernel_rfl) ⟨_, _, _, _, hE.drew⟩ ⟨_, hE.drew⟩ (fun hT => ?_)
      have hT9 := Lib.hid hT
      clear hT
      repeat (first
        | (refine Ord.ch_value (v := ?_) hT9.out (by decide) (by rfl) ?_ ?_; rotate_left; (focus (intro w5 hS; obtain ⟨G8, f8, q8, n8, hS8⟩ := hS; obtain ⟨c0, c1, c2⟩ := HC.out _ _ _ _ _ hS8; go_simp <;> with_reducible rfl)); (try simp only [Act.put, List.setIfInBounds_toArray, List.set_cons_zero, List.set_cons_succ]))
        | (refine Ord.ch_off hT9.out (by decide) (by rfl) ?_; (try simp only [Act.put, List.setIfInBounds_toArray, List.set_cons_zero, List.set_cons_succ]))
        | (refine Ord.ch_call (v := ?_) (f := ?_) (args := ?_) hT9.out (by decide) (by rfl) ?_ ?_ ?_; rotate_left 3; (focus (intro w5 hS; obtain ⟨G8, f8, q8, n8, hS8⟩ := hS; obtain ⟨c0, c1, c2⟩ := HC.out _ _ _ _ _ hS8; go_simp; constructor <;> with_reducible rfl)); (focus (intro w5 hS; (first | (obtain ⟨G8, f8, q8, n8, hS8⟩ := hS; with_reducible refine (HGT.out _ _ _ _ _ hS8).mono ?_; rintro o w6 ⟨rfl, hb6⟩; constructor; with_reducible rfl; exact ⟨⟨G8, f8, q8, n8, hS8.over hb6⟩, fun k h => h.elim fun G h => ⟨G, h.over hb6⟩⟩)))); (try simp only [Act.put, List.setIfInBounds_toArray, List.set_cons_zero, List.set_cons_succ])))
      refine Ord.ch_turn (v := .tuple #[]) 0 hT9.out rfl (by decide) (Or.inl rfl) (by rfl) ?_ ?_
      · rintro w5 hC5 ⟨G5, hA5⟩
        simp only [if_true] at hA5
        go_simp
        simp only [Ord.LandsIn]
        refine (store_w x y z 0 u 0 false HWF.out HUI.out (by unfold maxLen; omega) 1 2 (by decide) hA5 rfl rfl).mono ?_
        rintro e w6 ⟨rfl, G6, hE6⟩
        exact ⟨rfl, ⟨_, _, _, _, hE6⟩, G6, hE6⟩
      (try simp only [Act.put, List.setIfInBounds_toArray, List.set_cons_zero, List.set_cons_succ])
      refine Ord.InText.nil fun w5 hS => ?_
      clear hT9
      obtain ⟨hC9, hA9⟩ := Ord.chain_end hS
      clear hS
      obtain ⟨G9, hA9⟩ := hA9
      simp only [List.length_cons, List.length_nil, Nat.zero_add, Nat.one_ne_zero, if_false] at hA9
      rw [← HSTEP.out, HWJ.out] at hA9
      clear hC9 hE
      go_wp2_with fail
      exact ⟨⟨j + 1, G9, by omega, by simp, by simpa using hA9⟩, by simp [intOf]; omega⟩
    · have hb1 : decide ((j : Int) < (pl.length : Int)) = false := by simp; omega
      have hjl : j = pl.length := by omega
      have HJL := Lib.hid hjl
      clear hjl
      go_wp2_with fail
      go_ret
      refine ⟨p, cc, j, G, rfl, by have := HPN.out; omega, ?_⟩
      have h9 : laidF (getL ml) (pl.take j) = getL ml := by rw [HJL.out, List.take_length]; exact laidF_all HPL.out
      rw [h9] at hE
      exact hE.sub (.cons _ (List.Sublist.refl _))
end
end Go.Proofs.YtchcdfoncebemaaDoor

/- Searches: the program is awake. -/
namespace Go.Proofs.YtchcdfoncebemaaDoor
open Go.RowKit Go.Maps
set_option maxRecDepth 100000

/-- The list that awake lays. -/
def ns15 : List Nd := [⟨2, 3, 30, false⟩, ⟨1, 4, 0, true⟩, ⟨3, 7, 70, false⟩]
def ml15 : List OneR := layL 0 5 ns15 (4, 0, 0) false (setL [] (1, 0, 0) 5)
/-- So many steps of a search alone. -/
def runS (k key : Int) (vs : Bool) (f : Plc → Int) : Nat → Int × Sm × (Plc → Int)
  | 0 => (0, T0s, f)
  | n + 1 => searchM k key vs (runS k key vs f n).2.1 (runS k key vs f n).2.2
theorem ok15 : ∀ n ∈ ns15, NdOk n := by
  intro n hn
  simp only [ns15, List.mem_cons, List.not_mem_nil, or_false] at hn
  rcases hn with rfl | rfl | rfl <;> simp [NdOk, InU]
theorem words15 : Words (getL ml15) := words_lay (by omega) ns15 _ _ _ ok15 (by unfold Wf In64; simp) ((show Words (getL []) from Words.zero).setL (by unfold Wf In64; simp) (by simp [InU]))
theorem busy15 : ∀ n, n < 16 → (runS 0 7 true (getL ml15) n).1 = 0 := by decide +kernel
theorem done15 : (runS 0 7 true (getL ml15) 16).1 = 1 := by decide +kernel
theorem fin15 : (runS 0 7 true (getL ml15) 16).2.1.L.fd = true ∧ (runS 0 7 true (getL ml15) 16).2.1.L.C = 3 ∧ (runS 0 7 true (getL ml15) 16).2.1.L.V = 70 ∧ (runS 0 7 true (getL ml15) 16).2.1.L.p = (5, 2, 7) := by decide +kernel
theorem runS_ok {k key : Int} {vs : Bool} {f : Plc → Int} {N : Nat} (hk : In64 k) (hw : ∀ n, n ≤ N → ∀ x, InU ((runS k key vs f n).2.2 x)) (h0 : ∀ n, n < N → (runS k key vs f n).1 = 0) : ∀ n, n < N → SmOk (runS k key vs f n).2.1
  | 0, _ => T0s_ok
  | n + 1, hn => search_ok hk (runS_ok hk hw h0 n (by omega)) (hw n (by omega)) (h0 (n + 1) hn)

theorem at_place (v : World) (x y z d : Int) : (Instr.field 25 (.agg #[.int .i64 x, .int .i64 y, .int .i64 z, .int .i64 d]) 0).run Tryd.prog v = .ok (.agg #[.int .i64 x, .int .i64 y, .int .i64 z]) v := by kernel_rfl
set_option maxHeartbeats 6400000 in
theorem awake15 (w : World) (hg : Glo w) : Calls Tryd.prog 4 #[] w fun o w' => o = .returned (.bool true) ∧ Below w.heap.size w w' := by
  have hE := (Env.start w).newU w.heap.size rfl 52
  have hE1 := hE.box (w.heap.size + 1) (by simp) (flatK encN ns15) 55
  have HG := Lib.hid hg
  have HC := Lib.hid (show chkI 2 1000 3 1 1073741824 = 0 by decide)
  clear hg hE
  go_enter Tryd.func4, Tryd.ntmps4
  go_wp2_with fail
  refine (lay_t (R := [boxI (w.heap.size + 1) (flatK encN ns15)]) 0 0 5 (some ⟨w.heap.size + 1, 0, none⟩) 3 ns15 (by omega) (by omega) (by decide) (by decide) (fun F l v hv => Blk.rowK (enc := encN) (k := 4) (fun _ => rfl) (show Blk 0 v (w.heap.size + 1) (flatK encN ns15) from hv.get 1 rfl)) (hE1.perm (List.Perm.swap _ _ _))).mono ?_
  rintro o w1 ⟨rfl, F1, hE2⟩
  replace hE2 : Env w (refI w.heap.size F1 ml15 :: [boxI (w.heap.size + 1) (flatK encN ns15)]) w1 := hE2
  clear hE1
  generalize w.heap.size = m at *
  go_wp2_with fail
  refine (laid_t (by decide) words15 hE2).mono ?_
  rintro o w2 ⟨p, cc, n2, G2, rfl, hn2, hE3⟩
  replace hn2 : n2 ≤ 12 := Nat.le_trans hn2 (by decide)
  have HN2 := Lib.hid hn2
  clear hE2 hn2
  go_wp2_with fail
  refine (conf15 _).mono ?_
  rintro o w3 ⟨rfl, hb⟩
  replace hE3 := hE3.over hb
  clear hb
  go_wp2_with fail
  refine (newYes_c 2 1000 3 1 1073741824 HC.out hE3).mono ?_
  rintro o w4 ⟨c, q, F, rfl, hE4⟩
  clear hE3
  go_wp2_with fail
  refine (newSearch_l c 0 7 true hE4).mono ?_
  rintro o w5 ⟨sb, rfl, hE5⟩
  clear hE4
  have hR : SrchR w [refI m F1 ml15, boxI (m + 1) (flatK encN ns15)] sb 0 7 true (mkS ⟨c, q, p, cc, F, 2⟩ G2 (getL ml15) ⟨0, (n2 : Int), 0, 0, 0⟩ n2 0 0) 0 T0s w5 := SrchR.start hE5
  clear hE5
  go_wp2_with fail
  go_loopw [4, 5, 6] (fun nv sv iv wr => ∃ (j mm : Nat) (G : Nat → Prop) (qc : Cnt) (s : Int) (T : Sm) (f : Plc → Int), nv = .int .i64 j ∧ iv = .int .i64 j ∧ sv = .int .i64 s ∧ j ≤ 16 ∧ mm ≤ 20 + j ∧ Hid (runS 0 7 true (getL ml15) j = (s, T, f)) ∧ Hid (s = 0 → SmOk T) ∧ SrchR w [refI m F1 ml15, boxI (m + 1) (flatK encN ns15)] sb 0 7 true (mkS ⟨c, q, p, cc, F, 2⟩ G f qc mm T.e T.r) s T wr) (fun nv _ _ _ => 40 - (intOf nv).toNat)
  case atStart => exact ⟨0, n2, G2, _, 0, T0s, _, rfl, rfl, rfl, by omega, by have := HN2.out; omega, Lib.hid rfl, Lib.hid (fun _ => T0s_ok), hR⟩
  case round =>
    clear hR
    obtain ⟨j, mm, G, qc, s, T, f, rfl, rfl, rfl, hj, hmm, hrun, hok, hR⟩ := hrel
    by_cases hlt : j < 16
    · have hs : s = 0 := by
        have h1 := busy15 j hlt
        rw [hrun.out] at h1
        exact h1
      subst hs
      have hb1 : decide ((j : Int) < 40) = true := by simp; omega
      have hW := hR.words
      have hT := hok.out rfl
      have hst := search_k hT HG.out (by unfold maxLen; omega) hR
      have HNX : Hid (runS 0 7 true (getL ml15) (j + 1) = searchM 0 7 true T f) := Lib.hid (by show searchM 0 7 true (runS 0 7 true (getL ml15) j).2.1 (runS 0 7 true (getL ml15) j).2.2 = _; rw [hrun.out])
      have HOK : Hid ((searchM 0 7 true T f).1 = 0 → SmOk (searchM 0 7 true T f).2.1) := Lib.hid (search_ok (by unfold In64; omega) hT hW.u)
      have HM : Hid (mM T mm ≤ 20 + (j + 1)) := Lib.hid (by have := mM_le T mm; omega)
      generalize searchM 0 7 true T f = q9 at *
      generalize qcM T f qc = qc9 at *
      generalize mM T mm = mm9 at *
      obtain ⟨s9, T9, f9⟩ := q9
      have HST := Lib.hid hst
      clear hst hR hW hT hok hrun
      go_wp2_with fail
      refine HST.out.mono ?_
      rintro o w6 ⟨rfl, G9, hR9⟩
      go_wp2_with fail
      exact ⟨⟨j + 1, mm9, G9, qc9, s9, T9, f9, by simp, by simp, rfl, by omega, HM.out, HNX, HOK, hR9⟩, by simp [intOf]; omega⟩
    · have hj16 : j = 16 := by omega
      subst hj16
      have hs : s = 1 := by
        have h1 := done15
        rw [hrun.out] at h1
        exact h1
      have hfin := fin15
      rw [hrun.out] at hfin
      subst hs
      obtain ⟨on, ⟨p0, pc, W, X, K, V, C, fd⟩, e, r⟩ := T
      obtain ⟨h1, h2, h3, h4⟩ := hfin
      dsimp only at h1 h2 h3 h4
      subst h1 h2 h3 h4
      obtain ⟨-, -, ⟨-, h0, -⟩ | ⟨-, a, nx, wd, B1, B2, -, hE⟩⟩ := hR
      · exact absurd h0 (by decide)
      clear hok hrun
      have hap := at_place
      have HLK : Hid (∀ v, Calls Tryd.prog 22 #[.int .i64 2, .int .i64 0] v fun e w' => e = .returned (.agg #[.int .i64 5, .int .i64 2, .int .i64 7]) ∧ Below v.heap.size v w') := Lib.hid fun v => by
        have := link_any 2 0 v
        rwa [show wrap64 (7 + 0) = 7 from w64 _ (by omega)] at this
      replace hE : Env w (boxI a (laneC c 0 7 true nx 1 5 2 7 W 3 X wd true 70) :: B1 :: B2 :: LT (mkS ⟨c, q, p, cc, F, 2⟩ G f qc mm e r) [boxI sb (srC c 0 7 true (.pointer (some ⟨a, 0, none⟩))), refI m F1 ml15, boxI (m + 1) (flatK encN ns15)]) wr := hE
      go_wp2_with fail
      refine (lane_g (hE.get 7 rfl)).mono ?_
      rintro o w6 ⟨rfl, rfl⟩
      go_wp2_with (first
        | (with_reducible refine (found_g (hE.get 0 rfl)).mono ?_; rintro o w7 ⟨rfl, rfl⟩)
        | (with_reducible refine (val_g (hE.get 0 rfl)).mono ?_; rintro o w7 ⟨rfl, rfl⟩)
        | (with_reducible refine (who_g (hE.get 0 rfl)).mono ?_; rintro o w7 ⟨rfl, hb⟩; replace hE := hE.over hb; clear hb)
        | (with_reducible refine (at_g (hE.get 0 rfl)).mono ?_; rintro o w7 ⟨rfl, hb⟩; replace hE := hE.over hb; clear hb)
        | (with_reducible refine (HLK.out _).mono ?_; rintro o w7 ⟨rfl, hb⟩; replace hE := hE.over hb; clear hb))
      go_ret
      exact ⟨rfl, hE.below⟩
end Go.Proofs.YtchcdfoncebemaaDoor

/- Shared cells: the contracts of the accesses. -/
namespace Go.Proofs.YtchcdfoncebemaaDoor
open Go.RowKit Go.Maps
set_option maxRecDepth 100000

section
variable {w w' : World} {c n : Nat} {F : Nat → Prop} {f : Plc → Int} {q : Cnt}
end

set_option maxHeartbeats 800000 in
theorem count_any {c n : Nat} {F : Nat → Prop} {f : Plc → Int} {q : Cnt} {w : World} (hC : IsC w c F f q n) :
    Calls Tryd.prog 28 #[.pointer (some ⟨c, 0, none⟩)] w fun e w' => e = .returned (.agg #[.int .i64 q.l, .int .i64 q.s, .int .i64 q.w, .int .i64 q.f, .int .i64 q.a]) ∧ Below w.heap.size w w' := by
  obtain ⟨mp, hb, hm, hF⟩ := hC
  have r1 := cell_more hb.1 hb.rule
  unfold cv at r1
  go_enter Tryd.func28, Tryd.ntmps28
  go_wp2
  refine bodyPost_ret (v := .agg #[.int .i64 q.l, .int .i64 q.s, .int .i64 q.w, .int .i64 q.f, .int .i64 q.a]) (by simp [results, Tryd.results28, go_sem]) rfl ⟨rfl, ?_⟩
  exact (Below.refl _ _).alloc (Nat.le_refl _) _
end Go.Proofs.YtchcdfoncebemaaDoor

/- The plain world: contracts of its accesses: each is the cells' own, among whatever other things there are. -/
namespace Go.Proofs.YtchcdfoncebemaaDoor
open Go.RowKit Go.Maps
set_option maxRecDepth 100000

section
variable {w0 w : World} {L : List Item} {p c n : Nat} {F : Nat → Prop} {f : Plc → Int} {q : Cnt}

set_option maxHeartbeats 1600000 in
theorem count_w (i j : Nat) (hE : Env w0 L w) (hi : L[i]? = some (wbox p c)) (hj : L[j]? = some (cellI c F f q n)) :
    Calls Tryd.prog 17 #[.pointer (some ⟨p, 0, none⟩)] w fun e w' => e = .returned (.agg #[.int .i64 q.l, .int .i64 q.s, .int .i64 q.w, .int .i64 q.f, .int .i64 q.a]) ∧ Below w.heap.size w w' := by
  have hb := (Below.refl w.heap.size w).alloc (Nat.le_refl _) (.cells #[.int .i64 0, .int .i64 0, .int .i64 0, .int .i64 0, .int .i64 0] 46)
  replace hE := hE.box w.heap.size rfl [.int .i64 0, .int .i64 0, .int .i64 0, .int .i64 0, .int .i64 0] 46
  go_enter Tryd.func17, Tryd.ntmps17
  go_wp2_with fail
  refine (kept_any (hE.wblk (i + 1) hi)).mono ?_
  rintro e w1 ⟨rfl, rfl⟩
  go_wp2_with fail
  refine (count_any (hE.cell (j + 1) hj)).mono ?_
  rintro e w2 ⟨rfl, hb2⟩
  have hE2 := hE.over hb2
  have f5 := hE2.thaw 0 rfl
  have f0 := f5 0 (by simp)
  have f1 := f5 1 (by simp)
  have f2 := f5 2 (by simp)
  have f3 := f5 3 (by simp)
  have f4 := f5 4 (by simp)
  have r := hE2.rule 0 rfl
  have hB := hb.trans (hb2.mono hb.size)
  clear f5
  go_wp2
  have hP := hE2.put5 0 rfl (.int .i64 q.l) (.int .i64 q.s) (.int .i64 q.w) (.int .i64 q.f) (.int .i64 q.a)
  have q9 := hP.rule 0 rfl
  refine bodyPost_ret (v := .agg #[.int .i64 q.l, .int .i64 q.s, .int .i64 q.w, .int .i64 q.f, .int .i64 q.a]) (by simp [results, Tryd.results17, go_sem, q9]) rfl ⟨rfl, ?_⟩
  exact ((((hB.setCell (Nat.le_refl _) _).setCell (Nat.le_refl _) _).setCell (Nat.le_refl _) _).setCell (Nat.le_refl _) _).setCell (Nat.le_refl _) _
end
end Go.Proofs.YtchcdfoncebemaaDoor

/- What the condition on the package's variables gives: the three fields stand in them; and that the program's own start meets it. -/
namespace Go.Proofs.YtchcdfoncebemaaDoor
open Go.ChangeShapes Go.WideShapes Go.ChangeAt Go.RowKit
set_option maxRecDepth 100000

section
variable {P : Program} {w : World}
theorem cell_lt {b o : Nat} {v : Value} (h : w.cell? ⟨b, o, none⟩ = some v) : b < w.heap.size := by
  rcases Nat.lt_or_ge b w.heap.size with h' | h'
  · exact h'
  · simp [World.cell?, Array.getElem?_eq_none h'] at h
/-- The head of a list of laid variables: a struct of two ints. -/
theorem laid_pair {n : String} {g : Nat} {t k : TypeId} {f0 f1 : Field} {a b : Int} {r : List (String × DataW Unit)} {ps : List MemPlace}
    (h : DataW.LaidVars P w ((n, .agg [.lit (.int .i64 a), .lit (.int .i64 b)]) :: r) ps) (hg : P.globalNamed n = some g) (ht : (P.globals[g]?).map (·.type) = some t)
    (hs : P.underlying t = some (.struct #[f0, f1])) (hc : P.cellsOf t = 2) (h0 : f0.offset = 0) (h1 : f1.offset = 1) (hk0 : f0.type = k) (hk1 : f1.type = k) (hk : P.cellsOf k = 1) (hi : P.underlying k = some (.int .i64)) :
    w.cell? ⟨g, 0, none⟩ = some (.int .i64 a) ∧ w.cell? ⟨g, 1, none⟩ = some (.int .i64 b) ∧ ∃ q, DataW.LaidVars P w r q := by
  obtain ⟨g', t', cs, fuel, p, q, hg', ht', hv, hd, hr, -⟩ := h
  obtain rfl := Option.some.inj (hg.symm.trans hg')
  obtain rfl := Option.some.inj (ht.symm.trans ht')
  obtain ⟨xs, m, -, hx, hl, hn, hel⟩ := DataW.trod_struct hs hd
  have e0 := hel 0 f0 rfl
  have e1 := hel 1 f1 rfl
  rw [h0, hk0, hk] at e0
  rw [h1, hk1, hk] at e1
  obtain ⟨l⟩ := cs
  rw [hc] at hl
  match l, hl, xs, hn, hx, e0, e1, hv with
  | [c0, c1], _, [x0, x1], _, hx, e0, e1, hv =>
    simp only [Prod.mk.injEq, List.map_cons, List.map_nil, DataW.agg.injEq, List.cons.injEq] at hx
    obtain ⟨n0, s0, y0, -⟩ := DataW.trod_int hi (show DataW.trod _ P w 0 _ false m k [c0] = some x0 from e0)
    obtain ⟨n1, s1, y1, -⟩ := DataW.trod_int hi (show DataW.trod _ P w 0 _ false m k [c1] = some x1 from e1)
    simp at s0 s1
    subst s0 s1
    have k0 := hx.1.1
    have k1 := hx.1.2.1
    rw [y0] at k0
    rw [y1] at k1
    simp at k0 k1
    subst k0 k1
    exact ⟨by rw [World.var?_cell hg hv 0]; rfl, by rw [World.var?_cell hg hv 1]; rfl, q, hr⟩
end

def laid3 : List (String × DataW Unit) := [("revenant/link.versionPart", Rows.laid_revenant_link_versionPart), ("revenant/link.slotPart", Rows.laid_revenant_link_slotPart), ("revenant/link.markPart", Rows.laid_revenant_link_markPart)]

/-- What the condition gives the walks. -/
theorem glo_of_laid {W : World} (h : laidMetH Tryd.prog laid3 W) : Glo W := by
  rw [MakeChecks.laidMetH_plain _ _ _ (by kernel_rfl)] at h
  obtain ⟨ps, h, -, -⟩ := h
  obtain ⟨a0, a1, q1, h⟩ := laid_pair (g := 2) (t := 132) (k := 3) h (by kernel_rfl) (by kernel_rfl) Tryd.underlying132 (by kernel_rfl) rfl rfl rfl rfl (by kernel_rfl) Tryd.underlying3
  obtain ⟨b0, b1, q2, h⟩ := laid_pair (g := 1) (t := 132) (k := 3) h (by kernel_rfl) (by kernel_rfl) Tryd.underlying132 (by kernel_rfl) rfl rfl rfl rfl (by kernel_rfl) Tryd.underlying3
  obtain ⟨c0, c1, q3, h⟩ := laid_pair (g := 0) (t := 132) (k := 3) h (by kernel_rfl) (by kernel_rfl) Tryd.underlying132 (by kernel_rfl) rfl rfl rfl rfl (by kernel_rfl) Tryd.underlying3
  exact ⟨⟨a0, a1⟩, ⟨b0, b1⟩, ⟨c0, c1⟩, cell_lt a0, cell_lt b0, cell_lt c0⟩

/-- The program's own start meets the condition. -/
theorem door_met (os : Os) (args : Array Value) : laidMetH Tryd.prog laid3 ((World.doorLaid Tryd.prog 24 os).forCall (fun _ _ => 0) ⟨#[], args, []⟩).memory :=
  laidMetH_of_parts3 (fuel := 8) (laidMet_of_run' 8 (by kernel_rfl) (by kernel_rfl)) (by kernel_rfl) (by kernel_rfl)
end Go.Proofs.YtchcdfoncebemaaDoor

namespace Go.Proofs.YtchcdfoncebemaaDoor.seekNil
open Go.ChangeShapes Go.WideShapes Go.ChangeAt Go.RowKit Go.Joins Go.Maps
set_option maxRecDepth 100000

theorem stepNil_l (u : Value) (w : World) : Calls Tryd.prog 8 #[.pointer none, u] w fun o w' => o = .returned (.int .i64 1) ∧ w' = w := by
  have hmf := makeF
  go_enter_defers Tryd.func8, Tryd.ntmps8
  go_wp2_with fail
  exact ⟨.int .i64 1, by simp [results, Tryd.results8, go_sem], rfl, rfl⟩
theorem stepNil_s (u : Value) (w : World) : Calls Tryd.prog 9 #[.pointer none, u] w fun o w' => o = .returned (.int .i64 1) ∧ w' = w := by
  go_enter Tryd.func9, Tryd.ntmps9
  go_wp2
  go_ret
  exact ⟨rfl, rfl⟩
theorem laneNil_s (w : World) : Calls Tryd.prog 10 #[.pointer none] w fun o w' => o = .returned (.pointer none) ∧ w' = w := by
  go_enter Tryd.func10, Tryd.ntmps10
  go_wp2
  go_ret
  exact ⟨rfl, rfl⟩
theorem foundNil_l (w : World) : Calls Tryd.prog 11 #[.pointer none] w fun o w' => o = .returned (.bool false) ∧ w' = w := by
  go_enter Tryd.func11, Tryd.ntmps11
  go_wp2
  go_ret
  exact ⟨rfl, rfl⟩
theorem valNil_l (w : World) : Calls Tryd.prog 16 #[.pointer none] w fun o w' => o = .returned (.int .u64 0) ∧ w' = w := by
  go_enter Tryd.func16, Tryd.ntmps16
  go_wp2
  go_ret
  exact ⟨rfl, rfl⟩
theorem whoNil_l (w : World) : Calls Tryd.prog 12 #[.pointer none] w fun o w' => o = .returned (.agg #[.int .i64 0, .int .i64 0]) ∧ Below w.heap.size w w' := by
  go_enter Tryd.func12, Tryd.ntmps12
  go_wp2
  exact bodyPost_ret (v := .agg #[.int .i64 0, .int .i64 0]) (by simp [results, Tryd.results12, go_sem]) rfl ⟨rfl, (Below.refl _ _).alloc (Nat.le_refl _) _⟩
theorem atNil_l (w : World) : Calls Tryd.prog 13 #[.pointer none] w fun o w' => o = .returned (.agg #[.int .i64 0, .int .i64 0, .int .i64 0, .int .i64 0]) ∧ Below w.heap.size w w' := by
  go_enter Tryd.func13, Tryd.ntmps13
  go_wp2
  exact bodyPost_ret (v := .agg #[.int .i64 0, .int .i64 0, .int .i64 0, .int .i64 0]) (by simp [results, Tryd.results13, go_sem]) rfl ⟨rfl, (Below.refl _ _).alloc (Nat.le_refl _) _⟩
theorem intoNil_l (w : World) : Calls Tryd.prog 14 #[.pointer none] w fun o w' => o = .returned (.agg #[.int .u64 0, .int .i64 0, .bool false]) ∧ Below w.heap.size w w' := by
  go_enter Tryd.func14, Tryd.ntmps14
  go_wp2
  exact bodyPost_ret (v := .agg #[.int .u64 0, .int .i64 0, .bool false]) (by simp [results, Tryd.results14, go_sem]) rfl ⟨rfl, (Below.refl _ _).alloc (Nat.le_refl _) _⟩
theorem outNil_l (w : World) : Calls Tryd.prog 15 #[.pointer none] w fun o w' => o = .returned (.agg #[.int .u64 0, .int .i64 0, .bool false]) ∧ Below w.heap.size w w' := by
  go_enter Tryd.func15, Tryd.ntmps15
  go_wp2
  exact bodyPost_ret (v := .agg #[.int .u64 0, .int .i64 0, .bool false]) (by simp [results, Tryd.results15, go_sem]) rfl ⟨rfl, (Below.refl _ _).alloc (Nat.le_refl _) _⟩

set_option maxHeartbeats 6400000 in
theorem walk (x y z d lv key : Int) (w : World) (hg : Glo w) :
    Calls Tryd.prog 3 #[.agg #[.int .i64 x, .int .i64 y, .int .i64 z, .int .i64 d], .int .i64 lv, .int .u64 key] w fun e w' => e = .returned (.bool true) ∧ Below w.heap.size w w' := by
  have HG := Lib.hid hg
  clear hg
  have hE := (Env.start w).box w.heap.size rfl [.int .i64 x, .int .i64 y, .int .i64 z, .int .i64 d] 25
  go_enter Tryd.func3, Tryd.ntmps3
  go_wp2_with fail
  refine (awake15 _ (HG.out.keep' hE.below)).mono ?_
  rintro o w1 ⟨rfl, hb⟩
  replace hE := hE.over hb
  clear hb
  go_wp2_with fail
  refine (new_w hE).mono ?_
  rintro o w2 ⟨p, cc, rfl, hE2, -⟩
  have hE := hE2
  clear hE2
  have r0 := hE.rule 2 rfl
  have HCNT : Hid (∀ v, Env w [wbox p cc, cellI cc (fun k => k = cc) (fun _ => 0) ⟨0, 0, 0, 0, 0⟩ 0, boxI w.heap.size [.int .i64 x, .int .i64 y, .int .i64 z, .int .i64 d]] v → Calls Tryd.prog 17 #[.pointer (some ⟨p, 0, none⟩)] v fun o w' => o = .returned (.agg #[.int .i64 0, .int .i64 0, .int .i64 0, .int .i64 0, .int .i64 0]) ∧ Below v.heap.size v w') := Lib.hid fun v hv => count_w 0 1 hv rfl rfl
  go_wp2_with (first
    | (with_reducible refine (newNil_l _ _ _ _ _ _ _ _).mono ?_; rintro o w3 ⟨rfl, hb⟩; replace hE := hE.over hb; clear hb r0; have r0 := hE.rule 2 rfl)
    | (with_reducible refine (newSearchNil_l _ _ _ _).mono ?_; rintro o w3 ⟨rfl, rfl⟩)
    | (with_reducible refine (stepNil_l _ _).mono ?_; rintro o w3 ⟨rfl, rfl⟩)
    | (with_reducible refine (stepNil_s _ _).mono ?_; rintro o w3 ⟨rfl, rfl⟩)
    | (with_reducible refine (laneNil_s _).mono ?_; rintro o w3 ⟨rfl, rfl⟩)
    | (with_reducible refine (foundNil_l _).mono ?_; rintro o w3 ⟨rfl, rfl⟩)
    | (with_reducible refine (valNil_l _).mono ?_; rintro o w3 ⟨rfl, rfl⟩)
    | (with_reducible refine (whoNil_l _).mono ?_; rintro o w3 ⟨rfl, hb⟩; replace hE := hE.over hb; clear hb r0; have r0 := hE.rule 2 rfl)
    | (with_reducible refine (atNil_l _).mono ?_; rintro o w3 ⟨rfl, hb⟩; replace hE := hE.over hb; clear hb r0; have r0 := hE.rule 2 rfl)
    | (with_reducible refine (intoNil_l _).mono ?_; rintro o w3 ⟨rfl, hb⟩; replace hE := hE.over hb; clear hb r0; have r0 := hE.rule 2 rfl)
    | (with_reducible refine (outNil_l _).mono ?_; rintro o w3 ⟨rfl, hb⟩; replace hE := hE.over hb; clear hb r0; have r0 := hE.rule 2 rfl)
    | (with_reducible refine (HCNT.out _ hE).mono ?_; rintro o w3 ⟨rfl, hb⟩; replace hE := hE.over hb; clear hb r0; have r0 := hE.rule 2 rfl))
  go_ret
  exact ⟨rfl, hE.below⟩

theorem own : ownKnob Tryd.prog.godebug = none := by kernel_rfl
theorem laidOut : laidOutB Tryd.prog = true := by kernel_rfl

set_option maxRecDepth 100000 in
theorem lifted (os : Os) (started : os.Started) (H : Type) (enc : TypeId × Value → H) :
    ReturnsInHanded {} Tryd.checked os 3 .any (fun w args => (Rows.seekNilSpec.pre enc Tryd.prog Tryd.f3 [] false w args ∧ laidMetH Tryd.prog laid3 w) ∧ sizedMet enc Tryd.prog Tryd.f3 (OpenSpec.ofChange Rows.seekNilSpec) false w args)
      (Rows.seekNilSpec.post enc Tryd.prog Tryd.f3 false true false false) := by
  refine returnsInHanded_of_change_and (C := Tryd.checked) (X := fun w _ => laidMetH Tryd.prog laid3 w) (fun _ _ _ hh h => h.of_heap hh) own started (by kernel_rfl) Tryd.func3
    (ChangeSpec.witness_shaped (enc := enc) (C := Tryd.checked) (os := os) (X := fun w _ => laidMetH Tryd.prog laid3 w) false (World.doorLaid Tryd.prog 24 os) #[.agg #[.int .i64 0, .int .i64 0, .int .i64 0, .int .i64 0], .int .i64 0, .int .u64 0] 8 rfl (World.shaped_of_RefB (by kernel_rfl) (by kernel_rfl)) (by kernel_rfl) (by kernel_rfl) (by kernel_rfl) (door_met os _)) ?_
  intro W base args ds gs before hval0 hW _ _ hL _
  have hval : ∀ (j : Nat) t v, Tryd.f3.params[j]? = some t → args[j]? = some v → Value.okWide Tryd.prog W .any base t v := hval0
  have hW' := hW
  obtain ⟨p, q, hA0, hV, rfl, hfz, hnd⟩ := hW
  have hA : DataW.TrodAll enc Tryd.prog W 0 (fun _ => true) true Tryd.f3.params.toList args.toList ds p := hA0
  rw [Tryd.params3] at hA hval
  obtain ⟨v0, vs0, d0, ds0, p0, q0, hargs, rfl, rfl, g0, r0⟩ := trodAll_cons hA
  obtain ⟨v1, vs1, d1, ds1, p1, q1, rfl, rfl, rfl, g1, r1⟩ := trodAll_cons r0
  obtain ⟨v2, vs2, d2, ds2, p2, q2, rfl, rfl, rfl, g2, r2⟩ := trodAll_cons r1
  obtain ⟨rfl, rfl, rfl⟩ := trodAll_nil r2
  obtain rfl : args = #[v0, v1, v2] := by cases args; simp_all
  obtain ⟨rfl, rfl⟩ := trodVars_none hV
  obtain ⟨a1, rfl, rfl, rfl, w1⟩ := open_int Tryd.underlying3 (hval 1 3 v1 rfl rfl) g1
  have h1 := i64_in w1
  obtain ⟨a2, rfl, rfl, rfl, w2⟩ := open_int Tryd.underlying26 (hval 2 26 v2 rfl rfl) g2
  have h2 := u64_in w2
  obtain ⟨cs0, rfl, z0, H0⟩ := open_deep (d := 6) (ss := [.num .i64, .num .i64, .num .i64, .num .i64]) Tryd.underlying25 (by kernel_rfl) (by kernel_rfl) (hval 0 25 v0 rfl rfl) g0
  obtain ⟨l0, rfl, z0⟩ := list_of z0
  obtain ⟨x0_0, x0_1, x0_2, x0_3, rfl⟩ := list4 z0
  obtain ⟨_, e, a0_0, rfl, w0_0⟩ := H0 0 _ rfl
  obtain rfl : x0_0 = .int .i64 a0_0 := by simpa using e
  clear e
  have h0_0 := i64_in w0_0
  obtain ⟨_, e, a0_1, rfl, w0_1⟩ := H0 1 _ rfl
  obtain rfl : x0_1 = .int .i64 a0_1 := by simpa using e
  clear e
  have h0_1 := i64_in w0_1
  obtain ⟨_, e, a0_2, rfl, w0_2⟩ := H0 2 _ rfl
  obtain rfl : x0_2 = .int .i64 a0_2 := by simpa using e
  clear e
  have h0_2 := i64_in w0_2
  obtain ⟨_, e, a0_3, rfl, w0_3⟩ := H0 3 _ rfl
  obtain rfl : x0_3 = .int .i64 a0_3 := by simpa using e
  clear e
  have h0_3 := i64_in w0_3
  clear H0
  clear hA0 hval0
  have hG := glo_of_laid hL
  refine (walk a0_0 a0_1 a0_2 a0_3 a1 a2 W hG).mono fun e W' ⟨he, hg⟩ => ?_
  subst he
  exact ⟨_, rfl, law_post laidOut (by kernel_rfl) (by kernel_rfl) Tryd.underlying4 rfl rfl hW' hg⟩

theorem over : Rows.seekNilRow.holds Tryd.pinned (OpenSpec.ofChange Rows.seekNilSpec) :=
  OpenClaim.holds_of_wide 3 Tryd.f3 rfl rfl rfl rfl rfl rfl rfl ⟨rfl, rfl, rfl, rfl, rfl⟩ rfl rfl rfl rfl rfl (by kernel_rfl) Tryd.func3 (by kernel_rfl)
    (of_decide_eq_true (by kernel_rfl)) (by unfold Func.isWrapper; first | (rw [if_pos (by decide +kernel)]; kernel_rfl) | (rw [if_neg (by decide +kernel)]; exact ⟨rfl, rfl⟩))
    (fun os started H enc _ => lifted os started H enc)

/-- THE STATEMENT. -/
theorem proved : Rows.SeekNilCardSaid :=
  Claim7.holds_tied_plain_at .later [] [.wider, .wider, .wider] true _ false
    over (fun _ h => by cases h) (by kernel_rfl) (fun _ h => by cases h) seekNil_row_tie rfl ⟨rfl, rfl⟩ (by kernel_rfl) rfl
    (fun f fn hf hfn => by
      obtain rfl : f = 3 := Option.some.inj ((show Tryd.prog.funcNamed "revenant/revenantlaw15.SeekNil" = some 3 by kernel_rfl).symm.trans hf) |>.symm
      obtain rfl : fn = Tryd.f3 := (Option.some.inj (Tryd.func3.symm.trans hfn)).symm
      exact ⟨by kernel_rfl, fun j t ht => by
        rw [Tryd.params3] at ht
        have hm : t ∈ [25, 3, 26] := by simpa using Array.mem_of_getElem? ht
        have hall : ([25, 3, 26].all fun u => !Tryd.prog.wantsStandIn u) = true := by kernel_rfl
        exact (show Tryd.prog.wantsStandIn t = false by simpa using List.all_eq_true.1 hall t hm)⟩)
    (by kernel_rfl)
#print axioms proved
end Go.Proofs.YtchcdfoncebemaaDoor.seekNil
