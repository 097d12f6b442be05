/- AllocExact: of every structure, up to four threads' rows of Allocs, Retires, Gives and Drops, and every row of picks, each step's state, the memory and all threads' own slots are the document's: so the law answers true, for every input, where package link's three variables hold what the program's text lays in them (tied). -/
import Derived.Test.YtmifdkbpbkafjaaGreatDoorE13
import Derived.LoopIn
import Derived.LoopN
import Derived.Test.YtmifdkbpbkafjaaGreatDoorTie
import Derived.LaidMore
import Derived.Stop.Joined
import Derived.WalkKit
import Derived.ProofKit
import Derived.OpenShut
import Derived.Deep.SlicePairs
import Derived.Test.YtmifdkbpbkafjaaGreatDoorCards
import Derived.SevenTiedAt

/- The reference's places, in their order. -/
namespace Go.Proofs.YtmifdkbpbkafjaaGreatDoor
open Go.RowKit Go.Maps Go.Sort
set_option maxRecDepth 100000

theorem exch {α : Type} (y0 y1 y2 x0 x1 x2 : α) (D : List α) : ∀ P : List α, ((((((P ++ y0 :: y1 :: y2 :: x0 :: x1 :: x2 :: D).set (P.length + 3) y0).set (P.length + 4) y1).set (P.length + 5) y2).set P.length x0).set (P.length + 1) x1).set (P.length + 2) x2 = P ++ x0 :: x1 :: x2 :: y0 :: y1 :: y2 :: D
  | [] => rfl
  | p :: P => by
    have ih := exch y0 y1 y2 x0 x1 x2 D P
    simp only [List.cons_append, List.length_cons, show P.length + 1 + 3 = P.length + 3 + 1 by omega, show P.length + 1 + 4 = P.length + 4 + 1 by omega, show P.length + 1 + 5 = P.length + 5 + 1 by omega, show P.length + 1 + 2 = P.length + 2 + 1 by omega, List.set_cons_succ]
    rw [ih]
def insAt (m : List Plc) (j : Nat) (x : Plc) : List Plc := m.take j ++ x :: m.drop j
theorem flatP_append (l m : List Plc) : flatP (l ++ m) = flatP l ++ flatP m := by simp [flatP]
theorem insAt_exch (m : List Plc) (j : Nat) (hj : j < m.length) (x : Plc) : ((((((flatP (insAt m (j + 1) x)).set (j * 3 + 3) (.int .i64 (m.getD j z3).1)).set (j * 3 + 4) (.int .i64 (m.getD j z3).2.1)).set (j * 3 + 5) (.int .i64 (m.getD j z3).2.2)).set (j * 3) (.int .i64 x.1)).set (j * 3 + 1) (.int .i64 x.2.1)).set (j * 3 + 2) (.int .i64 x.2.2) = flatP (insAt m j x) := by
  have hlen : (flatP (m.take j)).length = j * 3 := by rw [flatP_length]; simp; omega
  have e1 : flatP (insAt m (j + 1) x) = flatP (m.take j) ++ .int .i64 (m.getD j z3).1 :: .int .i64 (m.getD j z3).2.1 :: .int .i64 (m.getD j z3).2.2 :: .int .i64 x.1 :: .int .i64 x.2.1 :: .int .i64 x.2.2 :: flatP (m.drop (j + 1)) := by
    unfold insAt
    rw [flatP_append, List.take_succ_eq_append_getElem hj, flatP_append]
    simp [flatP, encP, hj]
  have e2 : flatP (insAt m j x) = flatP (m.take j) ++ .int .i64 x.1 :: .int .i64 x.2.1 :: .int .i64 x.2.2 :: .int .i64 (m.getD j z3).1 :: .int .i64 (m.getD j z3).2.1 :: .int .i64 (m.getD j z3).2.2 :: flatP (m.drop (j + 1)) := by
    unfold insAt
    have h0 : m.drop j = m[j] :: m.drop (j + 1) := List.drop_eq_getElem_cons hj
    have h1 : m.getD j z3 = m[j] := by simp [hj]
    rw [flatP_append, h0, h1]
    simp [flatP, encP, -List.getElem_cons_drop]
  rw [e1, e2, ← hlen]
  exact exch _ _ _ _ _ _ _ _
theorem insAt_get_self (m : List Plc) (j : Nat) (hj : j ≤ m.length) (x : Plc) : (insAt m j x).getD j z3 = x := by
  unfold insAt
  rw [List.getD_eq_getElem?_getD, List.getElem?_append_right (by simp; omega)]
  simp [Nat.min_eq_left hj]
theorem insAt_get_prev (m : List Plc) (j : Nat) (hj : j < m.length) (x : Plc) : (insAt m (j + 1) x).getD j z3 = m.getD j z3 := by
  unfold insAt
  rw [List.getD_eq_getElem?_getD, List.getElem?_append_left (by simp; omega)]
  simp [List.getElem?_take]
theorem insAt_length (m : List Plc) (j : Nat) (hj : j ≤ m.length) (x : Plc) : (insAt m j x).length = m.length + 1 := by unfold insAt; simp; omega
theorem rising_insAt {m : List Plc} {j : Nat} {x : Plc} (hm : Rising m) (hj : j ≤ m.length) (hx : x ∉ m) (hd : ∀ y ∈ m.drop j, ltOf cmpP x y = true) (hs : j = 0 ∨ ltOf cmpP x (m.getD (j - 1) z3) = false) : Rising (insAt m j x) := by
  have h1 : Rising (m.take j) := List.Pairwise.sublist (List.take_sublist _ _) hm
  have h2 : Rising (m.drop j) := List.Pairwise.sublist (List.drop_sublist _ _) hm
  have h3 : ∀ y ∈ m.take j, ltOf cmpP y x = true := by
    intro y hy
    obtain ⟨i, hi, rfl⟩ := List.getElem_of_mem hy
    have hi' : i < j := by simp at hi; omega
    rcases hs with rfl | hs
    · omega
    · have hjm : j - 1 < m.length := by omega
      have e : m.getD (j - 1) z3 = m[j - 1] := by simp [hjm]
      rw [e] at hs
      have hlt : ltOf cmpP m[j - 1] x = true := by
        rcases h : ltOf cmpP m[j - 1] x with _ | _
        · exact absurd (totP _ _ hs h) (fun e => hx (e ▸ List.getElem_mem hjm))
        · rfl
      rw [List.getElem_take]
      rcases Nat.lt_or_ge i (j - 1) with hlt2 | hge
      · exact swoP.trans _ _ _ (List.pairwise_iff_getElem.1 hm i (j - 1) (by omega) hjm hlt2) hlt
      · have : i = j - 1 := by omega
        subst this
        exact hlt
  unfold insAt Rising
  refine List.pairwise_append.2 ⟨h1, List.pairwise_cons.2 ⟨hd, h2⟩, fun a ha b hb => ?_⟩
  rcases List.mem_cons.1 hb with rfl | hb
  · exact h3 a ha
  · exact swoP.trans _ _ _ (h3 a ha) (hd b hb)
theorem mem_insAt {m : List Plc} {j : Nat} {x y : Plc} : y ∈ insAt m j x ↔ y = x ∨ y ∈ m := by
  unfold insAt
  conv => rhs; rw [← List.take_append_drop j m]
  simp only [List.mem_append, List.mem_cons]
  constructor
  · rintro (h | h | h)
    · exact .inr (.inl h)
    · exact .inl h
    · exact .inr (.inr h)
  · rintro (h | h | h)
    · exact .inr (.inl h)
    · exact .inl h
    · exact .inr (.inr h)
theorem getL_ne {l : List OneR} (h : (l.map (·.1)).Nodup) (x : Plc) : getL l x ≠ 0 ↔ ∃ v, (x, v) ∈ l ∧ v ≠ 0 := by
  induction l with
  | nil => simp [getL]
  | cons e l ih =>
    rw [List.map_cons, List.nodup_cons] at h
    have ih := ih h.2
    by_cases he : e.1 = x
    · subst he
      simp only [getL, if_true]
      constructor
      · intro hv; exact ⟨e.2, by simp, hv⟩
      · rintro ⟨v, hv, hne⟩
        rcases List.mem_cons.1 hv with e' | e'
        · rw [← e']; exact hne
        · exact absurd (List.mem_map.2 ⟨_, e', rfl⟩) h.1
    · simp only [getL, if_neg he]
      rw [ih]
      constructor
      · rintro ⟨v, hv, hne⟩; exact ⟨v, List.mem_cons_of_mem _ hv, hne⟩
      · rintro ⟨v, hv, hne⟩
        rcases List.mem_cons.1 hv with e' | e'
        · exact absurd (by rw [← e']) he
        · exact ⟨v, e', hne⟩
theorem ownsRow_rowP {w : World} {b : Nat} {v : Value} {m : List Plc} (h : w.ownsRow b 37 3 v m.length (flatP m)) : RowP w v m := by
  rcases h.2 with ⟨hv, h0⟩ | ⟨g, cap, cur, hv, _, hg, hn, hc, hcs, htk⟩
  · exact .inl ⟨List.eq_nil_of_length_eq_zero h0, hv⟩
  · refine .inr ⟨g, cap, hv, (Array.getElem?_eq_some_iff.1 hg).1, fun j hj => ?_⟩
    have each : ∀ c, c < 3 → w.cell? ⟨g, j * 3 + c, none⟩ = (encP (m.getD j z3))[c]? := fun c hc4 => by
      rw [← flatP_get m j c hj hc4, ← htk, List.getElem?_take_of_lt (by omega)]
      simp [World.cell?, hg]
    exact ⟨each 0 (by omega), each 1 (by omega), each 2 (by omega)⟩
end Go.Proofs.YtmifdkbpbkafjaaGreatDoor

/- The reference's places, in their order: the walk. -/
namespace Go.Proofs.YtmifdkbpbkafjaaGreatDoor
open Go.RowKit Go.Maps Go.Sort
set_option maxRecDepth 100000

def okM (l : List OneR) (k : Nat) (m : List Plc) : Prop := Rising m ∧ m.length ≤ k ∧ ∀ x, x ∈ m ↔ ∃ v, (x, v) ∈ l.take k ∧ v ≠ 0
theorem okM.skip {l : List OneR} {k : Nat} {m : List Plc} (h : okM l k m) (hk : k < l.length) (h0 : (l.getD k dO).2 = 0) : okM l (k + 1) m := by
  refine ⟨h.1, by have := h.2.1; omega, fun x => ?_⟩
  rw [h.2.2 x, List.take_succ_eq_append_getElem hk]
  have e : l[k].2 = 0 := by simpa [hk] using h0
  constructor
  · rintro ⟨v, hv, hne⟩; exact ⟨v, List.mem_append.2 (.inl hv), hne⟩
  · rintro ⟨v, hv, hne⟩
    rcases List.mem_append.1 hv with hv | hv
    · exact ⟨v, hv, hne⟩
    · rw [← List.mem_singleton.1 hv] at e; exact absurd e hne
theorem okM.new {l : List OneR} {k : Nat} {m : List Plc} (h : okM l k m) (hnd : (l.map (·.1)).Nodup) (hk : k < l.length) : (l.getD k dO).1 ∉ m := by
  intro hx
  obtain ⟨v, hv, _⟩ := (h.2.2 _).1 hx
  obtain ⟨i, hi, he⟩ := List.getElem_of_mem hv
  have hi' : i < k := by simp at hi; omega
  have e1 : l[i].1 = l[k].1 := by
    have : (l.take k)[i] = l[i] := List.getElem_take
    rw [this] at he
    have e2 : l.getD k dO = l[k] := by simp [hk]
    rw [he, ← e2]
  have := (List.pairwise_iff_getElem.1 hnd) i k (by simp; omega) (by simpa using hk) hi'
  simp at this
  exact this e1
theorem okM.put {l : List OneR} {k j : Nat} {m : List Plc} (h : okM l k m) (hk : k < l.length) (h0 : (l.getD k dO).2 ≠ 0) (hj : j ≤ m.length) (hr : Rising (insAt m j (l.getD k dO).1)) : okM l (k + 1) (insAt m j (l.getD k dO).1) := by
  refine ⟨hr, by have := h.2.1; rw [insAt_length m j hj]; omega, fun x => ?_⟩
  have e2 : l.getD k dO = l[k] := by simp [hk]
  rw [mem_insAt, h.2.2 x, List.take_succ_eq_append_getElem hk, e2]
  rw [e2] at h0
  constructor
  · rintro (rfl | ⟨v, hv, hne⟩)
    · exact ⟨l[k].2, List.mem_append.2 (.inr (List.mem_singleton.2 rfl)), h0⟩
    · exact ⟨v, List.mem_append.2 (.inl hv), hne⟩
  · rintro ⟨v, hv, hne⟩
    rcases List.mem_append.1 hv with hv | hv
    · exact .inr ⟨v, hv, hne⟩
    · exact .inl (by rw [← List.mem_singleton.1 hv])

set_option maxRecDepth 100000 in
set_option maxHeartbeats 6400000 in
theorem refPlaces_any {u : Nat} {F : Nat → Prop} {l : List OneR} {w : World} (hl : l.length ≤ 1000000) (hnd : (l.map (·.1)).Nodup) (hU : IsU w u F l) :
    Calls Tryz.prog 49 #[.pointer (some ⟨u, 0, none⟩)] w fun e w' => ∃ m v, e = .returned v ∧ PlacesOf (getL l) m ∧ m.length ≤ l.length ∧ w'.ownsRow w.heap.size 37 3 v m.length (flatP m) ∧ Below w.heap.size w w' := by
  obtain ⟨A, cap, hblk, hown, hsep, hF⟩ := hU.full
  have hrow := ownsRow_words hown
  have hul := hblk.1
  obtain ⟨i0, hi, hz0, hz1, hz2⟩ := info_parts infoPlace
  have HROW := Lib.hid hrow
  have HB : Hid (∀ w', Below w.heap.size w w' → ∀ i, w'.cell? ⟨u, i, none⟩ = [Value.slice A l.length cap][i]?) := Lib.hid fun w' hb i => by rw [hb.cell (p := ⟨u, i, none⟩) hul]; exact hblk.rule i
  clear hrow hblk hown hsep hF
  have hown0 : (w.alloc (.cells #[] 37)).ownsRow w.heap.size 37 3 (.slice (some ⟨w.heap.size, 0, none⟩) 0 0) 0 [] := ⟨rfl, .inr ⟨w.heap.size, 0, #[], rfl, Nat.le_refl _, heap_alloc_new w _, Nat.le_refl _, Nat.zero_le _, rfl, rfl⟩⟩
  have hB0 : Below w.heap.size w (w.alloc (.cells #[] 37)) := (Below.refl _ w).alloc (Nat.le_refl _) _
  go_enter Tryz.func49, Tryz.ntmps49
  go_wp2_with fail
  go_loopw [3, 4] (fun v i wr => ∃ (k : Nat) (m : List Plc), k ≤ l.length ∧ i = .int .i64 k ∧ okM l k m ∧ wr.ownsRow w.heap.size 37 3 v m.length (flatP m) ∧ Below w.heap.size w wr) (fun _ i _ => l.length - (intOf i).toNat)
  case atStart => exact ⟨0, [], by omega, rfl, ⟨List.Pairwise.nil, by simp, by simp⟩, hown0, hB0⟩
  case round =>
    obtain ⟨k, m, hk, rfl, hm, hrw, hBr⟩ := hrel
    have ru := HB.out _ hBr
    clear hown0 hB0
    by_cases hlt : k < l.length
    · rcases HROW.out with h0 | ⟨g, rfl, hgl, hc⟩
      · rw [h0] at hlt; simp at hlt
      obtain ⟨c0, c1, c2, c3⟩ := hc k hlt
      clear hc
      generalize ho : l.getD k dO = o at c0 c1 c2 c3
      obtain ⟨⟨x, y, z⟩, v0⟩ := o
      simp only at c0 c1 c2 c3
      have HC : Hid (∀ w', Below w.heap.size w w' → (w'.cell? ⟨g, k * 4, none⟩ = some (.int .i64 x) ∧ w'.cell? ⟨g, k * 4 + 1, none⟩ = some (.int .i64 y) ∧ w'.cell? ⟨g, k * 4 + 2, none⟩ = some (.int .i64 z) ∧ w'.cell? ⟨g, k * 4 + 3, none⟩ = some (.int .u64 v0))) := Lib.hid fun w' hb => by
        refine ⟨?_, ?_, ?_, ?_⟩
        · rw [hb.cell (p := ⟨g, k * 4, none⟩) hgl]; exact c0
        · rw [hb.cell (p := ⟨g, k * 4 + 1, none⟩) hgl]; exact c1
        · rw [hb.cell (p := ⟨g, k * 4 + 2, none⟩) hgl]; exact c2
        · rw [hb.cell (p := ⟨g, k * 4 + 3, none⟩) hgl]; exact c3
      have HO := Lib.hid ho
      clear c0 c1 c2 c3 ho
      obtain ⟨c0, c1, c2, c3⟩ := HC.out _ hBr
      by_cases hv0 : v0 = 0
      · subst hv0
        go_wp2_with fail
        exact ⟨⟨k + 1, m, by omega, rfl, hm.skip hlt (by rw [HO.out]), hrw, hBr⟩, by simp [intOf]; omega⟩
      · have hml : m.length ≤ k := hm.2.1
        obtain ⟨A3, cap3, rfl⟩ := ownsRow_slice hrw
        obtain ⟨v', w2, hrun, hown2, hgrow, hv'⟩ := run_append_rows (P := Tryz.prog) 115 115 w.heap.size 37 i0 (.agg #[.int .i64 0, .int .i64 0, .int .i64 0]) 3 24 Tryz.underlying115 hi hz0 hz1 hz2 rfl (by decide) _ _ _ _ (hrw.alloc (.cells #[.int .i64 x, .int .i64 y, .int .i64 z] 37)) (some ⟨wr.heap.size, 0, none⟩) 1 1 [.int .i64 x, .int .i64 y, .int .i64 z] rfl
          (.inr ⟨_, rfl, cells_new _ _ _⟩) (by simp [Value.oneCell']) (by simp [maxLen]; omega) (by omega) (by have := hBr.size; simp; omega)
        obtain ⟨b, cap', rfl, hwb, hbl⟩ := hown2.form (by omega)
        have hB2 : Below w.heap.size w w2 := by
          have h1 := hBr.alloc hBr.size (.cells #[.int .i64 x, .int .i64 y, .int .i64 z] 37)
          exact Turn.below h1 (T := fun k => (Value.slice A3 m.length cap3).ownBlock = some k) ⟨hgrow.os, hgrow.tape, hgrow.output, hgrow.size, fun k hk hn => hgrow.block k hk (fun e => hn e.symm)⟩ h1.size fun k hk => (hrw.lt k hk).1
        go_wp2_with (first | (at_builtin; refine wpList_append_run rfl _ _ 115 rfl hrun rfl rfl ?_))
        have hown3 : w2.ownsRow w.heap.size 37 3 (.slice (some ⟨b, 0, none⟩) (m.length + 1) cap') (m.length + 1) (flatP (insAt m m.length (x, y, z))) := by
          have e : flatP (insAt m m.length (x, y, z)) = flatP m ++ [.int .i64 x, .int .i64 y, .int .i64 z] := by unfold insAt; simp [flatP, encP]
          rw [e]; exact hown2
        clear hrun hown2 hgrow hv' hrw c0 c1 c2 c3 ru
        have HM := Lib.hid hm
        clear hm
        go_loopw [5] (fun kk wq => ∃ j : Nat, j ≤ m.length ∧ kk = .int .i64 j ∧ (∀ t ∈ m.drop j, ltOf cmpP (x, y, z) t = true) ∧ wq.ownsRow w.heap.size 37 3 (.slice (some ⟨b, 0, none⟩) (m.length + 1) cap') (m.length + 1) (flatP (insAt m j (x, y, z))) ∧ Below w.heap.size w wq) (fun kk _ => (intOf kk).toNat)
        case atStart => exact ⟨m.length, Nat.le_refl _, by simp, by simp, hown3, hB2⟩
        case round =>
          obtain ⟨j, hj, rfl, hd, ho3, hBq⟩ := hrel
          clear hown3 hB2
          have HC8 : Hid (∀ w6 w7 : World, (w6.ownsRow w.heap.size 37 3 (.slice (some ⟨b, 0, none⟩) (m.length + 1) cap') (m.length + 1) (flatP (insAt m j (x, y, z))) ∧ Below w.heap.size w w6) → Below w6.heap.size w6 w7 → (w7.ownsRow w.heap.size 37 3 (.slice (some ⟨b, 0, none⟩) (m.length + 1) cap') (m.length + 1) (flatP (insAt m j (x, y, z))) ∧ Below w.heap.size w w7)) := Lib.hid fun w6 w7 h hb => ⟨ownsRow_kept h.1 fun k e => hb.block k (h.1.lt k e).2, h.2.trans (hb.mono h.2.size)⟩
          rcases j with _ | j
          · go_wp2_with fail
            refine Ord.wp_chain [] (fun w' => w'.ownsRow w.heap.size 37 3 (.slice (some ⟨b, 0, none⟩) (m.length + 1) cap') (m.length + 1) (flatP (insAt m 0 (x, y, z))) ∧ Below w.heap.size w w') (fun _ _ => True) (by kernel_rfl) (by kernel_rfl) (by kernel_rfl) (And.intro ho3.drew hBq.drew) trivial (fun hT => ?_)
            have hT9 := Lib.hid hT
            clear hT
            repeat (first
              | (refine Ord.ch_value (v := ?_) hT9.out (by decide) (by rfl) ?_ ?_; rotate_left; (focus (intro w5 hS; skip; go_simp <;> with_reducible rfl)); (try simp only [Act.put, List.setIfInBounds_toArray, List.set_cons_zero, List.set_cons_succ]))
              | (refine Ord.ch_off hT9.out (by decide) (by rfl) ?_; (try simp only [Act.put, List.setIfInBounds_toArray, List.set_cons_zero, List.set_cons_succ]))
              | (refine Ord.ch_call (v := ?_) (f := ?_) (args := ?_) hT9.out (by decide) (by rfl) ?_ ?_ ?_; rotate_left 3; (focus (intro w5 hS; skip; go_simp; constructor <;> with_reducible rfl)); (focus (intro w5 hS; (first | fail))); (try simp only [Act.put, List.setIfInBounds_toArray, List.set_cons_zero, List.set_cons_succ])))
            refine Ord.InText.nil fun w5 hS => ?_
            clear hT9
            obtain ⟨hC, hA⟩ := Ord.chain_end hS
            clear hS
            clear hA
            go_wp2_with fail
            have hins := HM.out.put hlt (by rw [HO.out]; exact hv0) hj (by rw [HO.out]; exact rising_insAt HM.out.1 hj (by have := HM.out.new hnd hlt; rwa [HO.out] at this) hd (.inl rfl))
            rw [HO.out] at hins
            exact ⟨⟨k + 1, _, by omega, by simp, hins, by rw [insAt_length m _ hj]; exact hC.1, hC.2⟩, by simp [intOf]; omega⟩
          · have HCELL : Hid (∀ w' : World, w'.ownsRow w.heap.size 37 3 (.slice (some ⟨b, 0, none⟩) (m.length + 1) cap') (m.length + 1) (flatP (insAt m (j + 1) (x, y, z))) →
                (w'.cell? ⟨b, (j + 1) * 3, none⟩ = some (.int .i64 x) ∧ w'.cell? ⟨b, (j + 1) * 3 + 1, none⟩ = some (.int .i64 y) ∧ w'.cell? ⟨b, (j + 1) * 3 + 2, none⟩ = some (.int .i64 z) ∧
                 w'.cell? ⟨b, j * 3, none⟩ = some (.int .i64 (m.getD j z3).1) ∧ w'.cell? ⟨b, j * 3 + 1, none⟩ = some (.int .i64 (m.getD j z3).2.1) ∧ w'.cell? ⟨b, j * 3 + 2, none⟩ = some (.int .i64 (m.getD j z3).2.2))) := Lib.hid fun w' h => by
              have hlen := insAt_length m (j + 1) hj (x, y, z)
              have e1 : ∀ c, c < 3 → w'.cell? ⟨b, (j + 1) * 3 + c, none⟩ = (encP (x, y, z))[c]? := fun c hc => by
                rw [h.cellAt ((j + 1) * 3 + c) (by omega), flatP_get _ _ _ (by omega) hc, insAt_get_self m (j + 1) hj]
              have e2 : ∀ c, c < 3 → w'.cell? ⟨b, j * 3 + c, none⟩ = (encP (m.getD j z3))[c]? := fun c hc => by
                rw [h.cellAt (j * 3 + c) (by omega), flatP_get _ _ _ (by omega) hc, insAt_get_prev m j (by omega)]
              exact ⟨e1 0 (by omega), e1 1 (by omega), e1 2 (by omega), e2 0 (by omega), e2 1 (by omega), e2 2 (by omega)⟩
            obtain ⟨t, ht⟩ : ∃ t, m.getD j z3 = t := ⟨_, rfl⟩
            rw [ht] at HCELL
            obtain ⟨p, q, s⟩ := t
            simp only at HCELL
            have HT := Lib.hid ht
            clear ht
            have q1 : j < m.length := by omega
            have q2 : (0 : Int) ≤ (j : Int) + 1 := by omega
            have q3 : j < m.length + 1 := by omega
            have q4 : j ≤ m.length := by omega
            have q7 : IntKind.i64.wrap (j : Int) = (j : Int) := by rw [IntKind.wrap_i64]; omega
            have q5 : (j : Int) ≤ (m.length : Int) := by omega
            have q6 : (j : Int) < (m.length : Int) + 1 := by omega
            go_wp2_with fail
            refine Ord.wp_chain [] (fun w' => w'.ownsRow w.heap.size 37 3 (.slice (some ⟨b, 0, none⟩) (m.length + 1) cap') (m.length + 1) (flatP (insAt m (j + 1) (x, y, z))) ∧ Below w.heap.size w w') (fun _ _ => True) (by kernel_rfl) (by kernel_rfl) (by kernel_rfl) (And.intro ho3.drew hBq.drew) trivial (fun hT => ?_)
            have hT9 := Lib.hid hT
            clear hT
            repeat (first
              | (refine Ord.ch_value (v := ?_) hT9.out (by decide) (by rfl) ?_ ?_; rotate_left; (focus (intro w5 hS; obtain ⟨c0, c1, c2, c3, c4, c5⟩ := HCELL.out _ hS.1; go_simp <;> with_reducible rfl)); (try simp only [Act.put, List.setIfInBounds_toArray, List.set_cons_zero, List.set_cons_succ]))
              | (refine Ord.ch_off hT9.out (by decide) (by rfl) ?_; (try simp only [Act.put, List.setIfInBounds_toArray, List.set_cons_zero, List.set_cons_succ]))
              | (refine Ord.ch_call (v := ?_) (f := ?_) (args := ?_) hT9.out (by decide) (by rfl) ?_ ?_ ?_; rotate_left 3; (focus (intro w5 hS; obtain ⟨c0, c1, c2, c3, c4, c5⟩ := HCELL.out _ hS.1; go_simp; constructor <;> with_reducible rfl)); (focus (intro w5 hS; (first | (with_reducible refine (less_any _ _ _ _ _ _ _).mono ?_; rintro e w6 ⟨rfl, hb5⟩; constructor; with_reducible rfl; exact ⟨HC8.out _ _ hS hb5, fun _ h => h⟩)))); (try simp only [Act.put, List.setIfInBounds_toArray, List.set_cons_zero, List.set_cons_succ])))
            refine Ord.InText.nil fun w5 hS => ?_
            clear hT9
            obtain ⟨hC, hA⟩ := Ord.chain_end hS
            clear hS
            clear hA
            obtain ⟨c0, c1, c2, c3, c4, c5⟩ := HCELL.out _ hC.1
            by_cases hL : ltOf cmpP (x, y, z) (p, q, s) = true
            · rw [hL]
              have hb5 : b < w5.heap.size := (hC.1.lt b rfl).2
              have hnb : ¬ w5.heap.size = b := by omega
              have hnb' : ¬ b = w5.heap.size := by omega
              have rA : ∀ ob i, (w5.alloc ob).cell? ⟨b, i, none⟩ = w5.cell? ⟨b, i, none⟩ := fun ob i => World.cell?_of_block (Below.heap_alloc _ _ _ hb5)
              have zA : ∀ ob i, (w5.alloc ob).frozen? ⟨b, i, none⟩ = false := fun ob i => (World.frozen?_of_block (Below.heap_alloc _ _ _ hb5)).trans (hC.1.frozenAt i)
              have zW : ∀ i, w5.frozen? ⟨b, i, none⟩ = false := fun i => hC.1.frozenAt i
              go_wp2_with fail
              have hx := insAt_exch m j q1 (x, y, z)
              rw [HT.out] at hx
              simp only at hx
              have hp3 : (j + 1) * 3 = j * 3 + 3 := by omega
              refine ⟨⟨j, by omega, rfl, fun t ht => ?_, ?_, ?_⟩, by simp [intOf]⟩
              · rw [List.drop_eq_getElem_cons q1] at ht
                rcases List.mem_cons.1 ht with rfl | ht
                · have : m[j] = (p, q, s) := by rw [← HT.out]; simp [q1]
                  rw [this]; exact hL
                · exact hd t ht
              · rw [← hx, hp3]
                exact ((((((((hC.1.stored _ _).1).stored _ _).1).stored _ _).1.stored _ _).1.stored _ _).1.stored _ _).1.alloc _
              · exact Turn.below hC.2 (((((((Turn.refl (fun k => k = b) w5).setCell (p := ⟨b, _, none⟩) (fun _ => rfl) _).setCell (p := ⟨b, _, none⟩) (fun _ => rfl) _).setCell (p := ⟨b, _, none⟩) (fun _ => rfl) _).setCell (p := ⟨b, _, none⟩) (fun _ => rfl) _).setCell (p := ⟨b, _, none⟩) (fun _ => rfl) _).setCell (p := ⟨b, _, none⟩) (fun _ => rfl) _ |>.alloc _) hC.2.size fun k hk => by subst hk; exact hwb
            · have hL' : ltOf cmpP (x, y, z) (p, q, s) = false := by simpa using hL
              rw [hL']
              go_wp2_with fail
              have hins := HM.out.put hlt (by rw [HO.out]; exact hv0) hj (by rw [HO.out]; exact rising_insAt HM.out.1 hj (by have := HM.out.new hnd hlt; rwa [HO.out] at this) hd (.inr (by rw [Nat.add_sub_cancel, HT.out]; exact hL')))
              rw [HO.out] at hins
              exact ⟨⟨k + 1, _, by omega, by simp, hins, by rw [insAt_length m _ hj]; exact hC.1, hC.2⟩, by simp [intOf]; omega⟩
    · go_wp2_with fail
      have : k = l.length := by omega
      subst this
      go_ret
      exact ⟨m, _, rfl, ⟨hm.1, fun x => by rw [hm.2.2 x, getL_ne hnd x]; simp⟩, hm.2.1, hrw, hBr⟩
end Go.Proofs.YtmifdkbpbkafjaaGreatDoor

/- The contract of memory: the program's words are the reference's. -/
namespace Go.Proofs.YtmifdkbpbkafjaaGreatDoor
open Go.RowKit Go.Maps
set_option maxRecDepth 100000

section
variable {w0 w : World} {R : List Item} {p c m n : Nat} {G FU : Nat → Prop} {qc : Cnt} {ml : List OneR}
set_option maxHeartbeats 3200000 in
theorem memory_t (hl : ml.length ≤ 900000) (hn : n ≤ 900000) (hE : Env w0 (wbox p c :: cellI c G (getL ml) qc n :: refI m FU ml :: R) w) :
    Calls Tryz.prog 16 #[.pointer (some ⟨p, 0, none⟩), .pointer (some ⟨m, 0, none⟩)] w fun o w' => o = .returned (.bool true) ∧ Env w0 (wbox p c :: cellI c G (getL ml) qc n :: refI m FU ml :: R) w' := by
  go_enter Tryz.func16, Tryz.ntmps16
  go_wp2_with fail
  refine (cells_w 0 1 hE rfl rfl).mono ?_
  rintro o w1 ⟨c2, F2, rfl, hE1⟩
  clear hE
  go_wp2_with fail
  refine (places_any (by omega) (hE1.cell 0 rfl)).mono ?_
  rintro e w5 ⟨v5, m5, rfl, hp5, hr5, hb⟩
  have hE5 := hE1.over hb
  clear hb hE1
  go_wp2_with fail
  refine (refPlaces_any (by omega) (hE5.ref 3 rfl).nodup (hE5.ref 3 rfl)).mono ?_
  rintro e w6 ⟨m6, v6, rfl, hp6, hm6, ho6, hb⟩
  have hE6 := hE5.over hb
  obtain rfl := hp5.eq hp6
  have hr5' := hr5.below hb
  have hr6 := ownsRow_rowP ho6
  have hwf : ∀ x ∈ m5, Wf x := fun x hx => Classical.byContradiction fun h => ((hp5.2 x).1 hx) ((hE6.cell 2 rfl).words.out x h)
  have hm5 : m5.length ≤ 900000 := by omega
  obtain ⟨A1, cp1, rfl⟩ := hr5'.len
  obtain ⟨A2, cp2, rfl⟩ := hr6.len
  have H1 := Lib.hid hr5'
  have H2 := Lib.hid hr6
  have HWF := Lib.hid hwf
  clear hb hE5 hp5 hp6 hr5 ho6 hm6 hr5' hr6 hwf
  go_wp2_with fail
  go_loopw [7] (fun i wr => ∃ k : Nat, k ≤ m5.length ∧ i = .int .i64 k ∧ Env w0 (cellI c2 F2 (getL ml) ⟨0, 0, 0, 0, 0⟩ n :: wbox p c :: cellI c G (getL ml) qc n :: refI m FU ml :: R) wr ∧ Below w6.heap.size w6 wr) (fun i _ => m5.length - (intOf i).toNat)
  case atStart => exact ⟨0, Nat.zero_le _, rfl, hE6, Below.refl _ _⟩
  case round =>
    clear hE6
    obtain ⟨k, hk, rfl, hEr, hB⟩ := hrel
    by_cases hlt : k < m5.length
    · have hb1 : decide ((k : Int) < (m5.length : Int)) = true := by simp; omega
      have hlti : (k : Int) < (m5.length : Int) := by omega
      rcases H1.out with ⟨h0, _⟩ | ⟨g1, cap1, e1, hg1, hc1⟩
      · rw [h0] at hlt; simp at hlt
      rcases H2.out with ⟨h0, _⟩ | ⟨g2, cap2, e2, hg2, hc2⟩
      · rw [h0] at hlt; simp at hlt
      simp only [Value.slice.injEq] at e1 e2
      obtain ⟨rfl, -, rfl⟩ := e1
      obtain ⟨rfl, -, rfl⟩ := e2
      obtain ⟨a0, a1, a2⟩ := hc1 k hlt
      obtain ⟨b0, b1, b2⟩ := hc2 k hlt
      have hx := HWF.out (m5.getD k z3) (by rw [List.getD_eq_getElem?_getD, List.getElem?_eq_getElem hlt]; exact List.getElem_mem hlt)
      clear hc1 hc2
      generalize m5.getD k z3 = o at a0 a1 a2 b0 b1 b2 hx
      obtain ⟨x, y, z⟩ := o
      simp only at a0 a1 a2 b0 b1 b2
      obtain ⟨v, hv⟩ : ∃ v, getL ml (x, y, z) = v := ⟨_, rfl⟩
      have HC : Hid (∀ w', (Env w0 (cellI c2 F2 (getL ml) ⟨0, 0, 0, 0, 0⟩ n :: wbox p c :: cellI c G (getL ml) qc n :: refI m FU ml :: R) w' ∧ Below w6.heap.size w6 w') → (w'.cell? ⟨g1, k * 3, none⟩ = some (.int .i64 x) ∧ w'.cell? ⟨g1, k * 3 + 1, none⟩ = some (.int .i64 y) ∧ w'.cell? ⟨g1, k * 3 + 2, none⟩ = some (.int .i64 z) ∧
          w'.cell? ⟨g2, k * 3, none⟩ = some (.int .i64 x) ∧ w'.cell? ⟨g2, k * 3 + 1, none⟩ = some (.int .i64 y) ∧ w'.cell? ⟨g2, k * 3 + 2, none⟩ = some (.int .i64 z))) := Lib.hid fun w' hb => by
        refine ⟨?_, ?_, ?_, ?_, ?_, ?_⟩
        · rw [hb.2.cell (p := ⟨g1, k * 3, none⟩) hg1]; exact a0
        · rw [hb.2.cell (p := ⟨g1, k * 3 + 1, none⟩) hg1]; exact a1
        · rw [hb.2.cell (p := ⟨g1, k * 3 + 2, none⟩) hg1]; exact a2
        · rw [hb.2.cell (p := ⟨g2, k * 3, none⟩) hg2]; exact b0
        · rw [hb.2.cell (p := ⟨g2, k * 3 + 1, none⟩) hg2]; exact b1
        · rw [hb.2.cell (p := ⟨g2, k * 3 + 2, none⟩) hg2]; exact b2
      have HPK : Hid (∀ w', (Env w0 (cellI c2 F2 (getL ml) ⟨0, 0, 0, 0, 0⟩ n :: wbox p c :: cellI c G (getL ml) qc n :: refI m FU ml :: R) w' ∧ Below w6.heap.size w6 w') → Calls Tryz.prog 23 #[.pointer (some ⟨p, 0, none⟩), .agg #[.int .i64 x, .int .i64 y, .int .i64 z]] w' fun e v' => e = .returned (.int .u64 v) ∧ Below w'.heap.size w' v') := Lib.hid fun w' hb => by
        rw [← hv]
        exact peek_w x y z hx 1 2 hb.1 rfl rfl
      have HGT : Hid (∀ w', (Env w0 (cellI c2 F2 (getL ml) ⟨0, 0, 0, 0, 0⟩ n :: wbox p c :: cellI c G (getL ml) qc n :: refI m FU ml :: R) w' ∧ Below w6.heap.size w6 w') → Calls Tryz.prog 50 #[.pointer (some ⟨m, 0, none⟩), .agg #[.int .i64 x, .int .i64 y, .int .i64 z]] w' fun e v' => e = .returned (.int .u64 v) ∧ Below w'.heap.size w' v') := Lib.hid fun w' hb => by
        rw [← hv]
        exact refGet_any x y z (by omega) (hb.1.ref 3 rfl)
      clear a0 a1 a2 b0 b1 b2 hv hx
      go_wp2_with fail
      refine wp_text (S := (fun w' => Env w0 (cellI c2 F2 (getL ml) ⟨0, 0, 0, 0, 0⟩ n :: wbox p c :: cellI c G (getL ml) qc n :: refI m FU ml :: R) w' ∧ Below w6.heap.size w6 w')) (by kernel_rfl) (by kernel_rfl) ⟨hEr.drew, hB.drew⟩ (fun hT => ?_)
      have hT9 := Lib.hid hT
      clear hT
      repeat (first
        | (refine text_value (v := ?_) hT9.out (by rfl) ?_ ?_; rotate_left; (focus (intro w5 hS; obtain ⟨a0, a1, a2, b0, b1, b2⟩ := HC.out _ hS; go_simp <;> with_reducible rfl)); (try simp only [Act.put, List.setIfInBounds_toArray, List.set_cons_zero, List.set_cons_succ]))
        | (refine text_off hT9.out (by rfl) ?_; (try simp only [Act.put, List.setIfInBounds_toArray, List.set_cons_zero, List.set_cons_succ]))
        | (refine text_call (v := ?_) (f := ?_) (args := ?_) hT9.out (by rfl) ?_ ?_ ?_; rotate_left 3; (focus (intro w5 hS; obtain ⟨a0, a1, a2, b0, b1, b2⟩ := HC.out _ hS; go_simp; constructor <;> with_reducible rfl)); (focus (intro w5 hS; (first | (with_reducible refine (HPK.out _ hS).mono ?_; rintro o w8 ⟨rfl, hb5⟩; constructor; with_reducible rfl; exact ⟨hS.1.over hb5, hS.2.trans (hb5.mono hS.2.size)⟩) | (with_reducible refine (HGT.out _ hS).mono ?_; rintro o w8 ⟨rfl, hb5⟩; constructor; with_reducible rfl; exact ⟨hS.1.over hb5, hS.2.trans (hb5.mono hS.2.size)⟩)))); (try simp only [Act.put, List.setIfInBounds_toArray, List.set_cons_zero, List.set_cons_succ])))
      refine InText.nil fun w5 hS5 => ?_
      clear hT9
      clear hEr hB HC HPK HGT
      go_wp2_with fail
      exact ⟨⟨k + 1, by omega, by simp, hS5⟩, by simp [intOf]; omega⟩
    · have hb1 : decide ((k : Int) < (m5.length : Int)) = false := by simp; omega
      go_wp2_with fail
      go_ret
      exact ⟨rfl, hEr.sub (.cons _ (List.Sublist.refl _))⟩
end
end Go.Proofs.YtmifdkbpbkafjaaGreatDoor

/- Whatever comes to numbers, bools, structs and rows of such: what its cells hold, rows within rows too. General. -/
namespace Go.Proofs.YtmifdkbpbkafjaaGreatDoor
open Go.RowKit Go.WideShapes Go.ChangeShapes Go.ChangeAt Go.Deep
set_option maxRecDepth 100000

/-- Types that this reads. -/
def plainT (P : Program) : Nat → TypeId → Bool
  | 0, _ => false
  | d + 1, t =>
    match P.underlying t with
    | some .bool => true
    | some (.int _) => true
    | some (.struct fs) => fs.toList.all fun f => plainT P d f.type
    | some (.slice e) => plainT P d e && decide (0 < P.cellsOf e)
    | _ => false
/-- The cells cs are a value of type t, and so is whatever they lead to. -/
def Good (P : Program) (w : World) : Nat → TypeId → List Value → Prop
  | 0, _, _ => False
  | d + 1, t, cs =>
    match P.underlying t with
    | some .bool => ∃ b, cs = [.bool b]
    | some (.int k) => ∃ n, cs = [.int k n] ∧ (Lit.int k n).wf = true
    | some (.struct fs) => cs.length = P.cellsOf t ∧ ∀ f ∈ fs.toList, Good P w d f.type ((cs.drop f.offset).take (P.cellsOf f.type))
    | some (.slice e) => ∃ A len cap, cs = [.slice A len cap] ∧ len ≤ maxLen ∧ (len = 0 ∨ ∃ b off, A = some ⟨b, off, none⟩ ∧ b < w.heap.size ∧ ∀ i, i < len → ∃ us : List Value, us.length = P.cellsOf e ∧ CellsAt w b (off + i * P.cellsOf e) us ∧ Good P w d e us)
    | _ => False

section
variable {H : Type} {enc : TypeId × Value → H} {P : Program} {w : World} {held : Bool}
theorem good_of_trod : ∀ (d : Nat) {t : TypeId} {fuel : Nat} {cs : List Value} {x : DataW H × List MemPlace}, plainT P d t = true → DataW.trod enc P w 0 (fun _ => true) held fuel t cs = some x → (∀ p ∈ x.2, p.block < w.heap.size) → Good P w d t cs
  | 0, _, _, _, _, h, _, _ => by simp [plainT] at h
  | d + 1, t, fuel, cs, x, h, hx, hlt => by
    unfold plainT at h
    unfold Good
    split at h
    · rename_i hu
      obtain ⟨b, rfl, _⟩ := DataW.trod_bool hu hx
      try rw [hu]
      exact ⟨b, rfl⟩
    · rename_i k hu
      obtain ⟨n, rfl, _, hw⟩ := DataW.trod_int hu hx
      try rw [hu]
      exact ⟨n, rfl, hw⟩
    · rename_i fs hu
      obtain ⟨xs, n, _, rfl, hl, hlen, hall⟩ := DataW.trod_struct hu hx
      try rw [hu]
      refine ⟨hl, fun f hf => ?_⟩
      obtain ⟨i, hi, he⟩ := List.getElem_of_mem hf
      have hi' : i < fs.size := by simpa using hi
      have h1 := hall i f (by simp [hi']; simpa using he)
      have hix : i < xs.length := by omega
      rw [List.getElem?_eq_getElem hix] at h1
      exact good_of_trod d (List.all_eq_true.1 h f hf) h1 fun p hp => hlt p (List.mem_flatMap.2 ⟨xs[i], List.getElem_mem hix, hp⟩)
    · rename_i e hu
      rw [Bool.and_eq_true, decide_eq_true_iff] at h
      obtain ⟨h1, h0⟩ := h
      try rw [hu]
      rcases open_slice hu hx with ⟨rfl, _⟩ | ⟨a, len, cap, m, n, D, Pl, rfl, _, hl, hm, hmm, rfl, hall⟩
      · exact ⟨none, 0, 0, rfl, Nat.zero_le _, .inl rfl⟩
      · simp only [if_true] at hmm
        subst hmm
        refine ⟨some a, len, m, rfl, by omega, ?_⟩
        by_cases hz : len = 0
        · exact .inl hz
        · right
          have each : ∀ i, i < m → ∃ us : List Value, us.length = P.cellsOf e ∧ (∀ j v, us[j]? = some v → w.cell? (a.add (i * P.cellsOf e + j)) = some v) ∧ Good P w d e us := fun i hi => by
            obtain ⟨cs', h2, h3⟩ := hall i hi
            obtain ⟨_, hlen, hcell⟩ := World.cells?_some h2
            refine ⟨cs', hlen, fun j v hj => ?_, good_of_trod d h1 h3 fun p hp => hlt p (List.mem_append_right _ (List.mem_flatMap.2 ⟨i, by simpa using hi, hp⟩))⟩
            have hjl : j < P.cellsOf e := by have := (List.getElem?_eq_some_iff.1 hj).1; omega
            have := hcell j hjl
            rw [add_add, hj] at this
            exact this
          obtain ⟨b, off, spot⟩ := a
          have hspot : spot = none := by
            obtain ⟨us, hl', hc, _⟩ := each 0 (by omega)
            have := hc 0 (us[0]'(by omega)) (by simp)
            simpa [Addr.add] using World.cell?_spot this
          subst hspot
          refine ⟨b, off, rfl, hlt (.cell b off) (List.mem_append_left _ (MemPlace.mem_row.2 ⟨0, Nat.mul_pos (by omega) h0, by simp⟩)), fun i hi => ?_⟩
          obtain ⟨us, h4, h5, h6⟩ := each i (by omega)
          refine ⟨us, h4, fun j v hj => ?_, h6⟩
          have := h5 j v hj
          rw [add_plain] at this
          rw [Nat.add_assoc]; exact this
    · cases h
end

/-- A row within: its elements, decoded. -/
theorem Good.row {α : Type} [Inhabited α] {enc : α → List Value} {Ok : α → Prop} {P : Program} {w : World} {t e : TypeId} {d : Nat} {cs : List Value} (ht : P.underlying t = some (.slice e)) (h : Good P w (d + 1) t cs)
    (hdec : ∀ us, us.length = P.cellsOf e → Good P w d e us → ∃ r : α, enc r = us ∧ Ok r) :
    ∃ A cap, ∃ xs : List α, cs = [.slice A xs.length cap] ∧ xs.length ≤ maxLen ∧ (∀ r ∈ xs, Ok r) ∧ RowX enc (P.cellsOf e) w A xs := by
  unfold Good at h
  rw [ht] at h
  obtain ⟨A, len, cap, rfl, hm, hz | ⟨b, off, rfl, hb, hall⟩⟩ := h
  · subst hz
    exact ⟨A, cap, [], rfl, hm, by simp, .inl rfl⟩
  · have each : ∀ i, i < len → ∃ r : α, CellsAt w b (off + i * P.cellsOf e) (enc r) ∧ Ok r := fun i hi => by
      obtain ⟨us, h1, h2, h3⟩ := hall i hi
      obtain ⟨r, rfl, hr⟩ := hdec us h1 h3
      exact ⟨r, h2, hr⟩
    obtain ⟨f, hf⟩ := choose_lt each
    refine ⟨some ⟨b, off, none⟩, cap, (List.range len).map f, by simp, by simpa using hm, fun r hr => ?_, ?_⟩
    · obtain ⟨i, hi, rfl⟩ := List.mem_map.1 hr
      exact (hf i (by simpa using hi)).2
    · refine .inr ⟨b, off, rfl, hb, fun i hi => ?_⟩
      have hi' : i < len := by simpa using hi
      have e : ((List.range len).map f).getD i default = f i := by simp [hi']
      rw [e]
      exact (hf i hi').1
/-- A row that came in, whatever its elements lead to. -/
theorem open_rowG {α : Type} [Inhabited α] {enc : α → List Value} {Ok : α → Prop} {P : Program} {H : Type} {en : TypeId × Value → H} {W : World} {t e : TypeId} {d : Nat} {A : Option Addr} {len cap : Nat} {dt : DataW H} {p : List MemPlace}
    (ht : P.underlying t = some (.slice e)) (hpl : plainT P (d + 1) t = true)
    (hdec : ∀ us, us.length = P.cellsOf e → Good P W d e us → ∃ r : α, enc r = us ∧ Ok r)
    (h : DataW.Trod en P W 0 (fun _ => true) true t (.slice A len cap) dt p) (hlt : ∀ x ∈ p, x.block < W.heap.size) :
    ∃ xs : List α, xs.length = len ∧ len ≤ maxLen ∧ (∀ r ∈ xs, Ok r) ∧ RowX enc (P.cellsOf e) W A xs := by
  obtain ⟨fuel, hf⟩ := h
  have hg := good_of_trod (d + 1) hpl hf hlt
  obtain ⟨A', cap', xs, he, h1, h2, h3⟩ := hg.row ht hdec
  simp only [Value.cells, List.cons.injEq, Value.slice.injEq, and_true] at he
  obtain ⟨rfl, rfl, rfl⟩ := he
  exact ⟨xs, rfl, h1, h2, h3⟩
/-- A number, a bool within. -/
theorem Good.int {P : Program} {w : World} {t : TypeId} {k : IntKind} {d : Nat} {cs : List Value} (ht : P.underlying t = some (.int k)) (h : Good P w (d + 1) t cs) : ∃ n, cs = [.int k n] ∧ (Lit.int k n).wf = true := by
  unfold Good at h; rw [ht] at h; exact h
theorem Good.bool {P : Program} {w : World} {t : TypeId} {d : Nat} {cs : List Value} (ht : P.underlying t = some .bool) (h : Good P w (d + 1) t cs) : ∃ b, cs = [.bool b] := by
  unfold Good at h; rw [ht] at h; exact h
theorem Good.struct {P : Program} {w : World} {t : TypeId} {fs : Array Field} {d : Nat} {cs : List Value} (ht : P.underlying t = some (.struct fs)) (h : Good P w (d + 1) t cs) : cs.length = P.cellsOf t ∧ ∀ f ∈ fs.toList, Good P w d f.type ((cs.drop f.offset).take (P.cellsOf f.type)) := by
  unfold Good at h; rw [ht] at h; exact h
end Go.Proofs.YtmifdkbpbkafjaaGreatDoor

/- Rows of rows of deeds that came in. -/
namespace Go.Proofs.YtmifdkbpbkafjaaGreatDoor
open Go.RowKit Go.Maps Go.Deep
set_option maxRecDepth 100000

def OkRw (W : World) (r : Rw) : Prop := r.ds.length ≤ maxLen ∧ (∀ d ∈ r.ds, InU d.key ∧ InU d.val) ∧ RowX encD 5 W r.A r.ds
theorem cellsIntA : Tryz.prog.cellsOf 3 = 1 := by kernel_rfl
theorem cellsU64A : Tryz.prog.cellsOf 39 = 1 := by kernel_rfl
theorem cellsOpA : Tryz.prog.cellsOf 75 = 4 := by kernel_rfl
theorem cellsDdA : Tryz.prog.cellsOf 77 = 5 := by kernel_rfl
theorem cellsRwA : Tryz.prog.cellsOf 50 = 1 := by kernel_rfl
theorem dec_Dd (W : World) (us : List Value) (hl : us.length = Tryz.prog.cellsOf 77) (h : Good Tryz.prog W 5 77 us) : ∃ r : Dd, encD r = us ∧ (InU r.key ∧ InU r.val) := by
  rw [cellsDdA] at hl
  match us, hl with
  | [u0, u1, u2, u3, u4], _ =>
    obtain ⟨_, hf⟩ := Good.struct Tryz.underlying77 h
    have h0 := hf _ (List.Mem.head _)
    have h1 := hf _ (List.Mem.tail _ (List.Mem.head _))
    simp only [cellsIntA, cellsOpA, List.drop_zero, List.drop_succ_cons, List.take_succ_cons, List.take_zero] at h0 h1
    obtain ⟨_, hg⟩ := Good.struct Tryz.underlying75 h1
    have g0 := hg _ (List.Mem.head _)
    have g1 := hg _ (List.Mem.tail _ (List.Mem.head _))
    have g2 := hg _ (List.Mem.tail _ (List.Mem.tail _ (List.Mem.head _)))
    have g3 := hg _ (List.Mem.tail _ (List.Mem.tail _ (List.Mem.tail _ (List.Mem.head _))))
    simp only [cellsIntA, cellsU64A, List.drop_zero, List.drop_succ_cons, List.take_succ_cons, List.take_zero] at g0 g1 g2 g3
    obtain ⟨n0, e0, _⟩ := Good.int Tryz.underlying3 h0
    obtain ⟨n1, e1, _⟩ := Good.int Tryz.underlying3 g0
    obtain ⟨n2, e2, w2⟩ := Good.int Tryz.underlying39 g1
    obtain ⟨n3, e3, w3⟩ := Good.int Tryz.underlying39 g2
    obtain ⟨n4, e4, _⟩ := Good.int Tryz.underlying3 g3
    simp only [List.cons.injEq, and_true] at e0 e1 e2 e3 e4
    exact ⟨⟨n0, n1, n2, n3, n4⟩, by rw [e0, e1, e2, e3, e4]; rfl, u64_in w2, u64_in w3⟩
theorem dec_Rw (W : World) (us : List Value) (_ : us.length = Tryz.prog.cellsOf 50) (h : Good Tryz.prog W 6 50 us) : ∃ r : Rw, encRw r = us ∧ OkRw W r := by
  obtain ⟨A, cap, xs, e, h1, h2, h3⟩ := Good.row Tryz.underlying50 h (dec_Dd W)
  rw [cellsDdA] at h3
  exact ⟨⟨A, cap, xs⟩, e.symm, h1, h2, h3⟩
theorem plainRws : plainT Tryz.prog 7 24 = true := by kernel_rfl
theorem open_Rws {H : Type} {en : TypeId × Value → H} {W : World} {A : Option Addr} {len cap : Nat} {d : DataW H} {p : List MemPlace}
    (h : DataW.Trod en Tryz.prog W 0 (fun _ => true) true 24 (.slice A len cap) d p) (hlt : ∀ x ∈ p, x.block < W.heap.size) :
    ∃ xs : List Rw, xs.length = len ∧ len ≤ maxLen ∧ (∀ r ∈ xs, OkRw W r) ∧ RowX encRw 1 W A xs := by
  obtain ⟨xs, h1, h2, h3, h4⟩ := open_rowG (d := 6) Tryz.underlying24 plainRws (dec_Rw W) h hlt
  rw [cellsRwA] at h4
  exact ⟨xs, h1, h2, h3, h4⟩
end Go.Proofs.YtmifdkbpbkafjaaGreatDoor

/- Allocs: the program is awake. -/
namespace Go.Proofs.YtmifdkbpbkafjaaGreatDoor
open Go.RowKit Go.Maps
set_option maxRecDepth 100000

theorem list14 (s : Int) (w : World) : Calls Tryz.prog 29 #[.int .i64 s] w fun o w' => o = .returned (.agg #[.int .i64 1, .int .i64 s, .int .i64 0, .int .i64 1, .int .i64 100]) ∧ Below w.heap.size w w' := by
  go_enter Tryz.func29, Tryz.ntmps29
  go_wp2
  exact bodyPost_ret (v := .agg #[.int .i64 1, .int .i64 s, .int .i64 0, .int .i64 1, .int .i64 100]) (by simp [results, Tryz.results29, go_sem]) rfl ⟨rfl, (Below.refl _ _).alloc (Nat.le_refl _) _⟩

set_option maxHeartbeats 3200000 in
theorem awake14 (w : World) (hg : Glo w) : Calls Tryz.prog 7 #[] w fun o w' => o = .returned (.bool true) ∧ Below w.heap.size w w' := by
  have hE := Env.start w
  have hM : ∀ k : Nat, k ≤ 100 → k < maxLen := fun k hk => by unfold maxLen; omega
  have HM := Lib.hid hM
  have HC4 := Lib.hid (show chkI 1 4 0 1 100 = 0 by decide)
  have HG := Lib.hid hg
  clear hM hg
  go_enter Tryz.func7, Tryz.ntmps7
  go_wp2_with fail
  refine (new_w hE).mono ?_
  rintro o w1 ⟨p, cc, rfl, hE, hb⟩
  clear hb
  go_wp2_with fail
  refine (start_w 0 1 (by decide) (HM.out _ (by omega)) hE rfl rfl).mono ?_
  rintro o w2 ⟨rfl, F2, hE⟩
  simp only [List.set_cons_succ, List.set_cons_zero] at hE
  go_wp2_with fail
  refine (list14 4 _).mono ?_
  rintro o w3 ⟨rfl, hb⟩
  replace hE := hE.over hb
  clear hb
  go_wp2_with fail
  refine (newYes_c 1 4 0 1 100 HC4.out hE).mono ?_
  rintro o w4 ⟨c, q, F, rfl, hE⟩
  go_wp2_with fail
  refine (check_w 1 (upd_same _ _ _) 0 2 3 (by decide) (by decide) hE rfl rfl rfl).mono ?_
  rintro o w5 ⟨rfl, hE⟩
  simp only [List.set_cons_succ, List.set_cons_zero] at hE
  rw [show epI 1 = 1 by decide] at hE
  generalize hf5 : upd (fun _ => 0) (1, 0, 0) 1 = f5 at hE
  have HF5 := Lib.hid hf5
  clear hf5
  generalize hq5 : ({ l := _, s := _, w := _, f := _, a := _ } : Cnt) = q5 at hE
  clear hq5
  go_wp2_with fail
  refine (new_a (S := { c := c, q := q, p := p, cc := cc, ck := 1, cs := 4, cb := 0, ch := 1, cl := 100, ce := 1, cr := 0, hs := 0, F := F, ql := [], kq := 2, G := F2, f := f5, qc := q5, m := 0 + 1 }) _ 9 _ _ rfl hE).mono ?_
  rintro o w6 (⟨h, -⟩ | ⟨-, a, rfl, hE⟩)
  · exact absurd (show (2 : Nat) = 0 from h) (by decide)
  replace hE : Env w (boxI a (av c { nx := nxA a 2, left := .slice none 0 0, k := 1, key := 9, val := 0, lv := 0, h := 0, n := 0, r := 0, s := 0 }) :: LT { c := c, q := q, p := p, cc := cc, ck := 1, cs := 4, cb := 0, ch := 1, cl := 100, ce := 1, cr := 0, hs := 0, F := F, ql := [], kq := 2, G := F2, f := f5, qc := q5, m := 0 + 1 } []) w6 := hE
  have h30 : f5 (3, 0, 0) = 0 := by rw [← HF5.out]; simp [upd]
  have H30 := Lib.hid h30
  clear h30
  go_wp2_with fail
  refine wp_loop_rounds 5 ?_
  rw [rounds_succ]
  go_wp2_with fail
  refine (step_ay (S := { c := c, q := q, p := p, cc := cc, ck := 1, cs := 4, cb := 0, ch := 1, cl := 100, ce := 1, cr := 0, hs := 0, F := F, ql := [], kq := 2, G := F2, f := f5, qc := q5, m := 0 + 1 }) (M := { nx := nxA a 2, left := .slice none 0 0, k := 1, key := 9, val := 0, lv := 0, h := 0, n := 0, r := 0, s := 0 }) 2 _ hE rfl (freshYes_a (S := { c := c, q := q, p := p, cc := cc, ck := 1, cs := 4, cb := 0, ch := 1, cl := 100, ce := 1, cr := 0, hs := 0, F := F, ql := [], kq := 2, G := F2, f := f5, qc := q5, m := 0 + 1 }) (M := { nx := nxA a 2, left := .slice none 0 0, k := 1, key := 9, val := 0, lv := 0, h := 0, n := 0, r := 0, s := 0 }) 0 H30.out (by simp) (by decide) (show (0 : Int) < 4 by decide) (show (4 : Int) ≤ 9223372036854775806 by decide) (HM.out 1 (by omega)) hE)).mono ?_
  rintro o w7 ⟨rfl, nx, k7, F7, G7, hnx, -, hE7⟩
  rw [show nx = nxA a 10 from hnx (show (10 : Nat) ≠ 0 by decide)] at hE7
  clear hnx
  rw [show decS ([] ++ [((0 : Int) + 1, (0 : Int), (0 : Int))]) 1 100 = 0 from rfl]
  generalize hf : upd f5 (3, 0, 0) (IntKind.u64.wrap (0 + 1)) = f7 at *
  have HF7 := Lib.hid hf
  clear hf
  generalize hq : ({ l := _, s := _, w := _, f := _, a := _ } : Cnt) = q7 at hE7
  clear hq
  replace hE7 : Env w (boxI a (av c { nx := nxA a 10, left := .slice none 0 0, k := 1, key := 9, val := 0, lv := 0, h := 0, n := 0, r := 0, s := 0 }) :: LT { c := c, q := q, p := p, cc := cc, ck := 1, cs := 4, cb := 0, ch := 1, cl := 100, ce := 1, cr := 0, hs := 0, F := F7, ql := [(1, 0, 0)], kq := k7, G := G7, f := f7, qc := q7, m := 2 } []) w7 := hE7
  go_wp2_with fail
  rw [rounds_succ]
  go_wp2_with fail
  refine (step_ay (S := { c := c, q := q, p := p, cc := cc, ck := 1, cs := 4, cb := 0, ch := 1, cl := 100, ce := 1, cr := 0, hs := 0, F := F7, ql := [(1, 0, 0)], kq := k7, G := G7, f := f7, qc := q7, m := 2 }) (M := { nx := nxA a 10, left := .slice none 0 0, k := 1, key := 9, val := 0, lv := 0, h := 0, n := 0, r := 0, s := 0 }) 10 _ hE7 rfl (birth_a (S := { c := c, q := q, p := p, cc := cc, ck := 1, cs := 4, cb := 0, ch := 1, cl := 100, ce := 1, cr := 0, hs := 0, F := F7, ql := [(1, 0, 0)], kq := k7, G := G7, f := f7, qc := q7, m := 2 }) (M := { nx := nxA a 10, left := .slice none 0 0, k := 1, key := 9, val := 0, lv := 0, h := 0, n := 0, r := 0, s := 0 }) 1 0 [] rfl (show (1 : Int) ≤ 1 ∧ (1 : Int) ≤ 4 by decide) (show (4 : Int) ≤ 9223372036854775806 by decide) rfl (show (0 : Int) ≤ 1 ∧ (1 : Int) ≤ 9223372036854775807 by decide) (HM.out 2 (by omega)) hE7)).mono ?_
  rintro o w8 ⟨rfl, g, cg, G8, hcg, hE8⟩
  generalize hf : upd f7 (5, 1, 0) 1 = f8 at *
  have HF8 := Lib.hid hf
  clear hf
  generalize hq : ({ l := _, s := _, w := _, f := _, a := _ } : Cnt) = q8 at hE8
  clear hq
  replace hcg : 3 ≤ cg := hcg
  replace hE8 : Env w (boxI a (av c { nx := nxA a 11, left := .slice (some ⟨g, 2, none⟩) 2 (cg - 1), k := 1, key := 9, val := 0, lv := 0, h := 0, n := 0, r := 0, s := 1 }) :: LT { c := c, q := q, p := p, cc := cc, ck := 1, cs := 4, cb := 0, ch := 1, cl := 100, ce := 1, cr := 0, hs := 1, F := F7, ql := [], kq := k7, G := G8, f := f8, qc := q8, m := 3 } (lieI g (flat2 (wordsA 1 1 9 0 (IntKind.u64.wrap 0))) :: [])) w8 := hE8
  go_wp2_with fail
  rw [rounds_succ]
  go_wp2_with fail
  refine (step_ay (S := { c := c, q := q, p := p, cc := cc, ck := 1, cs := 4, cb := 0, ch := 1, cl := 100, ce := 1, cr := 0, hs := 1, F := F7, ql := [], kq := k7, G := G8, f := f8, qc := q8, m := 3 }) (M := { nx := nxA a 11, left := .slice (some ⟨g, 2, none⟩) 2 (cg - 1), k := 1, key := 9, val := 0, lv := 0, h := 0, n := 0, r := 0, s := 1 }) 11 _ hE8 rfl (store_a (S := { c := c, q := q, p := p, cc := cc, ck := 1, cs := 4, cb := 0, ch := 1, cl := 100, ce := 1, cr := 0, hs := 1, F := F7, ql := [], kq := k7, G := G8, f := f8, qc := q8, m := 3 }) (M := { nx := nxA a 11, left := .slice (some ⟨g, 2, none⟩) 2 (cg - 1), k := 1, key := 9, val := 0, lv := 0, h := 0, n := 0, r := 0, s := 1 }) g 2 1 (cg - 1) 1 0 (by omega) (by unfold In64; decide) (by unfold InU; decide) (show In64 1 by unfold In64; decide) (HM.out 3 (by omega)) rfl rfl rfl hE8)).mono ?_
  rintro o w9 ⟨rfl, nx, left, G9, hnl, hE9⟩
  obtain ⟨rfl, rfl⟩ := hnl (by decide)
  rw [show (if 1 = 0 then (1 : Int) else 0) = 0 from rfl]
  generalize hf : upd f8 (5, 1, 1) 0 = f9 at *
  have HF9 := Lib.hid hf
  clear hf
  generalize hq : ({ l := _, s := _, w := _, f := _, a := _ } : Cnt) = q9 at hE9
  clear hq
  replace hE9 : Env w (boxI a (av c { nx := nxA a 11, left := .slice (some ⟨g, 4, none⟩) 1 (cg - 1 - 1), k := 1, key := 9, val := 0, lv := 0, h := 0, n := 0, r := 0, s := 1 }) :: LT { c := c, q := q, p := p, cc := cc, ck := 1, cs := 4, cb := 0, ch := 1, cl := 100, ce := 1, cr := 0, hs := 1, F := F7, ql := [], kq := k7, G := G9, f := f9, qc := q9, m := 4 } (lieI g (flat2 (wordsA 1 1 9 0 (IntKind.u64.wrap 0))) :: [])) w9 := hE9
  go_wp2_with fail
  rw [rounds_succ]
  go_wp2_with fail
  refine (step_ay (S := { c := c, q := q, p := p, cc := cc, ck := 1, cs := 4, cb := 0, ch := 1, cl := 100, ce := 1, cr := 0, hs := 1, F := F7, ql := [], kq := k7, G := G9, f := f9, qc := q9, m := 4 }) (M := { nx := nxA a 11, left := .slice (some ⟨g, 4, none⟩) 1 (cg - 1 - 1), k := 1, key := 9, val := 0, lv := 0, h := 0, n := 0, r := 0, s := 1 }) 11 _ hE9 rfl (store_a (S := { c := c, q := q, p := p, cc := cc, ck := 1, cs := 4, cb := 0, ch := 1, cl := 100, ce := 1, cr := 0, hs := 1, F := F7, ql := [], kq := k7, G := G9, f := f9, qc := q9, m := 4 }) (M := { nx := nxA a 11, left := .slice (some ⟨g, 4, none⟩) 1 (cg - 1 - 1), k := 1, key := 9, val := 0, lv := 0, h := 0, n := 0, r := 0, s := 1 }) g 4 0 (cg - 1 - 1) 3 9 (by omega) (by unfold In64; decide) (by unfold InU; decide) (show In64 1 by unfold In64; decide) (HM.out 4 (by omega)) rfl rfl rfl hE9)).mono ?_
  rintro o w10 ⟨rfl, nx, left, G10, hnl, hE10⟩
  clear hnl
  rw [show (if 0 = 0 then (1 : Int) else 0) = 1 from rfl]
  generalize hf : upd f9 (5, 1, 3) 9 = f10 at *
  have HF10 := Lib.hid hf
  clear hf
  generalize hq : ({ l := _, s := _, w := _, f := _, a := _ } : Cnt) = q10 at hE10
  clear hq
  replace hE10 := hE10.sub (L' := LT { c := c, q := q, p := p, cc := cc, ck := 1, cs := 4, cb := 0, ch := 1, cl := 100, ce := 1, cr := 0, hs := 1, F := F7, ql := [], kq := k7, G := G10, f := f10, qc := q10, m := 5 } []) (.cons _ (.cons_cons _ (.cons_cons _ (.cons_cons _ (.cons_cons _ (.cons _ (List.Sublist.refl _)))))))
  go_wp2_with fail
  rw [rounds_succ]
  go_wp2_with fail
  refine (held_c (hE10.get 0 rfl)).mono ?_
  rintro o w11 ⟨rfl, hb⟩
  replace hE10 := hE10.over hb
  have hE11 := (hE10.box w11.heap.size rfl [.int .i64 1, .int .i64 0] 67).perm (L' := LT { c := c, q := q, p := p, cc := cc, ck := 1, cs := 4, cb := 0, ch := 1, cl := 100, ce := 1, cr := 0, hs := 1, F := F7, ql := [], kq := k7, G := G10, f := f10, qc := q10, m := 5 } [boxI w11.heap.size [.int .i64 1, .int .i64 0]]) (List.perm_middle (l₁ := [_, _, _, _])).symm
  clear hb hE10
  have rY := hE11.rule 4 rfl
  go_wp2_with fail
  generalize w11.alloc _ = w12 at *
  generalize w11.heap.size = Y at *
  refine (new_r 1 hE11).mono ?_
  rintro o w13 ⟨r, rfl, hE13⟩
  clear rY hE11
  go_wp2_with fail
  refine (step_ry (S := { c := c, q := q, p := p, cc := cc, ck := 1, cs := 4, cb := 0, ch := 1, cl := 100, ce := 1, cr := 0, hs := 1, F := F7, ql := [], kq := k7, G := G10, f := f10, qc := q10, m := 5 }) 0 _ hE13 rfl (loadEpoch_r (S := { c := c, q := q, p := p, cc := cc, ck := 1, cs := 4, cb := 0, ch := 1, cl := 100, ce := 1, cr := 0, hs := 1, F := F7, ql := [], kq := k7, G := G10, f := f10, qc := q10, m := 5 }) 1 (show f10 (1, 0, 0) = 1 by rw [← HF10.out, ← HF9.out, ← HF8.out, ← HF7.out, ← HF5.out]; simp [upd]) hE13)).mono ?_
  rintro o w14 ⟨rfl, hE14⟩
  clear hE13
  generalize hq : ({ l := _, s := _, w := _, f := _, a := _ } : Cnt) = q14 at hE14
  clear hq
  replace hE14 : Env w (boxI r (rtv c (nxR r 1) 1 1) :: LT { c := c, q := q, p := p, cc := cc, ck := 1, cs := 4, cb := 0, ch := 1, cl := 100, ce := 1, cr := 0, hs := 1, F := F7, ql := [], kq := k7, G := G10, f := f10, qc := q14, m := 5 } [boxI Y [.int .i64 1, .int .i64 0]]) w14 := hE14
  go_wp2_with fail
  refine (step_ry (S := { c := c, q := q, p := p, cc := cc, ck := 1, cs := 4, cb := 0, ch := 1, cl := 100, ce := 1, cr := 0, hs := 1, F := F7, ql := [], kq := k7, G := G10, f := f10, qc := q14, m := 5 }) 1 _ hE14 rfl (store_r (S := { c := c, q := q, p := p, cc := cc, ck := 1, cs := 4, cb := 0, ch := 1, cl := 100, ce := 1, cr := 0, hs := 1, F := F7, ql := [], kq := k7, G := G10, f := f10, qc := q14, m := 5 }) (show InU 1 by unfold InU; decide) (show In64 1 by unfold In64; decide) (HM.out 5 (by omega)) (by simp) hE14)).mono ?_
  rintro o w15 ⟨rfl, k15, F15, G15, -, hE15⟩
  clear hE14
  generalize hq : ({ l := _, s := _, w := _, f := _, a := _ } : Cnt) = q15 at hE15
  clear hq
  replace hE15 : Env w (LT { c := c, q := q, p := p, cc := cc, ck := 1, cs := 4, cb := 0, ch := 1, cl := 100, ce := 1, cr := 0, hs := 1, F := F15, ql := [(1, 1, 0)], kq := k15, G := G15, f := (upd f10 (5, 1, 1) 1), qc := q15, m := 6 } [boxI Y [.int .i64 1, .int .i64 0]]) w15 := hE15
  generalize hf15 : upd f10 (5, 1, 1) 1 = f15 at *
  have HF15 := Lib.hid hf15
  clear hf15
  have HP1 : Hid (∀ v, Env w (LT { c := c, q := q, p := p, cc := cc, ck := 1, cs := 4, cb := 0, ch := 1, cl := 100, ce := 1, cr := 0, hs := 1, F := F15, ql := [(1, 1, 0)], kq := k15, G := G15, f := f15, qc := q15, m := 6 } [boxI Y [.int .i64 1, .int .i64 0]]) v → Calls Tryz.prog 23 #[.pointer (some ⟨p, 0, none⟩), .agg #[.int .i64 5, .int .i64 1, .int .i64 3]] v fun e w' => e = .returned (.int .u64 9) ∧ Below v.heap.size v w') := Lib.hid fun v hv => by
    have h := peek_w 5 1 3 (by unfold Wf In64; simp) 2 3 hv rfl rfl
    dsimp only at h
    rw [show f15 (5, 1, 3) = 9 by rw [← HF15.out, ← HF10.out, ← HF9.out, ← HF8.out, ← HF7.out, ← HF5.out]; simp [upd]] at h
    exact h
  have HP2 : Hid (∀ v, Env w (LT { c := c, q := q, p := p, cc := cc, ck := 1, cs := 4, cb := 0, ch := 1, cl := 100, ce := 1, cr := 0, hs := 1, F := F15, ql := [(1, 1, 0)], kq := k15, G := G15, f := f15, qc := q15, m := 6 } [boxI Y [.int .i64 1, .int .i64 0]]) v → Calls Tryz.prog 23 #[.pointer (some ⟨p, 0, none⟩), .agg #[.int .i64 5, .int .i64 1, .int .i64 1]] v fun e w' => e = .returned (.int .u64 1) ∧ Below v.heap.size v w') := Lib.hid fun v hv => by
    have h := peek_w 5 1 1 (by unfold Wf In64; simp) 2 3 hv rfl rfl
    dsimp only at h
    rw [show f15 (5, 1, 1) = 1 by rw [← HF15.out, ← HF10.out, ← HF9.out, ← HF8.out, ← HF7.out, ← HF5.out]; simp [upd]] at h
    exact h
  have HFI : Hid (∀ v, Env w (LT { c := c, q := q, p := p, cc := cc, ck := 1, cs := 4, cb := 0, ch := 1, cl := 100, ce := 1, cr := 0, hs := 1, F := F15, ql := [(1, 1, 0)], kq := k15, G := G15, f := f15, qc := q15, m := 6 } [boxI Y [.int .i64 1, .int .i64 0]]) v → Calls Tryz.prog 35 #[.pointer (some ⟨q, 0, none⟩), .int .i64 1] v fun e w' => e = .returned (.int .i64 0) ∧ Below v.heap.size v w') := Lib.hid fun v hv => find_any (l := [(1, 1, 0)]) 1 (hv.queue 1 rfl)
  replace hE15 : Env w (LT { c := c, q := q, p := p, cc := cc, ck := 1, cs := 4, cb := 0, ch := 1, cl := 100, ce := 1, cr := 0, hs := 1, F := F15, ql := [(1, 1, 0)], kq := k15, G := G15, f := f15, qc := q15, m := 6 } [boxI Y [.int .i64 1, .int .i64 0]]) w15 := hE15
  have rY := hE15.rule 4 rfl
  go_wp2_with (first
    | (with_reducible refine (placeOf_any _ _ _).mono ?_; rintro o w16 ⟨rfl, hb⟩; replace hE15 := hE15.over hb; clear hb rY; have rY := hE15.rule 4 rfl)
    | (with_reducible refine (HP1.out _ hE15).mono ?_; rintro o w16 ⟨rfl, hb⟩; replace hE15 := hE15.over hb; clear hb rY; have rY := hE15.rule 4 rfl)
    | (with_reducible refine (HP2.out _ hE15).mono ?_; rintro o w16 ⟨rfl, hb⟩; replace hE15 := hE15.over hb; clear hb rY; have rY := hE15.rule 4 rfl)
    | (with_reducible refine (HFI.out _ hE15).mono ?_; rintro o w16 ⟨rfl, hb⟩; replace hE15 := hE15.over hb; clear hb rY; have rY := hE15.rule 4 rfl)
    | (refine (queue_c (hE15.get 0 rfl)).mono ?_; rintro o w16 ⟨rfl, rfl⟩))
  go_ret
  exact ⟨ret_bool (by simp), hE15.below⟩
end Go.Proofs.YtmifdkbpbkafjaaGreatDoor

/- What the condition on the package's variables gives: the three fields stand in them; and that the program's own start meets it. -/
namespace Go.Proofs.YtmifdkbpbkafjaaGreatDoor
open Go.ChangeShapes Go.WideShapes Go.ChangeAt Go.RowKit
set_option maxRecDepth 100000

section
variable {P : Program} {w : World}
theorem cell_lt {b o : Nat} {v : Value} (h : w.cell? ⟨b, o, none⟩ = some v) : b < w.heap.size := by
  rcases Nat.lt_or_ge b w.heap.size with h' | h'
  · exact h'
  · simp [World.cell?, Array.getElem?_eq_none h'] at h
/-- The head of a list of laid variables: a struct of two ints. -/
theorem laid_pair {n : String} {g : Nat} {t k : TypeId} {f0 f1 : Field} {a b : Int} {r : List (String × DataW Unit)} {ps : List MemPlace}
    (h : DataW.LaidVars P w ((n, .agg [.lit (.int .i64 a), .lit (.int .i64 b)]) :: r) ps) (hg : P.globalNamed n = some g) (ht : (P.globals[g]?).map (·.type) = some t)
    (hs : P.underlying t = some (.struct #[f0, f1])) (hc : P.cellsOf t = 2) (h0 : f0.offset = 0) (h1 : f1.offset = 1) (hk0 : f0.type = k) (hk1 : f1.type = k) (hk : P.cellsOf k = 1) (hi : P.underlying k = some (.int .i64)) :
    w.cell? ⟨g, 0, none⟩ = some (.int .i64 a) ∧ w.cell? ⟨g, 1, none⟩ = some (.int .i64 b) ∧ ∃ q, DataW.LaidVars P w r q := by
  obtain ⟨g', t', cs, fuel, p, q, hg', ht', hv, hd, hr, -⟩ := h
  obtain rfl := Option.some.inj (hg.symm.trans hg')
  obtain rfl := Option.some.inj (ht.symm.trans ht')
  obtain ⟨xs, m, -, hx, hl, hn, hel⟩ := DataW.trod_struct hs hd
  have e0 := hel 0 f0 rfl
  have e1 := hel 1 f1 rfl
  rw [h0, hk0, hk] at e0
  rw [h1, hk1, hk] at e1
  obtain ⟨l⟩ := cs
  rw [hc] at hl
  match l, hl, xs, hn, hx, e0, e1, hv with
  | [c0, c1], _, [x0, x1], _, hx, e0, e1, hv =>
    simp only [Prod.mk.injEq, List.map_cons, List.map_nil, DataW.agg.injEq, List.cons.injEq] at hx
    obtain ⟨n0, s0, y0, -⟩ := DataW.trod_int hi (show DataW.trod _ P w 0 _ false m k [c0] = some x0 from e0)
    obtain ⟨n1, s1, y1, -⟩ := DataW.trod_int hi (show DataW.trod _ P w 0 _ false m k [c1] = some x1 from e1)
    simp at s0 s1
    subst s0 s1
    have k0 := hx.1.1
    have k1 := hx.1.2.1
    rw [y0] at k0
    rw [y1] at k1
    simp at k0 k1
    subst k0 k1
    exact ⟨by rw [World.var?_cell hg hv 0]; rfl, by rw [World.var?_cell hg hv 1]; rfl, q, hr⟩
end

def laid3 : List (String × DataW Unit) := [("revenant/link.versionPart", Rows.laid_revenant_link_versionPart), ("revenant/link.slotPart", Rows.laid_revenant_link_slotPart), ("revenant/link.markPart", Rows.laid_revenant_link_markPart)]

/-- What the condition gives the walks. -/
theorem glo_of_laid {W : World} (h : laidMetH Tryz.prog laid3 W) : Glo W := by
  rw [MakeChecks.laidMetH_plain _ _ _ (by kernel_rfl)] at h
  obtain ⟨ps, h, -, -⟩ := h
  obtain ⟨a0, a1, q1, h⟩ := laid_pair (g := 1) (t := 163) (k := 3) h (by kernel_rfl) (by kernel_rfl) Tryz.underlying163 (by kernel_rfl) rfl rfl rfl rfl (by kernel_rfl) Tryz.underlying3
  obtain ⟨b0, b1, q2, h⟩ := laid_pair (g := 0) (t := 163) (k := 3) h (by kernel_rfl) (by kernel_rfl) Tryz.underlying163 (by kernel_rfl) rfl rfl rfl rfl (by kernel_rfl) Tryz.underlying3
  obtain ⟨c0, c1, q3, h⟩ := laid_pair (g := 2) (t := 163) (k := 3) h (by kernel_rfl) (by kernel_rfl) Tryz.underlying163 (by kernel_rfl) rfl rfl rfl rfl (by kernel_rfl) Tryz.underlying3
  exact ⟨⟨a0, a1⟩, ⟨b0, b1⟩, ⟨c0, c1⟩, cell_lt a0, cell_lt b0, cell_lt c0⟩

/-- The program's own start meets the condition. -/
theorem door_met (os : Os) (args : Array Value) : laidMetH Tryz.prog laid3 ((World.doorLaid Tryz.prog 24 os).forCall (fun _ _ => 0) ⟨#[], args, []⟩).memory :=
  laidMetH_of_parts3 (fuel := 8) (laidMet_of_run' 8 (by kernel_rfl) (by kernel_rfl)) (by kernel_rfl) (by kernel_rfl)
end Go.Proofs.YtmifdkbpbkafjaaGreatDoor

/- Slices that come in, opened once: of numbers; of structs of two numbers. -/
namespace Go.Proofs.YtmifdkbpbkafjaaGreatDoor
open Go.RowKit Go.WideShapes Go.ChangeShapes Go.ChangeAt Go.Deep
set_option maxRecDepth 100000

section
variable {H : Type} {enc : TypeId × Value → H} {P : Program} {W : World}

theorem open_num_row {t e : TypeId} {k : IntKind} {A : Option Addr} {len cap : Nat} {d : DataW H} {p : List MemPlace} (ht : P.underlying t = some (.slice e)) (he : P.underlying e = some (.int k)) (hc : P.cellsOf e = 1)
    (h : DataW.Trod enc P W 0 (fun _ => true) true t (.slice A len cap) d p) (hlt : ∀ x ∈ p, x.block < W.heap.size) :
    ∃ zs : List Int, zs.length = len ∧ len ≤ maxLen ∧ (∀ n ∈ zs, (Lit.int k n).wf = true) ∧ (zs = [] ∨ ∃ b off, A = some ⟨b, off, none⟩ ∧ b < W.heap.size ∧ ∀ i, i < zs.length → W.cell? ⟨b, off + i, none⟩ = some (.int k (zs.getD i 0))) := by
  obtain ⟨fuel, hf⟩ := h
  rcases open_ints ht he hc hf with ⟨hcs, hx⟩ | ⟨a, len', cap', zs, hcs, _, hl, hm, hz, hx, hcell, hwz⟩
  · simp [Value.cells] at hcs
    obtain ⟨rfl, rfl, rfl⟩ := hcs
    exact ⟨[], rfl, Nat.zero_le _, by simp, Or.inl rfl⟩
  · simp [Value.cells] at hcs
    obtain ⟨rfl, rfl, rfl⟩ := hcs
    simp only [Prod.mk.injEq] at hx
    obtain ⟨rfl, rfl⟩ := hx
    simp only [if_true] at hz
    refine ⟨zs.take len, by simp; omega, by omega, fun n hn => hwz n (List.mem_of_mem_take hn), ?_⟩
    by_cases h0 : len = 0
    · left; subst h0; simp
    · right
      obtain ⟨b, off, spot⟩ := a
      have hspot : spot = none := by simpa [Addr.add] using World.cell?_spot (hcell 0 (by omega))
      subst hspot
      refine ⟨b, off, rfl, hlt (.cell b off) (MemPlace.mem_row.2 ⟨0, by omega, by simp⟩), fun i hi => ?_⟩
      have hi' : i < len := by simp at hi; omega
      have := hcell i (by omega)
      rw [add_plain] at this
      rw [this]
      simp [hi']

def numOf' : Value → Int | .int _ n => n | _ => 0

theorem open_pair_row {t e : TypeId} {k : IntKind} {f0 f1 : Field} {A : Option Addr} {len cap : Nat} {d : DataW H} {p : List MemPlace} (ht : P.underlying t = some (.slice e)) (he : P.underlying e = some (.struct #[f0, f1]))
    (ce : P.cellsOf e = 2) (o0 : f0.offset = 0) (o1 : f1.offset = 1) (c0 : P.cellsOf f0.type = 1) (c1 : P.cellsOf f1.type = 1) (u0 : P.underlying f0.type = some (.int k)) (u1 : P.underlying f1.type = some (.int k))
    (h : DataW.Trod enc P W 0 (fun _ => true) true t (.slice A len cap) d p) (hlt : ∀ x ∈ p, x.block < W.heap.size) :
    ∃ fs : List (Int × Int), fs.length = len ∧ len ≤ maxLen ∧ (∀ q ∈ fs, (Lit.int k q.1).wf = true ∧ (Lit.int k q.2).wf = true) ∧
      (fs = [] ∨ ∃ b off, A = some ⟨b, off, none⟩ ∧ b < W.heap.size ∧ ∀ i, i < fs.length → W.cell? ⟨b, off + i * 2, none⟩ = some (.int k (fs.getD i (0, 0)).1) ∧ W.cell? ⟨b, off + i * 2 + 1, none⟩ = some (.int k (fs.getD i (0, 0)).2)) := by
  obtain ⟨fuel, hf⟩ := h
  rcases open_slice_pairs ht he ce o0 o1 c0 c1 hf with ⟨hcs, hx⟩ | ⟨a, len', cap', m, n, V0, V1, D0, D1, P0, P1, hcs, _, hl, hm, hmm, hx, hall⟩
  · simp [Value.cells] at hcs
    obtain ⟨rfl, rfl, rfl⟩ := hcs
    exact ⟨[], rfl, Nat.zero_le _, by simp, Or.inl rfl⟩
  · simp [Value.cells] at hcs
    obtain ⟨rfl, rfl, rfl⟩ := hcs
    simp only [Prod.mk.injEq] at hx
    obtain ⟨rfl, rfl⟩ := hx
    simp only [if_true] at hmm
    subst hmm
    have each : ∀ i, i < m → (∃ x, V0 i = .int k x ∧ (Lit.int k x).wf = true) ∧ ∃ x, V1 i = .int k x ∧ (Lit.int k x).wf = true := fun i hi => by
      obtain ⟨_, _, h3, h4⟩ := hall i hi
      obtain ⟨x, e0, _, w0⟩ := DataW.trod_int u0 h3
      obtain ⟨y, e1, _, w1⟩ := DataW.trod_int u1 h4
      simp at e0 e1
      exact ⟨⟨x, e0, w0⟩, ⟨y, e1, w1⟩⟩
    refine ⟨(List.range len).map fun i => (numOf' (V0 i), numOf' (V1 i)), by simp, by omega, ?_, ?_⟩
    · intro q hq
      obtain ⟨i, hi, rfl⟩ := List.mem_map.1 hq
      have hi' := List.mem_range.1 hi
      obtain ⟨⟨x, e0, w0⟩, ⟨y, e1, w1⟩⟩ := each i (by omega)
      rw [e0, e1]
      exact ⟨w0, w1⟩
    · by_cases h0 : len = 0
      · left; subst h0; simp
      · right
        obtain ⟨b, off, spot⟩ := a
        have hspot : spot = none := by simpa [Addr.add] using World.cell?_spot (hall 0 (by omega)).1
        subst hspot
        refine ⟨b, off, rfl, hlt (.cell b off) (List.mem_append_left _ (MemPlace.mem_row.2 ⟨0, by omega, by simp⟩)), fun i hi => ?_⟩
        have hi' : i < len := by simpa using hi
        obtain ⟨h1, h2, _, _⟩ := hall i (by omega)
        obtain ⟨⟨x, e0, _⟩, ⟨y, e1, _⟩⟩ := each i (by omega)
        rw [add_plain] at h1 h2
        rw [Nat.add_assoc, h1, h2, e0, e1]
        simp [hi', e0, e1, numOf']
end
end Go.Proofs.YtmifdkbpbkafjaaGreatDoor

namespace Go.Proofs.YtmifdkbpbkafjaaGreatDoor.allocExact
open Go.ChangeShapes Go.WideShapes Go.ChangeAt Go.RowKit Go.Joins Go.Maps
set_option maxRecDepth 100000

set_option maxHeartbeats 6400000 in
theorem walk (k s b h l : Int) (rs : List Rw) (A : Option Addr) (cap : Nat) (hl0 : rs.length ≤ 2 ^ 63 - 1) (zs : List Int) (A2 : Option Addr) (cap2 : Nat) (hz0 : zs.length ≤ 2 ^ 63 - 1) (W : World) (hok : ∀ r ∈ rs, OkRw W r) (hrow : RowX encRw 1 W A rs)
    (hrow2 : zs = [] ∨ ∃ b off, A2 = some ⟨b, off, none⟩ ∧ b < W.heap.size ∧ ∀ i, i < zs.length → W.cell? ⟨b, off + i, none⟩ = some (.int .i64 (zs.getD i 0))) (hg : Glo W) :
    Calls Tryz.prog 3 #[.agg #[.int .i64 k, .int .i64 s, .int .i64 b, .int .i64 h, .int .i64 l], .slice A rs.length cap, .slice A2 zs.length cap2] W fun e w' => e = .returned (.bool true) ∧ Below W.heap.size W w' := by
  have hE := (Env.start W).box W.heap.size rfl [.int .i64 k, .int .i64 s, .int .i64 b, .int .i64 h, .int .i64 l] 23
  have HG := Lib.hid hg
  have HROW := Lib.hid hrow
  have HROW2 := Lib.hid hrow2
  have HOK := Lib.hid hok
  have hl : rs.length ≤ 9223372036854775807 := by omega
  have hz : zs.length ≤ 9223372036854775807 := by omega
  have hlen9 : ∀ r ∈ rs, r.ds.length ≤ 9223372036854775807 := fun r hr => by have := (hok r hr).1; unfold maxLen at this; omega
  have HLEN := Lib.hid hlen9
  clear hg hrow hrow2 hok hl0 hz0 hlen9
  go_enter Tryz.func3, Tryz.ntmps3
  go_wp2_with fail
  refine (awake14 _ (HG.out.keep' hE.below)).mono ?_
  rintro o w1 ⟨rfl, hb⟩
  replace hE := hE.over hb
  clear hb
  generalize hX : W.heap.size = X at *
  have HX := Lib.hid hX
  clear hX
  have r0 := hE.rule 0 rfl
  go_wp2_with fail
  refine (great_t k s b h l A A2 cap cap2 zs.length rs hl hz HROW.out HLEN.out _ hE.below).mono ?_
  rintro o w2 ⟨hb, rfl | ⟨rfl, hc, hr1, hr4, hz4, hd40⟩⟩
  · replace hE := hE.over hb
    go_wp2_with fail
    go_ret
    exact ⟨rfl, hE.below⟩
  replace hE := hE.over hb
  clear hb r0
  have HC := Lib.hid hc
  have HR1 := Lib.hid hr1
  have HR4 := Lib.hid hr4
  have HD := Lib.hid hd40
  have hCk : COk ⟨k, s, b, h, l⟩ := by
    obtain ⟨-, h1, h2, -⟩ := chk_yes hc
    exact ⟨h1, by show 1 ≤ l ∧ l ≤ 1099511627775; omega⟩
  have HCK := Lib.hid hCk
  have hR : ∀ i, i < rs.length → OkR W (rs.getD i default) := fun i hi => by
    have hm : rs.getD i default ∈ rs := by rw [List.getD_eq_getElem?_getD, List.getElem?_eq_getElem hi]; exact List.getElem_mem hi
    obtain ⟨h1, h2, h3⟩ := HOK.out _ hm
    exact ⟨h3, hd40 i hi, h2⟩
  have HR := Lib.hid hR
  clear hc hr1 hr4 hd40 hCk hR
  go_wp2_with fail
  refine (new_w hE).mono ?_
  rintro o w3 ⟨p, cc, rfl, hE3, hb⟩
  clear hb hE
  go_wp2_with fail
  refine (start_w 0 1 (by decide) (by unfold maxLen; omega) hE3 rfl rfl).mono ?_
  rintro o w4 ⟨rfl, F4, hE4⟩
  simp only [List.set_cons_succ, List.set_cons_zero] at hE4
  clear hE3
  generalize ({ l := _, s := _, w := _, f := _, a := _ } : Cnt) = q4 at hE4
  replace hE4 := hE4.newU w4.heap.size rfl 34
  go_wp2_with fail
  refine (epoch13_any _).mono ?_
  rintro o w5 ⟨rfl, hb⟩
  replace hE4 := hE4.over hb
  clear hb
  generalize w4.heap.size = m at *
  go_wp2_with fail
  refine (refSet_any 1 0 0 1 (by simp) (hE4.ref 0 rfl)).mono ?_
  rintro o w6 ⟨rfl, F6, hU, hs⟩
  replace hE4 := hE4.turnU 0 rfl hU hs
  simp only [List.set_cons_zero] at hE4
  clear hU hs
  have r0 := hE4.rule 3 rfl
  go_wp2_with fail
  refine (threads_t k s b h l A cap rs HR4.out HROW.out HC.out hE4).mono ?_
  rintro o w7 ⟨g, cp, ps, rfl, hpl, hps, hE7⟩
  have hf0 : upd (fun _ => 0) (1, 0, 0) 1 = getL ml0 := by
    funext x
    show _ = getL [((1, 0, 0), 1)] x
    unfold upd
    simp only [getL]
    by_cases hx : x = (1, 0, 0)
    · rw [if_pos hx, if_pos hx.symm]
    · rw [if_neg hx, if_neg (fun e => hx e.symm)]
  rw [hf0] at hE7
  have hE8 : Env W (EL ⟨k, s, b, h, l⟩ (.slice (some ⟨g, 0, none⟩) rs.length cp) p cc m ⟨ps, F4, F6, q4, 0 + 1, ml0⟩ [boxI X [.int .i64 k, .int .i64 s, .int .i64 b, .int .i64 h, .int .i64 l]]) w7 := by
    refine hE7.perm (perm_of fun z => ?_)
    simp only [EL, List.count_cons, List.count_append, List.count_nil, ml0]
    omega
  have hgo := start_ok (w0 := W) (S := ⟨ps, F4, F6, q4, 0 + 1, ml0⟩) HCK.out HR.out hpl hps rfl (Nat.le_refl 1)
  clear hE7 hE4 hps hpl r0 hf0
  have HGO := Lib.hid hgo
  clear hgo
  go_wp2_with fail
  go_loopw [10] (fun iv wr => ∃ (j : Nat) (S : GS), j ≤ zs.length ∧ iv = .int .i64 j ∧ GOk ⟨k, s, b, h, l⟩ rs (40 + j) S ∧ Env W (EL ⟨k, s, b, h, l⟩ (.slice (some ⟨g, 0, none⟩) rs.length cp) p cc m S [boxI X [.int .i64 k, .int .i64 s, .int .i64 b, .int .i64 h, .int .i64 l]]) wr) (fun iv _ => zs.length - (intOf iv).toNat)
  case atStart => exact ⟨0, _, Nat.zero_le _, rfl, HGO.out, hE8⟩
  case round =>
    clear hE8 HGO
    obtain ⟨j, S, hj, rfl, hgo, hE⟩ := hrel
    by_cases hlt : j < zs.length
    · have hb1 : decide ((j : Int) < (zs.length : Int)) = true := by simp; omega
      rcases HROW2.out with h0 | ⟨bb, off, rfl, hbl, hc⟩
      · rw [h0] at hlt; simp at hlt
      obtain ⟨z, hz9⟩ : ∃ z, zs.getD j 0 = z := ⟨_, rfl⟩
      have hd0 : wr.cell? ⟨bb, off + j, none⟩ = some (.int .i64 z) := by rw [hE.below.cell (p := ⟨bb, off + j, none⟩) (by rw [HX.out]; exact hbl), hc j hlt, hz9]
      have hr1 := HR1.out
      have hr4 := HR4.out
      have hwl : IntKind.u64.wrap (rs.length : Int) = (rs.length : Int) := by rw [IntKind.wrap_u64]; omega
      obtain ⟨t, ht, htl⟩ : ∃ t : Nat, (IntKind.u64.wrap z).tmod (rs.length : Int) = (t : Int) ∧ t < rs.length := by
        have h0 : 0 ≤ IntKind.u64.wrap z := by rw [IntKind.wrap_u64]; omega
        refine ⟨((IntKind.u64.wrap z) % (rs.length : Int)).toNat, ?_, ?_⟩
        · rw [Int.tmod_eq_emod_of_nonneg h0, Int.toNat_of_nonneg (Int.emod_nonneg _ (by omega))]
        · have := Int.emod_lt_of_pos (IntKind.u64.wrap z) (show 0 < (rs.length : Int) by omega)
          have := Int.emod_nonneg (IntKind.u64.wrap z) (show (rs.length : Int) ≠ 0 by omega)
          omega
      obtain ⟨q, hq, hQ⟩ := hgo.ps t htl
      have htq : wr.cell? ⟨g, t, none⟩ = some (.pointer (some ⟨q.X.thr, 0, none⟩)) := by
        have := hE.tpAt 0 rfl t (by rw [List.length_map, hgo.len]; exact htl)
        rw [this]
        simp [List.getD_eq_getElem?_getD, hq]
      have htl' : (t : Int) < (rs.length : Int) := by omega
      have hnz : (rs.length : Int) ≠ 0 := by omega
      go_upto_region 14 with fail
      have hj9 : j ≤ 400 := by omega
      have HST : Hid (∀ v, Env W (EL ⟨k, s, b, h, l⟩ (.slice (some ⟨g, 0, none⟩) rs.length cp) p cc m S [boxI X [.int .i64 k, .int .i64 s, .int .i64 b, .int .i64 h, .int .i64 l]]) v → _) := Lib.hid fun v hv => step_pk HG.out HCK.out HR.out hgo (by omega) htl hq hv
      have hsl : S.ps.length = rs.length := hgo.len
      clear hd0 hc hz9 htq ht
      go_wp2_with fail
      refine (HST.out _ hE).mono ?_
      rintro o w9 ⟨rfl, S', q', hps', hthr, -, -, -, hgo', hE'⟩
      have hq' : S'.ps[t]? = some q' := by rw [hps']; simp [hsl, htl]
      clear HST hE hQ
      go_wp2_with fail
      rw [← hthr]
      refine (same_pk hgo' (by omega) htl hq' hE').mono ?_
      rintro o w10 ⟨rfl, hE6⟩
      clear hE'
      go_wp2_with fail
      all_goals first
        | exact ⟨⟨j + 1, S', by omega, by first | (simp; done) | (simp; omega), hgo', hE6⟩, by first | (simp [intOf]; done) | (simp [intOf]; omega)⟩
        | (refine (memory_t (R := tpsI (.slice (some ⟨g, 0, none⟩) rs.length cp) (S'.ps.map fun q => q.X.thr) :: (S'.ps.flatMap (Pk.its ⟨k, s, b, h, l⟩) ++ [boxI X [.int .i64 k, .int .i64 s, .int .i64 b, .int .i64 h, .int .i64 l]])) (by have := hgo'.ml; omega) (by have := hgo'.n; omega) (hE6.perm (List.perm_append_comm_assoc [_] [_, _, _] _))).mono ?_
           rintro o w11 ⟨rfl, hE7⟩
           replace hE7 : Env W (EL ⟨k, s, b, h, l⟩ (.slice (some ⟨g, 0, none⟩) rs.length cp) p cc m S' [boxI X [.int .i64 k, .int .i64 s, .int .i64 b, .int .i64 h, .int .i64 l]]) w11 := hE7.perm (List.perm_append_comm_assoc [_, _, _] [_] _)
           go_wp2_with fail
           exact ⟨⟨j + 1, S', by omega, by first | (simp; done) | (simp; omega), hgo', hE7⟩, by first | (simp [intOf]; done) | (simp [intOf]; omega)⟩)
    · have hb1 : decide ((j : Int) < (zs.length : Int)) = false := by simp; omega
      go_wp2_with fail
      go_ret
      exact ⟨rfl, hE.below⟩

theorem cellsInt : Tryz.prog.cellsOf 3 = 1 := by kernel_rfl

theorem own : ownKnob Tryz.prog.godebug = none := by kernel_rfl
theorem laidOut : laidOutB Tryz.prog = true := by kernel_rfl

set_option maxRecDepth 100000 in
theorem lifted (os : Os) (started : os.Started) (H : Type) (enc : TypeId × Value → H) :
    ReturnsInHanded {} Tryz.checked os 3 .any (fun w args => (Rows.allocExactSpec.pre enc Tryz.prog Tryz.f3 [] false w args ∧ laidMetH Tryz.prog laid3 w) ∧ sizedMet enc Tryz.prog Tryz.f3 (OpenSpec.ofChange Rows.allocExactSpec) false w args)
      (Rows.allocExactSpec.post enc Tryz.prog Tryz.f3 false true false false) := by
  refine returnsInHanded_of_change_and (C := Tryz.checked) (X := fun w _ => laidMetH Tryz.prog laid3 w) (fun _ _ _ hh h => h.of_heap hh) own started (by kernel_rfl) Tryz.func3
    (ChangeSpec.witness_shaped (enc := enc) (C := Tryz.checked) (os := os) (X := fun w _ => laidMetH Tryz.prog laid3 w) false (World.doorLaid Tryz.prog 24 os) #[.agg #[.int .i64 0, .int .i64 0, .int .i64 0, .int .i64 0, .int .i64 0], .slice none 0 0, .slice none 0 0] 8 rfl (World.shaped_of_RefB (by kernel_rfl) (by kernel_rfl)) (by kernel_rfl) (by kernel_rfl) (by kernel_rfl) (door_met os _)) ?_
  intro W base args ds gs before hval0 hW _ _ hL _
  have hval : ∀ (j : Nat) t v, Tryz.f3.params[j]? = some t → args[j]? = some v → Value.okWide Tryz.prog W .any base t v := hval0
  have hW' := hW
  obtain ⟨p, q, hA0, hV, rfl, hfz, hnd⟩ := hW
  have hA : DataW.TrodAll enc Tryz.prog W 0 (fun _ => true) true Tryz.f3.params.toList args.toList ds p := hA0
  rw [Tryz.params3] at hA hval
  obtain ⟨v0, vs0, d0, ds0, p0, q0, hargs, rfl, rfl, g0, r0⟩ := trodAll_cons hA
  obtain ⟨v1, vs1, d1, ds1, p1, q1, rfl, rfl, rfl, g1, r1⟩ := trodAll_cons r0
  obtain ⟨v2, vs2, d2, ds2, p2, q2, rfl, rfl, rfl, g2, r2⟩ := trodAll_cons r1
  obtain ⟨rfl, rfl, rfl⟩ := trodAll_nil r2
  obtain rfl : args = #[v0, v1, v2] := by cases args; simp_all
  obtain ⟨rfl, rfl⟩ := trodVars_none hV
  obtain ⟨cs0, rfl, z0, H0⟩ := open_flat (ss := [.num .i64, .num .i64, .num .i64, .num .i64, .num .i64]) Tryz.underlying23 (by kernel_rfl) (by kernel_rfl) ⟨Tryz.underlying3, Tryz.underlying3, Tryz.underlying3, Tryz.underlying3, Tryz.underlying3, trivial⟩ (hval 0 23 v0 rfl rfl) g0
  obtain ⟨l0, rfl, z0⟩ := list_of z0
  obtain ⟨x0_0, x0_1, x0_2, x0_3, x0_4, rfl⟩ := list5 z0
  obtain ⟨_, e, a0_0, rfl, w0_0⟩ := H0 0 _ rfl
  obtain rfl : x0_0 = .int .i64 a0_0 := by simpa using e
  clear e
  have h0_0 := i64_in w0_0
  obtain ⟨_, e, a0_1, rfl, w0_1⟩ := H0 1 _ rfl
  obtain rfl : x0_1 = .int .i64 a0_1 := by simpa using e
  clear e
  have h0_1 := i64_in w0_1
  obtain ⟨_, e, a0_2, rfl, w0_2⟩ := H0 2 _ rfl
  obtain rfl : x0_2 = .int .i64 a0_2 := by simpa using e
  clear e
  have h0_2 := i64_in w0_2
  obtain ⟨_, e, a0_3, rfl, w0_3⟩ := H0 3 _ rfl
  obtain rfl : x0_3 = .int .i64 a0_3 := by simpa using e
  clear e
  have h0_3 := i64_in w0_3
  obtain ⟨_, e, a0_4, rfl, w0_4⟩ := H0 4 _ rfl
  obtain rfl : x0_4 = .int .i64 a0_4 := by simpa using e
  clear e
  have h0_4 := i64_in w0_4
  clear H0
  obtain ⟨A1, n1, cap1, rfl⟩ := okWide_slice Tryz.underlying24 (hval 1 24 v1 rfl rfl)
  obtain ⟨zs1, rfl, h1, w1, row1⟩ := open_Rws g1 (fun x hx => hW'.lt x (by simp [hx]))
  unfold maxLen at h1
  obtain ⟨A2, n2, cap2, rfl⟩ := okWide_slice Tryz.underlying25 (hval 2 25 v2 rfl rfl)
  obtain ⟨zs2, rfl, h2, w2, row2⟩ := open_num_row Tryz.underlying25 Tryz.underlying3 cellsInt g2 (fun x hx => hW'.lt x (by simp [hx]))
  unfold maxLen at h2
  clear hA0 hval0
  have hG := glo_of_laid hL
  refine (walk a0_0 a0_1 a0_2 a0_3 a0_4 zs1 A1 cap1 h1 zs2 A2 cap2 h2 W w1 row1 row2 hG).mono fun e W' ⟨he, hg⟩ => ?_
  subst he
  exact ⟨_, rfl, law_post laidOut (by kernel_rfl) (by kernel_rfl) Tryz.underlying4 rfl rfl hW' hg⟩

theorem over : Rows.allocExactRow.holds Tryz.pinned (OpenSpec.ofChange Rows.allocExactSpec) :=
  OpenClaim.holds_of_wide 3 Tryz.f3 rfl rfl rfl rfl rfl rfl rfl ⟨rfl, rfl, rfl, rfl, rfl⟩ rfl rfl rfl rfl rfl (by kernel_rfl) Tryz.func3 (by kernel_rfl)
    (of_decide_eq_true (by kernel_rfl)) (by unfold Func.isWrapper; first | (rw [if_pos (by decide +kernel)]; kernel_rfl) | (rw [if_neg (by decide +kernel)]; exact ⟨rfl, rfl⟩))
    (fun os started H enc _ => lifted os started H enc)

/-- THE STATEMENT. -/
theorem proved : Rows.AllocExactCardSaid :=
  Claim7.holds_tied_plain_at .later [] [.wider, .wider, .wider] true _ true
    over (fun _ h => by cases h) (by kernel_rfl) (fun _ h => by cases h) allocExact_row_tie rfl ⟨rfl, rfl⟩ (by kernel_rfl) rfl
    (fun f fn hf hfn => by
      obtain rfl : f = 3 := Option.some.inj ((show Tryz.prog.funcNamed "revenant/revenantlaw14.AllocExact" = some 3 by kernel_rfl).symm.trans hf) |>.symm
      obtain rfl : fn = Tryz.f3 := (Option.some.inj (Tryz.func3.symm.trans hfn)).symm
      exact ⟨by kernel_rfl, fun j t ht => by
        rw [Tryz.params3] at ht
        have hm : t ∈ [23, 24, 25] := by simpa using Array.mem_of_getElem? ht
        have hall : ([23, 24, 25].all fun u => !Tryz.prog.wantsStandIn u) = true := by kernel_rfl
        exact (show Tryz.prog.wantsStandIn t = false by simpa using List.all_eq_true.1 hall t hm)⟩)
    (by kernel_rfl)
#print axioms proved
end Go.Proofs.YtmifdkbpbkafjaaGreatDoor.allocExact
