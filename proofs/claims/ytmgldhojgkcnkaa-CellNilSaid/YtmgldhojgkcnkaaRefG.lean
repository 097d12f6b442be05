/- Two rows of the same places are the same. -/
import Derived.Test.YtmgldhojgkcnkaaRefF
namespace Go.Proofs.Ytmgldhojgkcnkaa
open Go.RowKit Go.Maps Go.Sort

theorem RowP.below {w w' : World} {v : Value} {l : List Plc} (h : RowP w v l) (hb : Below w.heap.size w w') : RowP w' v l := h.over (Turn.of_below hb : Turn (fun _ => False) w w') fun _ _ _ _ e => e
set_option maxRecDepth 100000 in
set_option maxHeartbeats 1600000 in
theorem placesLaw_any {v1 v2 : Value} {l : List Plc} {w : World} (hl : l.length ≤ 1000000) (h1 : RowP w v1 l) (h2 : RowP w v2 l) :
    Calls Try.prog 16 #[v1, v2] w fun e w' => e = .returned (.bool true) ∧ Below w.heap.size w w' := by
  obtain ⟨A1, c1, rfl⟩ := h1.len
  obtain ⟨A2, c2, rfl⟩ := h2.len
  have H1 := Lib.hid h1
  have H2 := Lib.hid h2
  clear h1 h2
  go_enter Try.func16, Try.ntmps16
  go_wp2_with fail
  go_loopw [5] (fun i wr => ∃ k : Nat, k ≤ l.length ∧ i = .int .i64 k ∧ Below w.heap.size w wr) (fun i _ => l.length - (intOf i).toNat)
  case atStart => exact ⟨0, by omega, rfl, Below.refl _ _⟩
  case round =>
    obtain ⟨k, hk, rfl, hB⟩ := hrel
    by_cases hlt : k < l.length
    · rcases H1.out with ⟨h0, _⟩ | ⟨g1, cap1, e1, hg1, hc1⟩
      · rw [h0] at hlt; simp at hlt
      rcases H2.out with ⟨h0, _⟩ | ⟨g2, cap2, e2, hg2, hc2⟩
      · rw [h0] at hlt; simp at hlt
      simp only [Value.slice.injEq] at e1 e2
      obtain ⟨rfl, -, rfl⟩ := e1
      obtain ⟨rfl, -, rfl⟩ := e2
      obtain ⟨a0, a1, a2⟩ := hc1 k hlt
      obtain ⟨b0, b1, b2⟩ := hc2 k hlt
      clear hc1 hc2
      generalize l.getD k z3 = o at a0 a1 a2 b0 b1 b2
      obtain ⟨x, y, z⟩ := o
      simp only at a0 a1 a2 b0 b1 b2
      have HC : Hid (∀ w', Below w.heap.size w w' → (w'.cell? ⟨g1, k * 3, none⟩ = some (.int .i64 x) ∧ w'.cell? ⟨g1, k * 3 + 1, none⟩ = some (.int .i64 y) ∧ w'.cell? ⟨g1, k * 3 + 2, none⟩ = some (.int .i64 z) ∧
          w'.cell? ⟨g2, k * 3, none⟩ = some (.int .i64 x) ∧ w'.cell? ⟨g2, k * 3 + 1, none⟩ = some (.int .i64 y) ∧ w'.cell? ⟨g2, k * 3 + 2, none⟩ = some (.int .i64 z))) := Lib.hid fun w' hb => by
        refine ⟨?_, ?_, ?_, ?_, ?_, ?_⟩
        · rw [hb.cell (p := ⟨g1, k * 3, none⟩) hg1]; exact a0
        · rw [hb.cell (p := ⟨g1, k * 3 + 1, none⟩) hg1]; exact a1
        · rw [hb.cell (p := ⟨g1, k * 3 + 2, none⟩) hg1]; exact a2
        · rw [hb.cell (p := ⟨g2, k * 3, none⟩) hg2]; exact b0
        · rw [hb.cell (p := ⟨g2, k * 3 + 1, none⟩) hg2]; exact b1
        · rw [hb.cell (p := ⟨g2, k * 3 + 2, none⟩) hg2]; exact b2
      clear a0 a1 a2 b0 b1 b2
      go_wp2_with fail
      refine Ord.wp_chain [] (fun w' => Below w.heap.size w w') (fun _ _ => True) (by kernel_rfl) (by kernel_rfl) (by kernel_rfl) hB.drew trivial (fun hT => ?_)
      have hT9 := Lib.hid hT
      clear hT
      repeat (first
        | (refine Ord.ch_value (v := ?_) hT9.out (by decide) (by rfl) ?_ ?_; rotate_left; (focus (intro w5 hS; obtain ⟨a0, a1, a2, b0, b1, b2⟩ := HC.out _ hS; go_simp <;> with_reducible rfl)); (try simp only [Act.put, List.setIfInBounds_toArray, List.set_cons_zero, List.set_cons_succ]))
        | (refine Ord.ch_off hT9.out (by decide) (by rfl) ?_; (try simp only [Act.put, List.setIfInBounds_toArray, List.set_cons_zero, List.set_cons_succ])))
      refine Ord.InText.nil fun w5 hS => ?_
      clear hT9
      obtain ⟨hB5, hC⟩ := Ord.chain_end hS
      clear hS
      clear hC
      go_wp2_with fail
      exact ⟨⟨k + 1, by omega, by simp, hB5⟩, by simp [intOf]; omega⟩
    · go_wp2_with fail
      go_ret
      exact ⟨rfl, hB⟩
end Go.Proofs.Ytmgldhojgkcnkaa
