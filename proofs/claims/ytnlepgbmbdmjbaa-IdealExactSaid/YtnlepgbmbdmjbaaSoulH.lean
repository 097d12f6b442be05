/- Contracts of layer 6: who a slot is, how many there are; of nothing. -/
import Derived.Test.YtnlepgbmbdmjbaaSoulA
import Derived.Test.YtnlepgbmbdmjbaaSeq
import Derived.Lib.SliceRun
namespace Go.Proofs.Ytnlepgbmbdmjbaa
open Go.RowKit Go.Maps
set_option maxRecDepth 100000

theorem IsS.over {w w' : World} {s : Nat} {F : Nat → Prop} {l : List Int} (h : IsS w s F l) (hb : Below w.heap.size w w') : IsS w' s F l := h.loc (fun k hk => hb.block k (h.lt k hk)) hb.size
/-- What stands in the block, and what a look-up is told. -/
theorem IsS.look {w : World} {s : Nat} {F : Nat → Prop} {l : List Int} (h : IsS w s F l) {x : Int} (hx : In64 x) (hl : l.length ≤ 1000000) :
    ∃ A0 c0 mp A cap, (∀ i, w.cell? ⟨s, i, none⟩ = [Value.slice A0 l.length c0, Value.map mp][i]?) ∧ s < w.heap.size ∧ Cells1 w A0 l ∧ (Instr.lookup 75 (.map mp) (.int .i64 x) false).run Try.prog w = .ok (.slice A (ids l x).length cap) w ∧
      w.ownsRow 0 3 1 (.slice A (ids l x).length cap) (ids l x).length (ints (ids l x)) := by
  obtain ⟨v, mp, G, hb, ho, hm, _⟩ := h
  obtain ⟨A0, c0, rfl⟩ := ownsRow_slice ho
  rcases hm with ⟨rfl, rfl, _⟩ | ⟨b, rfl, hL⟩
  · refine ⟨A0, c0, none, none, 0, hb.rule, hb.1, cells1 ho, ?_, World.ownsRow_nil _ _ _ _⟩
    have := Maps.look_nil (w := w) false keyedI Try.underlying75 (zeroInts w) (keyI hx)
    simpa [ids_nil] using this
  · obtain ⟨A, cap, h1, h2, _⟩ := hL.look hx hl
    exact ⟨A0, c0, some b, A, cap, hb.rule, hb.1, cells1 ho, h1 w rfl, ownsRow_base h2 (Nat.zero_le _)⟩

section
variable {w : World}
set_option maxHeartbeats 800000 in
theorem now_nil (x : Int) : Calls Try.prog 47 #[.pointer none, .int .i64 x] w fun e w' => e = .returned (.int .i64 0) ∧ w' = w := by
  go_enter Try.func47, Try.ntmps47
  go_wp2
  go_ret
  exact ⟨rfl, rfl⟩
set_option maxHeartbeats 800000 in
theorem count_nil : Calls Try.prog 12 #[.pointer none] w fun e w' => e = .returned (.int .i64 0) ∧ w' = w := by
  go_enter Try.func12, Try.ntmps12
  go_wp2
  go_ret
  exact ⟨rfl, rfl⟩
end

section
variable {s : Nat} {F : Nat → Prop} {l : List Int} {w : World}
set_option maxHeartbeats 800000 in
theorem now_any (x : Int) (hx : In64 x) (hl : l.length ≤ 1000000) (hS : IsS w s F l) :
    Calls Try.prog 47 #[.pointer (some ⟨s, 0, none⟩), .int .i64 x] w fun e w' => e = .returned (.int .i64 (nowL l x)) ∧ w' = w := by
  obtain ⟨A0, c0, mp, A, cap, r, hsl, _, hlook, hrow⟩ := hS.look hx hl
  have hc := cells1 hrow
  have hidl := ids_length_le l x
  have hnow : nowL l x = (ids l x).getLastD 0 := rfl
  rw [hnow]
  clear hnow hrow
  generalize ids l x = m at *
  rcases hc with rfl | ⟨g, rfl, hg, hc⟩
  · go_enter Try.func47, Try.ntmps47
    go_wp2
    go_ret
    exact ⟨rfl, rfl⟩
  · by_cases h0 : m.length = 0
    · have hm : m = [] := List.eq_nil_of_length_eq_zero h0
      subst hm
      go_enter Try.func47, Try.ntmps47
      go_wp2
      go_ret
      exact ⟨rfl, rfl⟩
    · have hlast := hc (m.length - 1) (by omega)
      have e1 : m.getLastD 0 = m.getD (m.length - 1) 0 := by
        rcases m with _ | ⟨a, m⟩
        · simp at h0
        · rw [List.getLastD_cons]
          simp [List.getD, List.getLastD_eq_getLast?, List.getLast?_eq_getElem?]
          cases m <;> simp
      rw [e1]
      generalize m.getD (m.length - 1) 0 = z at *
      have hb : ((m.length : Int) == 0) = false := by rw [beq_eq_false_iff_ne]; omega
      have hw : wrap64 ((m.length : Int) - 1) = ((m.length - 1 : Nat) : Int) := by rw [w64 _ (by omega)]; omega
      have hin : (0 : Int) ≤ ((m.length - 1 : Nat) : Int) ∧ ((m.length - 1 : Nat) : Int) < m.length := by omega
      clear hc
      go_enter Try.func47, Try.ntmps47
      go_wp2
      go_ret
      exact ⟨rfl, rfl⟩

set_option maxHeartbeats 800000 in
theorem countS_any (hl : l.length ≤ 1000000) (hS : IsS w s F l) :
    Calls Try.prog 12 #[.pointer (some ⟨s, 0, none⟩)] w fun e w' => e = .returned (.int .i64 l.length) ∧ w' = w := by
  obtain ⟨A0, c0, mp, A, cap, r, hsl, _⟩ := hS.look (x := 0) (by unfold In64; omega) hl
  go_enter Try.func12, Try.ntmps12
  go_wp2
  go_ret
  exact ⟨rfl, rfl⟩

end
end Go.Proofs.Ytnlepgbmbdmjbaa
