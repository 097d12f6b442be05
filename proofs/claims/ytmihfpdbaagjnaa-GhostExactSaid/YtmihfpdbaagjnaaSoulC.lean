/- Souls: what is asked: Now, Is, SlotOf, Count, All. -/
import Derived.Test.YtmihfpdbaagjnaaSoulA
import Derived.Test.YtmihfpdbaagjnaaSeq
import Derived.Lib.SliceRun
namespace Go.Proofs.Ytmihfpdbaagjnaa
open Go.RowKit Go.Maps
set_option maxRecDepth 100000

theorem IsS.over {w w' : World} {s : Nat} {F : Nat → Prop} {l : List Int} (h : IsS w s F l) (hb : Below w.heap.size w w') : IsS w' s F l := h.loc (fun k hk => hb.block k (h.lt k hk)) hb.size
/-- What stands in the block, and what a look-up is told. -/
theorem IsS.look {w : World} {s : Nat} {F : Nat → Prop} {l : List Int} (h : IsS w s F l) {x : Int} (hx : In64 x) (hl : l.length ≤ 1000000) :
    ∃ A0 c0 mp A cap, (∀ i, w.cell? ⟨s, i, none⟩ = [Value.slice A0 l.length c0, Value.map mp][i]?) ∧ s < w.heap.size ∧ Cells1 w A0 l ∧ (Instr.lookup 79 (.map mp) (.int .i64 x) false).run Try.prog w = .ok (.slice A (ids l x).length cap) w ∧
      w.ownsRow 0 3 1 (.slice A (ids l x).length cap) (ids l x).length (ints (ids l x)) := by
  obtain ⟨v, mp, G, hb, ho, hm, _⟩ := h
  obtain ⟨A0, c0, rfl⟩ := ownsRow_slice ho
  rcases hm with ⟨rfl, rfl, _⟩ | ⟨b, rfl, hL⟩
  · refine ⟨A0, c0, none, none, 0, hb.rule, hb.1, cells1 ho, ?_, World.ownsRow_nil _ _ _ _⟩
    have := Maps.look_nil (w := w) false keyedI Try.underlying79 (zeroInts w) (keyI hx)
    simpa [ids_nil] using this
  · obtain ⟨A, cap, h1, h2, _⟩ := hL.look hx hl
    exact ⟨A0, c0, some b, A, cap, hb.rule, hb.1, cells1 ho, h1 w rfl, ownsRow_base h2 (Nat.zero_le _)⟩

section
variable {w : World}
set_option maxHeartbeats 800000 in
theorem now_nil (x : Int) : Calls Try.prog 30 #[.pointer none, .int .i64 x] w fun e w' => e = .returned (.int .i64 0) ∧ w' = w := by
  go_enter Try.func30, Try.ntmps30
  go_wp2
  go_ret
  exact ⟨rfl, rfl⟩
set_option maxHeartbeats 800000 in
theorem count_nil : Calls Try.prog 13 #[.pointer none] w fun e w' => e = .returned (.int .i64 0) ∧ w' = w := by
  go_enter Try.func13, Try.ntmps13
  go_wp2
  go_ret
  exact ⟨rfl, rfl⟩
set_option maxHeartbeats 800000 in
theorem is_nil (x i : Int) : Calls Try.prog 32 #[.pointer none, .agg #[.int .i64 x, .int .i64 i]] w fun e w' => e = .returned (.bool false) ∧ Below w.heap.size w w' := by
  have hF := (Fr.start w).push w.heap.size rfl [.int .i64 x, .int .i64 i] 70
  have r := hF.rule 0 rfl
  have cN : Hid (∀ v : World, Calls Try.prog 30 #[.pointer none, .int .i64 x] v fun e w' => e = .returned (.int .i64 0) ∧ Below v.heap.size v w') := Lib.hid fun v => (now_nil x).mono fun _ _ ⟨h, e⟩ => ⟨h, e ▸ Below.refl _ _⟩
  by_cases h1 : i = 0
  · subst h1
    go_enter Try.func32, Try.ntmps32
    go_wp2_with fail
    refine wp_text (S := Fr w [(w.heap.size, [.int .i64 x, .int .i64 0])]) (by kernel_rfl) (by kernel_rfl) ?hS (fun hT => ?_)
    case hS => exact Fr.drew hF
    have hT9 := Lib.hid hT
    clear hT hF
    repeat (first
      | (refine text_value (v := ?_) hT9.out (by rfl) ?_ ?_; rotate_left; (focus (intro w5 hS; have r := hS.rule 0 rfl; go_simp <;> with_reducible rfl)); (try simp only [Act.put, List.setIfInBounds_toArray, List.set_cons_zero, List.set_cons_succ]))
      | (refine text_off hT9.out (by rfl) ?_; (try simp only [Act.put, List.setIfInBounds_toArray, List.set_cons_zero, List.set_cons_succ]))
      | (refine text_call (v := ?_) (f := ?_) (args := ?_) hT9.out (by rfl) ?_ ?_ ?_; rotate_left 3; (focus (intro w5 hS; have r := hS.rule 0 rfl; go_simp; constructor <;> with_reducible rfl)); (focus (intro w5 hS; (first | fail))); (try simp only [Act.put, List.setIfInBounds_toArray, List.set_cons_zero, List.set_cons_succ])))
    refine InText.nil fun w5 hF => ?_
    clear hT9
    go_wp2_with fail
    go_ret
    exact ⟨rfl, hF.below⟩
  · have hb : (i != 0) = true := by simpa using h1
    have hb2 : ((0 : Int) == i) = false := by rw [beq_eq_false_iff_ne]; omega
    go_enter Try.func32, Try.ntmps32
    go_wp2_with fail
    refine wp_text (S := Fr w [(w.heap.size, [.int .i64 x, .int .i64 i])]) (by kernel_rfl) (by kernel_rfl) ?hS (fun hT => ?_)
    case hS => exact Fr.drew hF
    have hT9 := Lib.hid hT
    clear hT hF
    repeat (first
      | (refine text_value (v := ?_) hT9.out (by rfl) ?_ ?_; rotate_left; (focus (intro w5 hS; have r := hS.rule 0 rfl; go_simp <;> with_reducible rfl)); (try simp only [Act.put, List.setIfInBounds_toArray, List.set_cons_zero, List.set_cons_succ]))
      | (refine text_off hT9.out (by rfl) ?_; (try simp only [Act.put, List.setIfInBounds_toArray, List.set_cons_zero, List.set_cons_succ]))
      | (refine text_call (v := ?_) (f := ?_) (args := ?_) hT9.out (by rfl) ?_ ?_ ?_; rotate_left 3; (focus (intro w5 hS; have r := hS.rule 0 rfl; go_simp; constructor <;> with_reducible rfl)); (focus (intro w5 hS; (first | (with_reducible refine (cN.out _).mono ?_; rintro e w6 ⟨rfl, hb5⟩; constructor; with_reducible rfl; exact hS.over hb5)))); (try simp only [Act.put, List.setIfInBounds_toArray, List.set_cons_zero, List.set_cons_succ])))
    refine InText.nil fun w5 hF => ?_
    clear hT9
    go_wp2_with fail
    go_ret
    exact ⟨rfl, hF.below⟩
end

section
variable {s : Nat} {F : Nat → Prop} {l : List Int} {w : World}
set_option maxHeartbeats 800000 in
theorem now_any (x : Int) (hx : In64 x) (hl : l.length ≤ 1000000) (hS : IsS w s F l) :
    Calls Try.prog 30 #[.pointer (some ⟨s, 0, none⟩), .int .i64 x] w fun e w' => e = .returned (.int .i64 (nowL l x)) ∧ w' = w := by
  obtain ⟨A0, c0, mp, A, cap, r, hsl, _, hlook, hrow⟩ := hS.look hx hl
  have hc := cells1 hrow
  have hidl := ids_length_le l x
  have hnow : nowL l x = (ids l x).getLastD 0 := rfl
  rw [hnow]
  clear hnow hrow
  generalize ids l x = m at *
  rcases hc with rfl | ⟨g, rfl, hg, hc⟩
  · go_enter Try.func30, Try.ntmps30
    go_wp2
    go_ret
    exact ⟨rfl, rfl⟩
  · by_cases h0 : m.length = 0
    · have hm : m = [] := List.eq_nil_of_length_eq_zero h0
      subst hm
      go_enter Try.func30, Try.ntmps30
      go_wp2
      go_ret
      exact ⟨rfl, rfl⟩
    · have hlast := hc (m.length - 1) (by omega)
      have e1 : m.getLastD 0 = m.getD (m.length - 1) 0 := by
        rcases m with _ | ⟨a, m⟩
        · simp at h0
        · rw [List.getLastD_cons]
          simp [List.getD, List.getLastD_eq_getLast?, List.getLast?_eq_getElem?]
          cases m <;> simp
      rw [e1]
      generalize m.getD (m.length - 1) 0 = z at *
      have hb : ((m.length : Int) == 0) = false := by rw [beq_eq_false_iff_ne]; omega
      have hw : wrap64 ((m.length : Int) - 1) = ((m.length - 1 : Nat) : Int) := by rw [w64 _ (by omega)]; omega
      have hin : (0 : Int) ≤ ((m.length - 1 : Nat) : Int) ∧ ((m.length - 1 : Nat) : Int) < m.length := by omega
      clear hc
      go_enter Try.func30, Try.ntmps30
      go_wp2
      go_ret
      exact ⟨rfl, rfl⟩

set_option maxHeartbeats 800000 in
theorem countS_any (hl : l.length ≤ 1000000) (hS : IsS w s F l) :
    Calls Try.prog 13 #[.pointer (some ⟨s, 0, none⟩)] w fun e w' => e = .returned (.int .i64 l.length) ∧ w' = w := by
  obtain ⟨A0, c0, mp, A, cap, r, hsl, _⟩ := hS.look (x := 0) (by unfold In64; omega) hl
  go_enter Try.func13, Try.ntmps13
  go_wp2
  go_ret
  exact ⟨rfl, rfl⟩

set_option maxHeartbeats 800000 in
theorem is_any (x i : Int) (hx : In64 x) (hl : l.length ≤ 1000000) (hS : IsS w s F l) :
    Calls Try.prog 32 #[.pointer (some ⟨s, 0, none⟩), .agg #[.int .i64 x, .int .i64 i]] w fun e w' => e = .returned (.bool (decide (i ≠ 0 ∧ nowL l x = i))) ∧ Below w.heap.size w w' := by
  have hF := (Fr.start w).push w.heap.size rfl [.int .i64 x, .int .i64 i] 70
  have r := hF.rule 0 rfl
  have cN : Hid (∀ v : World, Below w.heap.size w v → Calls Try.prog 30 #[.pointer (some ⟨s, 0, none⟩), .int .i64 x] v fun e w' => e = .returned (.int .i64 (nowL l x)) ∧ Below v.heap.size v w') := Lib.hid fun v hv => (now_any x hx hl (hS.over hv)).mono fun _ _ ⟨h, e⟩ => ⟨h, e ▸ Below.refl _ _⟩
  generalize nowL l x = n at *
  by_cases h1 : i = 0
  · subst h1
    go_enter Try.func32, Try.ntmps32
    go_wp2_with fail
    refine wp_text (S := Fr w [(w.heap.size, [.int .i64 x, .int .i64 0])]) (by kernel_rfl) (by kernel_rfl) ?hS (fun hT => ?_)
    case hS => exact Fr.drew hF
    have hT9 := Lib.hid hT
    clear hT hF
    repeat (first
      | (refine text_value (v := ?_) hT9.out (by rfl) ?_ ?_; rotate_left; (focus (intro w5 hS; have r := hS.rule 0 rfl; go_simp <;> with_reducible rfl)); (try simp only [Act.put, List.setIfInBounds_toArray, List.set_cons_zero, List.set_cons_succ]))
      | (refine text_off hT9.out (by rfl) ?_; (try simp only [Act.put, List.setIfInBounds_toArray, List.set_cons_zero, List.set_cons_succ]))
      | (refine text_call (v := ?_) (f := ?_) (args := ?_) hT9.out (by rfl) ?_ ?_ ?_; rotate_left 3; (focus (intro w5 hS; have r := hS.rule 0 rfl; go_simp; constructor <;> with_reducible rfl)); (focus (intro w5 hS; (first | fail))); (try simp only [Act.put, List.setIfInBounds_toArray, List.set_cons_zero, List.set_cons_succ])))
    refine InText.nil fun w5 hF => ?_
    clear hT9
    go_wp2_with fail
    go_ret
    exact ⟨ret_bool (by simp), hF.below⟩
  · have hb : (i != 0) = true := by simpa using h1
    go_enter Try.func32, Try.ntmps32
    go_wp2_with fail
    refine wp_text (S := Fr w [(w.heap.size, [.int .i64 x, .int .i64 i])]) (by kernel_rfl) (by kernel_rfl) ?hS (fun hT => ?_)
    case hS => exact Fr.drew hF
    have hT9 := Lib.hid hT
    clear hT hF
    repeat (first
      | (refine text_value (v := ?_) hT9.out (by rfl) ?_ ?_; rotate_left; (focus (intro w5 hS; have r := hS.rule 0 rfl; go_simp <;> with_reducible rfl)); (try simp only [Act.put, List.setIfInBounds_toArray, List.set_cons_zero, List.set_cons_succ]))
      | (refine text_off hT9.out (by rfl) ?_; (try simp only [Act.put, List.setIfInBounds_toArray, List.set_cons_zero, List.set_cons_succ]))
      | (refine text_call (v := ?_) (f := ?_) (args := ?_) hT9.out (by rfl) ?_ ?_ ?_; rotate_left 3; (focus (intro w5 hS; have r := hS.rule 0 rfl; go_simp; constructor <;> with_reducible rfl)); (focus (intro w5 hS; (first | (with_reducible refine (cN.out _ hS.below).mono ?_; rintro e w6 ⟨rfl, hb5⟩; constructor; with_reducible rfl; exact hS.over hb5)))); (try simp only [Act.put, List.setIfInBounds_toArray, List.set_cons_zero, List.set_cons_succ])))
    refine InText.nil fun w5 hF => ?_
    clear hT9
    go_wp2_with fail
    go_ret
    exact ⟨ret_bool (by rw [Bool.eq_iff_iff]; simp [h1]), hF.below⟩

end
end Go.Proofs.Ytmihfpdbaagjnaa
