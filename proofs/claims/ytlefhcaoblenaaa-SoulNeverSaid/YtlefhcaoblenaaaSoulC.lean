/- Souls: what is asked: Now, Is, SlotOf, Count, All. -/
import Derived.Test.YtlefhcaoblenaaaSoulA
import Derived.Test.YtlefhcaoblenaaaSeq
import Derived.Lib.SliceRun
namespace Go.Proofs.Ytlefhcaoblenaaa
open Go.RowKit Go.Maps

theorem IsS.over {w w' : World} {s : Nat} {F : Nat → Prop} {l : List Int} (h : IsS w s F l) (hb : Below w.heap.size w w') : IsS w' s F l := h.loc (fun k hk => hb.block k (h.lt k hk)) hb.size
/-- What stands in the block, and what a look-up is told. -/
theorem IsS.look {w : World} {s : Nat} {F : Nat → Prop} {l : List Int} (h : IsS w s F l) {x : Int} (hx : In64 x) (hl : l.length ≤ 1000000) :
    ∃ A0 c0 mp A cap, (∀ i, w.cell? ⟨s, i, none⟩ = [Value.slice A0 l.length c0, Value.map mp][i]?) ∧ s < w.heap.size ∧ Cells1 w A0 l ∧ (Instr.lookup 38 (.map mp) (.int .i64 x) false).run Try.prog w = .ok (.slice A (ids l x).length cap) w ∧
      w.ownsRow 0 3 1 (.slice A (ids l x).length cap) (ids l x).length (ints (ids l x)) := by
  obtain ⟨v, mp, G, hb, ho, hm, _⟩ := h
  obtain ⟨A0, c0, rfl⟩ := ownsRow_slice ho
  rcases hm with ⟨rfl, rfl, _⟩ | ⟨b, rfl, hL⟩
  · refine ⟨A0, c0, none, none, 0, hb.rule, hb.1, cells1 ho, ?_, World.ownsRow_nil _ _ _ _⟩
    have := Maps.look_nil (w := w) false keyedI Try.underlying38 (zeroInts w) (keyI hx)
    simpa [ids_nil] using this
  · obtain ⟨A, cap, h1, h2, _⟩ := hL.look hx hl
    exact ⟨A0, c0, some b, A, cap, hb.rule, hb.1, cells1 ho, h1 w rfl, ownsRow_base h2 (Nat.zero_le _)⟩

section
variable {w : World}
set_option maxHeartbeats 800000 in
theorem now_nil (x : Int) : Calls Try.prog 9 #[.pointer none, .int .i64 x] w fun e w' => e = .returned (.int .i64 0) ∧ w' = w := by
  go_enter Try.func9, Try.ntmps9
  go_wp2
  go_ret
  exact ⟨rfl, rfl⟩
set_option maxHeartbeats 800000 in
theorem count_nil : Calls Try.prog 16 #[.pointer none] w fun e w' => e = .returned (.int .i64 0) ∧ w' = w := by
  go_enter Try.func16, Try.ntmps16
  go_wp2
  go_ret
  exact ⟨rfl, rfl⟩
set_option maxHeartbeats 800000 in
theorem all_nil (x : Int) : Calls Try.prog 14 #[.pointer none, .int .i64 x] w fun e w' => e = .returned (.slice none 0 0) ∧ w' = w := by
  go_enter Try.func14, Try.ntmps14
  go_wp2
  go_ret
  exact ⟨rfl, rfl⟩
set_option maxHeartbeats 800000 in
theorem slots_nil : Calls Try.prog 17 #[.pointer none] w fun e w' => e = .returned (.slice none 0 0) ∧ w' = w := by
  go_enter Try.func17, Try.ntmps17
  go_wp2
  go_ret
  exact ⟨rfl, rfl⟩
set_option maxHeartbeats 800000 in
theorem slotOf_nil (i : Int) : Calls Try.prog 12 #[.pointer none, .int .i64 i] w fun e w' => e = .returned (.int .i64 0) ∧ w' = w := by
  have c := @count_nil w
  by_cases h1 : i < 1
  · have hb : decide (i < 1) = true := by simp [h1]
    go_enter Try.func12, Try.ntmps12
    go_wp2
    go_ret
    exact ⟨rfl, rfl⟩
  · have hb : decide (i < 1) = false := by simp [h1]
    have hb2 : decide (i > 0) = true := by simp; omega
    go_enter Try.func12, Try.ntmps12
    go_wp2_with (refine c.mono ?_; rintro e w1 ⟨rfl, rfl⟩)
    go_ret
    exact ⟨rfl, rfl⟩
set_option maxHeartbeats 800000 in
theorem is_nil (x i : Int) : Calls Try.prog 11 #[.pointer none, .agg #[.int .i64 x, .int .i64 i]] w fun e w' => e = .returned (.bool false) ∧ Below w.heap.size w w' := by
  have hF := (Fr.start w).push w.heap.size rfl [.int .i64 x, .int .i64 i] 32
  have r := hF.rule 0 rfl
  have cN : Hid (∀ v : World, Calls Try.prog 9 #[.pointer none, .int .i64 x] v fun e w' => e = .returned (.int .i64 0) ∧ Below v.heap.size v w') := Lib.hid fun v => (now_nil x).mono fun _ _ ⟨h, e⟩ => ⟨h, e ▸ Below.refl _ _⟩
  by_cases h1 : i = 0
  · subst h1
    go_enter Try.func11, Try.ntmps11
    go_wp2_with fail
    refine wp_text (S := Fr w [(w.heap.size, [.int .i64 x, .int .i64 0])]) (by kernel_rfl) (by kernel_rfl) ?hS (fun hT => ?_)
    case hS => exact Fr.drew hF
    have hT9 := Lib.hid hT
    clear hT hF
    repeat (first
      | (refine text_value (v := ?_) hT9.out (by rfl) ?_ ?_; rotate_left; (focus (intro w5 hS; have r := hS.rule 0 rfl; go_simp <;> with_reducible rfl)); (try simp only [Act.put, List.setIfInBounds_toArray, List.set_cons_zero, List.set_cons_succ]))
      | (refine text_off hT9.out (by rfl) ?_; (try simp only [Act.put, List.setIfInBounds_toArray, List.set_cons_zero, List.set_cons_succ]))
      | (refine text_call (v := ?_) (f := ?_) (args := ?_) hT9.out (by rfl) ?_ ?_ ?_; rotate_left 3; (focus (intro w5 hS; have r := hS.rule 0 rfl; go_simp; constructor <;> with_reducible rfl)); (focus (intro w5 hS; (first | fail))); (try simp only [Act.put, List.setIfInBounds_toArray, List.set_cons_zero, List.set_cons_succ])))
    refine InText.nil fun w5 hF => ?_
    clear hT9
    go_wp2_with fail
    go_ret
    exact ⟨rfl, hF.below⟩
  · have hb : (i != 0) = true := by simpa using h1
    have hb2 : ((0 : Int) == i) = false := by rw [beq_eq_false_iff_ne]; omega
    go_enter Try.func11, Try.ntmps11
    go_wp2_with fail
    refine wp_text (S := Fr w [(w.heap.size, [.int .i64 x, .int .i64 i])]) (by kernel_rfl) (by kernel_rfl) ?hS (fun hT => ?_)
    case hS => exact Fr.drew hF
    have hT9 := Lib.hid hT
    clear hT hF
    repeat (first
      | (refine text_value (v := ?_) hT9.out (by rfl) ?_ ?_; rotate_left; (focus (intro w5 hS; have r := hS.rule 0 rfl; go_simp <;> with_reducible rfl)); (try simp only [Act.put, List.setIfInBounds_toArray, List.set_cons_zero, List.set_cons_succ]))
      | (refine text_off hT9.out (by rfl) ?_; (try simp only [Act.put, List.setIfInBounds_toArray, List.set_cons_zero, List.set_cons_succ]))
      | (refine text_call (v := ?_) (f := ?_) (args := ?_) hT9.out (by rfl) ?_ ?_ ?_; rotate_left 3; (focus (intro w5 hS; have r := hS.rule 0 rfl; go_simp; constructor <;> with_reducible rfl)); (focus (intro w5 hS; (first | (with_reducible refine (cN.out _).mono ?_; rintro e w6 ⟨rfl, hb5⟩; constructor; with_reducible rfl; exact hS.over hb5)))); (try simp only [Act.put, List.setIfInBounds_toArray, List.set_cons_zero, List.set_cons_succ])))
    refine InText.nil fun w5 hF => ?_
    clear hT9
    go_wp2_with fail
    go_ret
    exact ⟨rfl, hF.below⟩
end

section
variable {s : Nat} {F : Nat → Prop} {l : List Int} {w : World}
set_option maxHeartbeats 800000 in
theorem now_any (x : Int) (hx : In64 x) (hl : l.length ≤ 1000000) (hS : IsS w s F l) :
    Calls Try.prog 9 #[.pointer (some ⟨s, 0, none⟩), .int .i64 x] w fun e w' => e = .returned (.int .i64 (nowL l x)) ∧ w' = w := by
  obtain ⟨A0, c0, mp, A, cap, r, hsl, _, hlook, hrow⟩ := hS.look hx hl
  have hc := cells1 hrow
  have hidl := ids_length_le l x
  have hnow : nowL l x = (ids l x).getLastD 0 := rfl
  rw [hnow]
  clear hnow hrow
  generalize ids l x = m at *
  rcases hc with rfl | ⟨g, rfl, hg, hc⟩
  · go_enter Try.func9, Try.ntmps9
    go_wp2
    go_ret
    exact ⟨rfl, rfl⟩
  · by_cases h0 : m.length = 0
    · have hm : m = [] := List.eq_nil_of_length_eq_zero h0
      subst hm
      go_enter Try.func9, Try.ntmps9
      go_wp2
      go_ret
      exact ⟨rfl, rfl⟩
    · have hlast := hc (m.length - 1) (by omega)
      have e1 : m.getLastD 0 = m.getD (m.length - 1) 0 := by
        rcases m with _ | ⟨a, m⟩
        · simp at h0
        · rw [List.getLastD_cons]
          simp [List.getD, List.getLastD_eq_getLast?, List.getLast?_eq_getElem?]
          cases m <;> simp
      rw [e1]
      generalize m.getD (m.length - 1) 0 = z at *
      have hb : ((m.length : Int) == 0) = false := by rw [beq_eq_false_iff_ne]; omega
      have hw : wrap64 ((m.length : Int) - 1) = ((m.length - 1 : Nat) : Int) := by rw [w64 _ (by omega)]; omega
      have hin : (0 : Int) ≤ ((m.length - 1 : Nat) : Int) ∧ ((m.length - 1 : Nat) : Int) < m.length := by omega
      clear hc
      go_enter Try.func9, Try.ntmps9
      go_wp2
      go_ret
      exact ⟨rfl, rfl⟩

set_option maxHeartbeats 800000 in
theorem count_any (hl : l.length ≤ 1000000) (hS : IsS w s F l) :
    Calls Try.prog 16 #[.pointer (some ⟨s, 0, none⟩)] w fun e w' => e = .returned (.int .i64 l.length) ∧ w' = w := by
  obtain ⟨A0, c0, mp, A, cap, r, hsl, _⟩ := hS.look (x := 0) (by unfold In64; omega) hl
  go_enter Try.func16, Try.ntmps16
  go_wp2
  go_ret
  exact ⟨rfl, rfl⟩

set_option maxHeartbeats 800000 in
theorem slotOf_any (i : Int) (hi : In64 i) (hl : l.length ≤ 1000000) (hS : IsS w s F l) :
    Calls Try.prog 12 #[.pointer (some ⟨s, 0, none⟩), .int .i64 i] w fun e w' => e = .returned (.int .i64 (slotL l i)) ∧ w' = w := by
  obtain ⟨A0, c0, mp, A, cap, r, hsl, hc, _⟩ := hS.look (x := 0) (by unfold In64; omega) hl
  have cc := count_any hl hS
  unfold In64 at hi
  by_cases h1 : i < 1
  · have hb : decide (i < 1) = true := by simp [h1]
    have e : slotL l i = 0 := by simp [slotL]; omega
    rw [e]
    go_enter Try.func12, Try.ntmps12
    go_wp2
    go_ret
    exact ⟨rfl, rfl⟩
  · have hb : decide (i < 1) = false := by simp [h1]
    by_cases h2 : i > l.length
    · have hb2 : decide (i > (l.length : Int)) = true := by simp [h2]
      have e : slotL l i = 0 := by simp [slotL]; omega
      rw [e]
      go_enter Try.func12, Try.ntmps12
      go_wp2_with (refine cc.mono ?_; rintro e w1 ⟨rfl, rfl⟩)
      go_ret
      exact ⟨rfl, rfl⟩
    · have hb2 : decide (i > (l.length : Int)) = false := by simp; omega
      have e : slotL l i = l.getD (i - 1).toNat 0 := by unfold slotL; rw [if_pos (by omega)]
      rw [e]
      rcases hc with h0 | ⟨g, rfl, hg, hc⟩
      · rw [h0] at h2; simp at h2; omega
      obtain ⟨k, rfl⟩ : ∃ k : Nat, i = (k : Int) + 1 := ⟨(i - 1).toNat, by omega⟩
      have hk := hc k (by omega)
      rw [show ((k : Int) + 1 - 1).toNat = k by omega]
      generalize l.getD k 0 = z at *
      have hw : wrap64 ((k : Int) + 1 - 1) = (k : Int) := by rw [w64 _ (by omega)]; omega
      have hin : (0 : Int) ≤ (k : Int) ∧ (k : Int) < l.length := by omega
      clear hc
      go_enter Try.func12, Try.ntmps12
      go_wp2_with (refine cc.mono ?_; rintro e w1 ⟨rfl, rfl⟩)
      go_ret
      exact ⟨rfl, rfl⟩

set_option maxHeartbeats 800000 in
theorem is_any (x i : Int) (hx : In64 x) (hl : l.length ≤ 1000000) (hS : IsS w s F l) :
    Calls Try.prog 11 #[.pointer (some ⟨s, 0, none⟩), .agg #[.int .i64 x, .int .i64 i]] w fun e w' => e = .returned (.bool (decide (i ≠ 0 ∧ nowL l x = i))) ∧ Below w.heap.size w w' := by
  have hF := (Fr.start w).push w.heap.size rfl [.int .i64 x, .int .i64 i] 32
  have r := hF.rule 0 rfl
  have cN : Hid (∀ v : World, Below w.heap.size w v → Calls Try.prog 9 #[.pointer (some ⟨s, 0, none⟩), .int .i64 x] v fun e w' => e = .returned (.int .i64 (nowL l x)) ∧ Below v.heap.size v w') := Lib.hid fun v hv => (now_any x hx hl (hS.over hv)).mono fun _ _ ⟨h, e⟩ => ⟨h, e ▸ Below.refl _ _⟩
  generalize nowL l x = n at *
  by_cases h1 : i = 0
  · subst h1
    go_enter Try.func11, Try.ntmps11
    go_wp2_with fail
    refine wp_text (S := Fr w [(w.heap.size, [.int .i64 x, .int .i64 0])]) (by kernel_rfl) (by kernel_rfl) ?hS (fun hT => ?_)
    case hS => exact Fr.drew hF
    have hT9 := Lib.hid hT
    clear hT hF
    repeat (first
      | (refine text_value (v := ?_) hT9.out (by rfl) ?_ ?_; rotate_left; (focus (intro w5 hS; have r := hS.rule 0 rfl; go_simp <;> with_reducible rfl)); (try simp only [Act.put, List.setIfInBounds_toArray, List.set_cons_zero, List.set_cons_succ]))
      | (refine text_off hT9.out (by rfl) ?_; (try simp only [Act.put, List.setIfInBounds_toArray, List.set_cons_zero, List.set_cons_succ]))
      | (refine text_call (v := ?_) (f := ?_) (args := ?_) hT9.out (by rfl) ?_ ?_ ?_; rotate_left 3; (focus (intro w5 hS; have r := hS.rule 0 rfl; go_simp; constructor <;> with_reducible rfl)); (focus (intro w5 hS; (first | fail))); (try simp only [Act.put, List.setIfInBounds_toArray, List.set_cons_zero, List.set_cons_succ])))
    refine InText.nil fun w5 hF => ?_
    clear hT9
    go_wp2_with fail
    go_ret
    exact ⟨ret_bool (by simp), hF.below⟩
  · have hb : (i != 0) = true := by simpa using h1
    go_enter Try.func11, Try.ntmps11
    go_wp2_with fail
    refine wp_text (S := Fr w [(w.heap.size, [.int .i64 x, .int .i64 i])]) (by kernel_rfl) (by kernel_rfl) ?hS (fun hT => ?_)
    case hS => exact Fr.drew hF
    have hT9 := Lib.hid hT
    clear hT hF
    repeat (first
      | (refine text_value (v := ?_) hT9.out (by rfl) ?_ ?_; rotate_left; (focus (intro w5 hS; have r := hS.rule 0 rfl; go_simp <;> with_reducible rfl)); (try simp only [Act.put, List.setIfInBounds_toArray, List.set_cons_zero, List.set_cons_succ]))
      | (refine text_off hT9.out (by rfl) ?_; (try simp only [Act.put, List.setIfInBounds_toArray, List.set_cons_zero, List.set_cons_succ]))
      | (refine text_call (v := ?_) (f := ?_) (args := ?_) hT9.out (by rfl) ?_ ?_ ?_; rotate_left 3; (focus (intro w5 hS; have r := hS.rule 0 rfl; go_simp; constructor <;> with_reducible rfl)); (focus (intro w5 hS; (first | (with_reducible refine (cN.out _ hS.below).mono ?_; rintro e w6 ⟨rfl, hb5⟩; constructor; with_reducible rfl; exact hS.over hb5)))); (try simp only [Act.put, List.setIfInBounds_toArray, List.set_cons_zero, List.set_cons_succ])))
    refine InText.nil fun w5 hF => ?_
    clear hT9
    go_wp2_with fail
    go_ret
    exact ⟨ret_bool (by rw [Bool.eq_iff_iff]; simp [h1]), hF.below⟩

set_option maxHeartbeats 800000 in
/-- slices.Clone of numbers. -/
theorem clone_any {A : Option Addr} {cap : Nat} {m : List Int} (hm : m.length ≤ 1000000) (ho : w.ownsRow 0 3 1 (.slice A m.length cap) m.length (ints m)) :
    Calls Try.prog 19 #[.slice A m.length cap] w fun e w' => ∃ A' cap', e = .returned (.slice A' m.length cap') ∧ w'.ownsRow w.heap.size 3 1 (.slice A' m.length cap') m.length (ints m) ∧ Below w.heap.size w w' := by
  obtain ⟨i0, hi, hz0, hz1, hz2⟩ := info_parts infoInt
  have q22 : ∀ (w : World) (a : Option Addr) (n c n' c' : Nat), (binOp .eql 22 (.slice a n c) (.slice none n' c')).run Try.prog w = .ok (.bool a.isNone) w := fun w a n c n' c' => Lib.run_eql_slice_nil w _ _ a n c n' c' Try.underlying22
  rcases ho.2 with ⟨hv, h0⟩ | ⟨g, cap', cur, hv, _⟩
  · have hm0 : m = [] := List.eq_nil_of_length_eq_zero h0
    subst hm0
    obtain ⟨rfl, -, rfl⟩ : A = none ∧ (0 : Nat) = 0 ∧ cap = 0 := by simpa using hv
    go_enter Try.func19, Try.ntmps19
    go_wp2
    go_ret
    exact ⟨none, 0, rfl, World.ownsRow_nil _ _ _ _, Below.refl _ _⟩
  · obtain ⟨rfl, -, rfl⟩ : A = some ⟨g, 0, none⟩ ∧ m.length = m.length ∧ cap = cap' := by simpa using hv
    have hown0 : (w.alloc (.cells #[] 3)).ownsRow w.heap.size 3 1 (.slice (some ⟨w.heap.size, 0, none⟩) 0 0) 0 [] := ⟨rfl, .inr ⟨w.heap.size, 0, #[], rfl, Nat.le_refl _, heap_alloc_new w _, Nat.le_refl _, Nat.zero_le _, rfl, rfl⟩⟩
    obtain ⟨v', w2, hrun, hown2, hgrow, hv'⟩ := run_append_rows (P := Try.prog) 22 22 w.heap.size 3 i0 (.int .i64 0) 1 8 Try.underlying22 hi hz0 hz1 hz2 rfl (by decide) _ _ 0 [] hown0 (some ⟨g, 0, none⟩) m.length cap (ints m) (ints_length m)
      (.inr ⟨_, rfl, (ho.alloc _).cells rfl⟩) (fun x hx => by obtain ⟨o, _, rfl⟩ := List.mem_map.1 hx; rfl) (by simp [maxLen]; omega) (by omega) (by simp)
    simp only [Nat.zero_add, List.nil_append] at hown2
    obtain ⟨A', cap2, rfl⟩ := ownsRow_slice hown2
    go_enter Try.func19, Try.ntmps19
    go_wp2_with (first | (at_builtin; refine wpList_append_run rfl _ _ 22 rfl hrun rfl rfl ?_))
    go_ret
    exact ⟨A', cap2, rfl, hown2, ((Below.refl _ w).alloc (Nat.le_refl _) _).grown hgrow (by simp) (by intro k hk; simp [Value.ownBlock] at hk; omega)⟩

set_option maxHeartbeats 800000 in
theorem all_any (x : Int) (hx : In64 x) (hl : l.length ≤ 1000000) (hS : IsS w s F l) :
    Calls Try.prog 14 #[.pointer (some ⟨s, 0, none⟩), .int .i64 x] w fun e w' => ∃ A cap, e = .returned (.slice A (ids l x).length cap) ∧ w'.ownsRow w.heap.size 3 1 (.slice A (ids l x).length cap) (ids l x).length (ints (ids l x)) ∧ Below w.heap.size w w' := by
  obtain ⟨A0, c0, mp, A, cap, r, hsl, _, hlook, hrow⟩ := hS.look hx hl
  have hidl := ids_length_le l x
  have hc := clone_any (by omega) hrow
  clear hrow
  go_enter Try.func14, Try.ntmps14
  go_wp2_with (refine hc.mono ?_; rintro e w1 ⟨A', cap', rfl, h1, h2⟩)
  go_ret
  exact ⟨A', cap', rfl, h1, h2⟩
end
end Go.Proofs.Ytlefhcaoblenaaa
