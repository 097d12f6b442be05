/- Shared cells: the contracts of the accesses. -/
import Derived.Test.YtnlepgbmbdmjbaaCellA
namespace Go.Proofs.Ytnlepgbmbdmjbaa
open Go.RowKit Go.Maps
set_option maxRecDepth 100000

section
variable {w w' : World} {c n : Nat} {F : Nat → Prop} {f : Plc → Int} {q : Cnt}
theorem IsC.more (h : IsC w c F f q n) (o : Obj) : IsC (w.alloc o) c F f q n := by
  obtain ⟨mp, hb, hm, hF⟩ := h
  exact ⟨mp, hb.more o, hm.more o, hF⟩
theorem IsC.drew (h : IsC w c F f q n) : IsC w.drew c F f q n := by
  obtain ⟨mp, hb, hm, hF⟩ := h
  exact ⟨mp, hb, hm.drew, hF⟩
theorem IsC.at (h : IsC w c F f q n) : F c := by
  obtain ⟨mp, hb, hm, hF⟩ := h
  exact (hF c).2 (.inl rfl)
theorem IsC.tick (h : IsC w c F f q n) {i : Nat} {v : Value} {q' : Cnt} (hi : 0 < i ∧ i < 6) (hq : ∀ mp, (cv mp q).set i v = cv mp q') : IsC (w.setCell ⟨c, i, none⟩ v) c F f q' n := by
  obtain ⟨mp, hb, hm, hF⟩ := h
  refine ⟨mp, hq mp ▸ hb.set (by simp [cv]; omega) v, hm.kept fun b e => Below.heap_setCell _ _ _ _ fun e' => not_map_cells hm hb (by rw [e]; exact congrArg some e'), hF⟩
theorem IsC.seen (h : IsC w c F f q n) : ∃ mp, (∀ i, w.cell? ⟨c, i, none⟩ = (cv mp q)[i]?) ∧ (∀ i, i < 6 → w.frozen? ⟨c, i, none⟩ = false) ∧ c < w.heap.size := by
  obtain ⟨mp, hb, hm, hF⟩ := h
  exact ⟨mp, hb.rule, hb.thaw, hb.1⟩
/-- A field of c, whatever has been made since. -/
theorem cell_more {vs : List Value} (hc : c < w.heap.size) (h : ∀ i, w.cell? ⟨c, i, none⟩ = vs[i]?) (o : Obj) : ∀ i, (w.alloc o).cell? ⟨c, i, none⟩ = vs[i]? := fun i => by rw [World.cell?_of_block (w := w) (Below.heap_alloc w o c hc)]; exact h i
end

theorem put_any {c n : Nat} {F : Nat → Prop} {f : Plc → Int} {q : Cnt} {w : World} (a b d v : Int) (hx : Wf (a, b, d)) (hv : InU v) (hn : n < maxLen) (hC : IsC w c F f q n) :
    Calls Try.prog 50 #[.pointer (some ⟨c, 0, none⟩), .agg #[.int .i64 a, .int .i64 b, .int .i64 d], .int .u64 v] w fun e w' => e = .returned (.tuple #[]) ∧ ∃ F', IsC w' c F' (upd f (a, b, d) v) q (n + 1) ∧ Step F F' w w' := by
  by_cases h0 : v = 0
  · subst h0
    exact (put_zero a b d hx hC).mono fun e w' ⟨h1, F', h2, h3⟩ => ⟨h1, F', h2.mono (Nat.le_succ _), h3⟩
  · exact put_word a b d v hx hv h0 hn hC

set_option maxHeartbeats 800000 in
theorem new_any (w : World) : Calls Try.prog 29 #[] w fun e w' => e = .returned (.pointer (some ⟨w.heap.size, 0, none⟩)) ∧ IsC w' w.heap.size (fun k => k = w.heap.size) (fun _ => 0) ⟨0, 0, 0, 0, 0⟩ 0 ∧ Below w.heap.size w w' := by
  go_enter Try.func29, Try.ntmps29
  go_wp2
  go_ret
  exact ⟨rfl, ⟨none, Blk.new 0 w (cv none ⟨0, 0, 0, 0, 0⟩) 86, .inl ⟨rfl, rfl⟩, fun k => by simp⟩, (Below.refl _ _).alloc (Nat.le_refl _) _⟩

set_option maxHeartbeats 800000 in
theorem peek_any {c n : Nat} {F : Nat → Prop} {f : Plc → Int} {q : Cnt} {w : World} (a b d : Int) (hx : Wf (a, b, d)) (hC : IsC w c F f q n) :
    Calls Try.prog 46 #[.pointer (some ⟨c, 0, none⟩), .agg #[.int .i64 a, .int .i64 b, .int .i64 d]] w fun e w' => e = .returned (.int .u64 (f (a, b, d))) ∧ Below w.heap.size w w' := by
  obtain ⟨mp, hb, hm, hF⟩ := hC
  go_enter Try.func46, Try.ntmps46
  go_wp2_with fail
  refine Ord.wp_chain [] (fun w' => (Below w.heap.size w w' ∧ Blk 0 w' c (cv mp q) ∧ Blk 0 w' w.heap.size [.int .i64 a, .int .i64 b, .int .i64 d]) ∧ MapIs w' mp f n) (fun _ _ => True) (by kernel_rfl) (by kernel_rfl) (by kernel_rfl) ⟨⟨((Below.refl _ _).alloc (Nat.le_refl _) _).drew, (hb.more _).drew, (Blk.new 0 w _ _).drew⟩, (hm.more _).drew⟩ trivial (fun hT => ?_)
  have hT9 := Lib.hid hT
  clear hT
  repeat (first
    | (refine Ord.ch_value (v := ?_) hT9.out (by decide) (by rfl) ?_ ?_; rotate_left; (focus (intro w5 hS; have r := hS.1.2.1.rule; unfold cv at r; have r2 := hS.1.2.2.rule; have hl := hS.2.look hx; simp only [pv] at hl; go_simp <;> with_reducible rfl)); (try simp only [Act.put, List.setIfInBounds_toArray, List.set_cons_zero, List.set_cons_succ]))
    | (refine Ord.ch_off hT9.out (by decide) (by rfl) ?_; (try simp only [Act.put, List.setIfInBounds_toArray, List.set_cons_zero, List.set_cons_succ])))
  refine Ord.InText.nil fun w5 hS => ?_
  clear hT9
  obtain ⟨hA9, hM9⟩ := Ord.chain_end hS
  clear hS
  go_wp2
  go_ret
  exact ⟨rfl, hA9.1.1⟩

theorem ticked {w : World} {c n : Nat} {F : Nat → Prop} {f : Plc → Int} {q q1 : Cnt} {mp : Option Nat} (hb : Blk 0 w c (cv mp q)) (hm : MapIs w mp f n) (hF : F c) {i : Nat} {v : Value} (hi : i < 6) (hq : (cv mp q).set i v = cv mp q1) (vs : List Value) (t : TypeId) :
    At F c w w.heap.size vs mp q1 ((w.setCell ⟨c, i, none⟩ v).alloc (.cells vs.toArray t)) ∧ MapIs ((w.setCell ⟨c, i, none⟩ v).alloc (.cells vs.toArray t)) mp f n :=
  ⟨⟨((Turn.refl _ _).setCell (fun _ => hF) _).alloc _, hq ▸ (hb.set hi v).more _, (Blk.new 0 (w.setCell ⟨c, i, none⟩ v) vs t).at (by simp)⟩,
    (hm.kept fun b e => Below.heap_setCell _ _ _ _ fun e' => not_map_cells hm hb (by rw [e]; exact congrArg some e')).more _⟩
theorem IsC.of {w w0 : World} {c n B : Nat} {F : Nat → Prop} {f : Plc → Int} {q : Cnt} {mp : Option Nat} {bv : List Value} (h : At F c w0 B bv mp q w) (hm : MapIs w mp f n) (hF : ∀ k, F k ↔ (k = c ∨ mp = some k)) : IsC w c F f q n := ⟨mp, h.2.1, hm, hF⟩

set_option maxHeartbeats 800000 in
theorem load_any {c n : Nat} {F : Nat → Prop} {f : Plc → Int} {q : Cnt} {w : World} (a b d : Int) (hx : Wf (a, b, d)) (hC : IsC w c F f q n) :
    Calls Try.prog 42 #[.pointer (some ⟨c, 0, none⟩), .agg #[.int .i64 a, .int .i64 b, .int .i64 d]] w fun e w' => e = .returned (.int .u64 (f (a, b, d))) ∧ IsC w' c F f { q with l := wrap64 (q.l + 1) } n ∧ Step F F w w' := by
  have hFc := hC.at
  obtain ⟨mp, hb, hm, hF⟩ := hC
  have r0 := hb.rule
  have hcl := hb.1
  have r1 := cell_more hcl r0
  have z1 := hb.thaw 1 (by simp [cv])
  have hS0 := ticked hb hm hFc (i := 1) (v := .int .i64 (wrap64 (q.l + 1))) (q1 := { q with l := wrap64 (q.l + 1) }) (by omega) rfl [.int .i64 a, .int .i64 b, .int .i64 d] 39
  unfold cv at r0 r1
  go_enter Try.func42, Try.ntmps42
  go_wp2_with fail
  generalize (w.setCell ⟨c, 1, none⟩ (.int .i64 (wrap64 (q.l + 1)))).alloc _ = w1 at *
  clear r0 r1 z1
  refine Ord.wp_chain [] (fun w' => At F c w w.heap.size [.int .i64 a, .int .i64 b, .int .i64 d] mp { q with l := wrap64 (q.l + 1) } w' ∧ MapIs w' mp f n) (fun _ _ => True) (by kernel_rfl) (by kernel_rfl) (by kernel_rfl) ⟨hS0.1.drew, hS0.2.drew⟩ trivial (fun hT => ?_)
  have hT9 := Lib.hid hT
  clear hT
  repeat (first
    | (refine Ord.ch_value (v := ?_) hT9.out (by decide) (by rfl) ?_ ?_; rotate_left; (focus (intro w5 hS; have r := hS.1.2.1.rule; unfold cv at r; have r2 := hS.1.2.2.rule; have hl := hS.2.look hx; simp only [pv] at hl; go_simp <;> with_reducible rfl)); (try simp only [Act.put, List.setIfInBounds_toArray, List.set_cons_zero, List.set_cons_succ]))
    | (refine Ord.ch_off hT9.out (by decide) (by rfl) ?_; (try simp only [Act.put, List.setIfInBounds_toArray, List.set_cons_zero, List.set_cons_succ])))
  refine Ord.InText.nil fun w5 hS => ?_
  clear hT9
  obtain ⟨hA9, hM9⟩ := Ord.chain_end hS
  clear hS
  go_wp2
  go_ret
  exact ⟨rfl, .of hA9.1 hA9.2 hF, ⟨hA9.1.1, fun k h => .inl h⟩⟩

set_option maxHeartbeats 800000 in
theorem store_any {c n : Nat} {F : Nat → Prop} {f : Plc → Int} {q : Cnt} {w : World} (a b d v : Int) (hx : Wf (a, b, d)) (hv : InU v) (hn : n < maxLen) (hC : IsC w c F f q n) :
    Calls Try.prog 40 #[.pointer (some ⟨c, 0, none⟩), .agg #[.int .i64 a, .int .i64 b, .int .i64 d], .int .u64 v] w fun e w' => e = .returned (.tuple #[]) ∧ ∃ F', IsC w' c F' (upd f (a, b, d) v) { q with s := wrap64 (q.s + 1) } (n + 1) ∧ Step F F' w w' := by
  have hFc := hC.at
  obtain ⟨mp, hb, hm, hF⟩ := hC
  have r0 := hb.rule
  have hcl := hb.1
  have r1 := cell_more hcl r0
  have z1 := hb.thaw 2 (by simp [cv])
  have hS0 := ticked hb hm hFc (i := 2) (v := .int .i64 (wrap64 (q.s + 1))) (q1 := { q with s := wrap64 (q.s + 1) }) (by omega) rfl [.int .i64 a, .int .i64 b, .int .i64 d] 39
  unfold cv at r0 r1
  go_enter Try.func40, Try.ntmps40
  go_wp2_with fail
  generalize (w.setCell ⟨c, 2, none⟩ (.int .i64 (wrap64 (q.s + 1)))).alloc _ = w1 at *
  clear r0 r1 z1
  refine (put_any a b d v hx hv hn (.of hS0.1 hS0.2 hF)).mono ?_
  rintro e w2 ⟨rfl, F', hC2, hs2⟩
  go_wp2
  go_end0
  exact ⟨rfl, F', hC2, (Step.mk hS0.1.1 fun k h => .inl h).trans hs2⟩

/-- Whether it was, and the words and counts behind it. -/
def swq (q : Cnt) (b : Bool) : Cnt := { q with w := wrap64 (q.w + 1), f := if b then q.f else wrap64 (q.f + 1) }
def swf (f : Plc → Int) (x : Plc) (o v : Int) : Plc → Int := if f x = o then upd f x v else f

set_option maxHeartbeats 1600000 in
theorem swap_any {c n : Nat} {F : Nat → Prop} {f : Plc → Int} {q : Cnt} {w : World} (a b d o v : Int) (hx : Wf (a, b, d)) (hv : InU v) (hn : n < maxLen) (hC : IsC w c F f q n) :
    Calls Try.prog 43 #[.pointer (some ⟨c, 0, none⟩), .agg #[.int .i64 a, .int .i64 b, .int .i64 d], .int .u64 o, .int .u64 v] w fun e w' => e = .returned (.bool (decide (f (a, b, d) = o))) ∧ ∃ F', IsC w' c F' (swf f (a, b, d) o v) (swq q (decide (f (a, b, d) = o))) (n + 1) ∧ Step F F' w w' := by
  have hFc := hC.at
  obtain ⟨mp, hb, hm, hF⟩ := hC
  have r0 := hb.rule
  have hcl := hb.1
  have r1 := cell_more hcl r0
  have z1 := hb.thaw 3 (by simp [cv])
  have hS0 := ticked hb hm hFc (i := 3) (v := .int .i64 (wrap64 (q.w + 1))) (q1 := { q with w := wrap64 (q.w + 1) }) (by omega) rfl [.int .i64 a, .int .i64 b, .int .i64 d] 39
  unfold cv at r0 r1
  go_enter Try.func43, Try.ntmps43
  go_wp2_with fail
  generalize (w.setCell ⟨c, 3, none⟩ (.int .i64 (wrap64 (q.w + 1)))).alloc _ = w1 at *
  clear r0 r1 z1
  refine Ord.wp_chain [] (fun w' => At F c w w.heap.size [.int .i64 a, .int .i64 b, .int .i64 d] mp { q with w := wrap64 (q.w + 1) } w' ∧ MapIs w' mp f n) (fun _ _ => True) (by kernel_rfl) (by kernel_rfl) (by kernel_rfl) ⟨hS0.1.drew, hS0.2.drew⟩ trivial (fun hT => ?_)
  have hT9 := Lib.hid hT
  clear hT
  repeat (first
    | (refine Ord.ch_value (v := ?_) hT9.out (by decide) (by rfl) ?_ ?_; rotate_left; (focus (intro w5 hS; have r := hS.1.2.1.rule; unfold cv at r; have r2 := hS.1.2.2.rule; have hl := hS.2.look hx; simp only [pv] at hl; go_simp <;> with_reducible rfl)); (try simp only [Act.put, List.setIfInBounds_toArray, List.set_cons_zero, List.set_cons_succ]))
    | (refine Ord.ch_off hT9.out (by decide) (by rfl) ?_; (try simp only [Act.put, List.setIfInBounds_toArray, List.set_cons_zero, List.set_cons_succ])))
  refine Ord.InText.nil fun w5 hS => ?_
  clear hT9
  obtain ⟨hA9, hM9⟩ := Ord.chain_end hS
  clear hS
  have HX := Lib.hid hx
  clear hx
  by_cases he : f (a, b, d) = o
  · have r := hA9.1.2.1.rule
    have r2 := hA9.1.2.2.rule
    unfold cv at r
    have hb1 : (f (a, b, d) != o) = false := by simpa using he
    have hE := Lib.hid he
    clear he
    go_wp2_with fail
    refine (put_any a b d v HX.out hv hn (.of hA9.1 hA9.2 hF)).mono ?_
    rintro e w2 ⟨rfl, F', hC2, hs2⟩
    clear r r2
    go_wp2
    go_ret
    have hE' := hE.out
    refine ⟨by simp [hE'], F', ?_, (Step.mk hA9.1.1 fun k h => .inl h).trans hs2⟩
    simp only [swf, swq, hE', if_true, decide_true]
    exact hC2
  · have r := hA9.1.2.1.rule
    have r2 := hA9.1.2.2.rule
    have z4 := hA9.1.2.1.thaw 4 (by simp [cv])
    unfold cv at r
    have hb1 : (f (a, b, d) != o) = true := by simpa using he
    have hE := Lib.hid he
    clear he
    go_wp2
    go_ret
    have hE' := hE.out
    refine ⟨by simp [hE'], F, ?_, ⟨hA9.1.1.setCell (fun _ => hFc) _, fun k h => .inl h⟩⟩
    simp only [swf, swq, hE', if_false, decide_false, Bool.false_eq_true]
    exact (IsC.tick (.of hA9.1 hA9.2 hF) (by omega) fun _ => rfl).mono (Nat.le_succ _)

set_option maxHeartbeats 1600000 in
theorem add_any {c n : Nat} {F : Nat → Prop} {f : Plc → Int} {q : Cnt} {w : World} (a b d v : Int) (hx : Wf (a, b, d)) (hn : n < maxLen) (hC : IsC w c F f q n) :
    Calls Try.prog 44 #[.pointer (some ⟨c, 0, none⟩), .agg #[.int .i64 a, .int .i64 b, .int .i64 d], .int .u64 v] w fun e w' => e = .returned (.int .u64 (f (a, b, d))) ∧ ∃ F', IsC w' c F' (upd f (a, b, d) (IntKind.u64.wrap (f (a, b, d) + v))) { q with a := wrap64 (q.a + 1) } (n + 1) ∧ Step F F' w w' := by
  have hFc := hC.at
  obtain ⟨mp, hb, hm, hF⟩ := hC
  have r0 := hb.rule
  have hcl := hb.1
  have r1 := cell_more hcl r0
  have z1 := hb.thaw 5 (by simp [cv])
  have hS0 := ticked hb hm hFc (i := 5) (v := .int .i64 (wrap64 (q.a + 1))) (q1 := { q with a := wrap64 (q.a + 1) }) (by omega) rfl [.int .i64 a, .int .i64 b, .int .i64 d] 39
  unfold cv at r0 r1
  go_enter Try.func44, Try.ntmps44
  go_wp2_with fail
  generalize (w.setCell ⟨c, 5, none⟩ (.int .i64 (wrap64 (q.a + 1)))).alloc _ = w1 at *
  clear r0 r1 z1
  refine Ord.wp_chain [] (fun w' => At F c w w.heap.size [.int .i64 a, .int .i64 b, .int .i64 d] mp { q with a := wrap64 (q.a + 1) } w' ∧ MapIs w' mp f n) (fun _ _ => True) (by kernel_rfl) (by kernel_rfl) (by kernel_rfl) ⟨hS0.1.drew, hS0.2.drew⟩ trivial (fun hT => ?_)
  have hT9 := Lib.hid hT
  clear hT
  repeat (first
    | (refine Ord.ch_value (v := ?_) hT9.out (by decide) (by rfl) ?_ ?_; rotate_left; (focus (intro w5 hS; have r := hS.1.2.1.rule; unfold cv at r; have r2 := hS.1.2.2.rule; have hl := hS.2.look hx; simp only [pv] at hl; go_simp <;> with_reducible rfl)); (try simp only [Act.put, List.setIfInBounds_toArray, List.set_cons_zero, List.set_cons_succ]))
    | (refine Ord.ch_off hT9.out (by decide) (by rfl) ?_; (try simp only [Act.put, List.setIfInBounds_toArray, List.set_cons_zero, List.set_cons_succ])))
  refine Ord.InText.nil fun w5 hS => ?_
  clear hT9
  obtain ⟨hA9, hM9⟩ := Ord.chain_end hS
  clear hS
  have r2 := hA9.1.2.2.rule
  have HX := Lib.hid hx
  have hu : InU (IntKind.u64.wrap (f (a, b, d) + v)) := by rw [IntKind.wrap_u64]; unfold InU; omega
  clear hx
  go_wp2_with fail
  refine (put_any a b d (IntKind.u64.wrap (f (a, b, d) + v)) HX.out hu hn (.of hA9.1 hA9.2 hF)).mono ?_
  rintro e w2 ⟨rfl, F', hC2, hs2⟩
  clear r2
  go_wp2
  go_ret
  exact ⟨rfl, F', hC2, (Step.mk hA9.1.1 fun k h => .inl h).trans hs2⟩

set_option maxHeartbeats 800000 in
theorem count_any {c n : Nat} {F : Nat → Prop} {f : Plc → Int} {q : Cnt} {w : World} (hC : IsC w c F f q n) :
    Calls Try.prog 38 #[.pointer (some ⟨c, 0, none⟩)] w fun e w' => e = .returned (.agg #[.int .i64 q.l, .int .i64 q.s, .int .i64 q.w, .int .i64 q.f, .int .i64 q.a]) ∧ Below w.heap.size w w' := by
  obtain ⟨mp, hb, hm, hF⟩ := hC
  have r1 := cell_more hb.1 hb.rule
  unfold cv at r1
  go_enter Try.func38, Try.ntmps38
  go_wp2
  refine bodyPost_ret (v := .agg #[.int .i64 q.l, .int .i64 q.s, .int .i64 q.w, .int .i64 q.f, .int .i64 q.a]) (by simp [results, Try.results38, go_sem]) rfl ⟨rfl, ?_⟩
  exact (Below.refl _ _).alloc (Nat.le_refl _) _
end Go.Proofs.Ytnlepgbmbdmjbaa
