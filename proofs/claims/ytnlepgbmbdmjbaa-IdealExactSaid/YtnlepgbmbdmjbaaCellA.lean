/- Shared cells: what they are in memory; the contracts of the functions of package cell that work on words. -/
import Derived.Test.YtnlepgbmbdmjbaaPlc
import Derived.Test.YtnlepgbmbdmjbaaOrd
import Derived.Deep.Light
import Derived.Shelf.SlMaps.Clone
namespace Go.Proofs.Ytnlepgbmbdmjbaa
open Go.RowKit Go.Maps
set_option maxRecDepth 100000

/-- How many accesses there were. -/
structure Cnt where
  l : Int
  s : Int
  w : Int
  f : Int
  a : Int
def cv (mp : Option Nat) (q : Cnt) : List Value := [.map mp, .int .i64 q.l, .int .i64 q.s, .int .i64 q.w, .int .i64 q.f, .int .i64 q.a]
/-- Block c is shared cells: the words f, in at most n entries, the counts q; F are the blocks that it is made of. -/
def IsC (w : World) (c : Nat) (F : Nat → Prop) (f : Plc → Int) (q : Cnt) (n : Nat) : Prop :=
  ∃ mp, Blk 0 w c (cv mp q) ∧ MapIs w mp f n ∧ ∀ k, F k ↔ (k = c ∨ mp = some k)

theorem not_map_cells {w : World} {mp : Option Nat} {f : Plc → Int} {n c : Nat} {v : Value} {vs : List Value} (h : MapIs w mp f n) (hb : Blk 0 w c (v :: vs)) : mp ≠ some c := by
  rintro rfl
  rcases h with ⟨e, _⟩ | ⟨b, D, e, ⟨es, clock, hm, _⟩, _⟩
  · cases e
  · cases e
    have := hb.rule 0
    simp [World.cell?, hm] at this
theorem IsC.lt {w : World} {c : Nat} {F : Nat → Prop} {f : Plc → Int} {q : Cnt} {n : Nat} (h : IsC w c F f q n) : ∀ k, F k → k < w.heap.size := by
  obtain ⟨mp, hb, hm, hF⟩ := h
  intro k hk
  rcases (hF k).1 hk with rfl | e
  · exact hb.1
  · exact hm.lt k e
theorem IsC.over {w w' : World} {c : Nat} {F T : Nat → Prop} {f : Plc → Int} {q : Cnt} {n : Nat} (h : IsC w c F f q n) (ht : Turn T w w') (hd : ∀ k, F k → ¬ T k) : IsC w' c F f q n := by
  have hlt := h.lt
  obtain ⟨mp, hb, hm, hF⟩ := h
  exact ⟨mp, hb.kept ht.size (ht.block c hb.1 (hd c ((hF c).2 (.inl rfl)))), hm.kept fun b e => ht.block b (hm.lt b e) (hd b ((hF b).2 (.inr e))), hF⟩
theorem IsC.mono {w : World} {c : Nat} {F : Nat → Prop} {f : Plc → Int} {q : Cnt} {n m : Nat} (h : IsC w c F f q n) (hm : n ≤ m) : IsC w c F f q m := by
  obtain ⟨mp, hb, hp, hF⟩ := h
  exact ⟨mp, hb, hp.mono hm, hF⟩
theorem IsC.words {w : World} {c : Nat} {F : Nat → Prop} {f : Plc → Int} {q : Cnt} {n : Nat} (h : IsC w c F f q n) : Words f := by
  obtain ⟨mp, hb, hp, hF⟩ := h
  exact hp.words

/-- What the call itself has boxed and made; the cells as they are. -/
def At (F : Nat → Prop) (c : Nat) (w0 : World) (B : Nat) (bv : List Value) (mp : Option Nat) (q : Cnt) (w : World) : Prop := Turn F w0 w ∧ Blk 0 w c (cv mp q) ∧ Blk 0 w B bv

theorem At.drew {F : Nat → Prop} {c B : Nat} {w0 w : World} {bv : List Value} {mp : Option Nat} {q : Cnt} (h : At F c w0 B bv mp q w) : At F c w0 B bv mp q w.drew := ⟨h.1.drew, h.2.1, h.2.2⟩

/-- The map's own block turns: what the call has boxed and the cells' block stay. -/
theorem At.map {F T : Nat → Prop} {c B : Nat} {w0 w w' : World} {bv : List Value} {mp : Option Nat} {q : Cnt} (h : At F c w0 B bv mp q w) (ht : Turn T w w') (hF : ∀ k, k < w0.heap.size → T k → F k) (hc : ¬ T c) (hB : ¬ T B) : At F c w0 B bv mp q w' :=
  ⟨h.1.then ht hF, h.2.1.kept ht.size (ht.block _ h.2.1.1 hc), h.2.2.kept ht.size (ht.block _ h.2.2.1 hB)⟩

set_option maxHeartbeats 800000 in
theorem put_zero {c n : Nat} {F : Nat → Prop} {f : Plc → Int} {q : Cnt} {w : World} (a b d : Int) (hx : Wf (a, b, d)) (hC : IsC w c F f q n) :
    Calls Try.prog 50 #[.pointer (some ⟨c, 0, none⟩), .agg #[.int .i64 a, .int .i64 b, .int .i64 d], .int .u64 0] w fun e w' => e = .returned (.tuple #[]) ∧ ∃ F', IsC w' c F' (upd f (a, b, d) 0) q n ∧ Step F F' w w' := by
  obtain ⟨mp, hb, hm, hF⟩ := hC
  have hcl := hb.1
  have hA : At F c w w.heap.size [.int .i64 a, .int .i64 b, .int .i64 d] mp q (w.alloc (.cells #[.int .i64 a, .int .i64 b, .int .i64 d] 39)) := ⟨(Turn.refl _ _).alloc _, hb.kept (by simp) (Below.heap_alloc _ _ _ hcl), Blk.new _ _ _ _⟩
  have hM : MapIs (w.alloc (.cells #[.int .i64 a, .int .i64 b, .int .i64 d] 39)) mp f n := hm.kept fun k e => Below.heap_alloc _ _ _ (hm.lt k e)
  go_enter Try.func50, Try.ntmps50
  go_wp2_with fail
  refine Ord.wp_chain [5] (At F c w w.heap.size [.int .i64 a, .int .i64 b, .int .i64 d] mp q) (fun j w' => MapIs w' mp (if j = 0 then f else upd f (a, b, d) 0) n) (by kernel_rfl) (by kernel_rfl) (by kernel_rfl) hA.drew hM.drew (fun hT => ?_)
  have hT9 := Lib.hid hT
  clear hT
  repeat (first
    | (refine Ord.ch_value (v := ?_) hT9.out (by decide) (by rfl) ?_ ?_; rotate_left; (focus (intro w5 hS; have r := hS.2.1.rule; unfold cv at r; have r2 := hS.2.2.rule; go_simp <;> with_reducible rfl)); (try simp only [Act.put, List.setIfInBounds_toArray, List.set_cons_zero, List.set_cons_succ]))
    | (refine Ord.ch_off hT9.out (by decide) (by rfl) ?_; (try simp only [Act.put, List.setIfInBounds_toArray, List.set_cons_zero, List.set_cons_succ])))
  refine Ord.ch_turn (v := .tuple #[]) 0 hT9.out rfl (by decide) (Or.inl rfl) (by rfl) ?_ ?_
  · intro w5 hA5 hM5
    obtain ⟨w6, hrun, hM6, ht⟩ := MapIs.drop hM5 hx 0
    simp only [pv] at hrun
    simp [execOp, resolve, invoke, builtin, Act.eval, hrun, Result.andThen]
    refine ⟨rfl, hA5.map ht (fun k hk e => (hF k).2 (.inr e)) (fun e => not_map_cells hM5 hA5.2.1 e) (fun e => not_map_cells hM5 hA5.2.2 e), hM6⟩
  refine Ord.InText.nil fun w5 hS => ?_
  clear hT9
  obtain ⟨hA9, hM9⟩ := Ord.chain_end hS
  clear hS
  go_wp2
  refine bodyPost_ret (results_none rfl _ _ _) rfl ?_
  exact ⟨rfl, F, ⟨mp, hA9.2.1, hM9, hF⟩, ⟨hA9.1, fun k h => .inl h⟩⟩

/-- m is the cells' own map, or new. -/
def MapOf (F : Nat → Prop) (w : World) (c m : Nat) : Prop := (∀ k, k < w.heap.size → k = m → F k) ∧ ∀ k, (k = c ∨ some m = some k) → F k ∨ w.heap.size ≤ k
theorem MapOf.mk {F : Nat → Prop} {w : World} {c m : Nat} (hc : F c) (hm : F m ∨ w.heap.size ≤ m) : MapOf F w c m := by
  refine ⟨fun k hk e => ?_, fun k e => ?_⟩
  · subst e
    rcases hm with h | h
    · exact h
    · omega
  · rcases e with rfl | e
    · exact .inl hc
    · cases e; exact hm

set_option maxHeartbeats 1600000 in
theorem put_word {c n : Nat} {F : Nat → Prop} {f : Plc → Int} {q : Cnt} {w : World} (a b d v : Int) (hx : Wf (a, b, d)) (hv : InU v) (h0 : v ≠ 0) (hn : n < maxLen) (hC : IsC w c F f q n) :
    Calls Try.prog 50 #[.pointer (some ⟨c, 0, none⟩), .agg #[.int .i64 a, .int .i64 b, .int .i64 d], .int .u64 v] w fun e w' => e = .returned (.tuple #[]) ∧ ∃ F', IsC w' c F' (upd f (a, b, d) v) q (n + 1) ∧ Step F F' w w' := by
  obtain ⟨mp, hb, hm, hF⟩ := hC
  have hcl := hb.1
  have hv0 : (v == 0) = false := by simpa using h0
  have hq := fun w => run_eql_map_nil_sl (P := Try.prog) w 84 _ _ mp Try.underlying84
  have hmm := @run_makeMap Try.prog
  have r0 : ∀ (o1 : Obj) i, (w.alloc o1).cell? ⟨c, i, none⟩ = (cv mp q)[i]? := fun o1 i => (hb.more o1).rule i
  have z0 : w.frozen? ⟨c, 0, none⟩ = false := hb.thaw 0 (by simp [cv])
  simp only [cv] at r0
  have hE : Hid (∃ m n' W1, At F c w w.heap.size [.int .i64 a, .int .i64 b, .int .i64 d] (some m) q W1 ∧ MapIs W1 (some m) f n' ∧ n' ≤ n ∧ MapOf F w c m ∧
      (W1 = w.alloc (.cells #[.int .i64 a, .int .i64 b, .int .i64 d] 39) ∧ mp = some m ∨ mp = none ∧ W1 = ((w.setCell ⟨c, 0, none⟩ (.map (some (w.heap.size + 1)))).alloc (.cells #[.int .i64 a, .int .i64 b, .int .i64 d] 39)).alloc (.map #[] 0))) := by
    cases mp with
    | none =>
      rcases hm with ⟨_, rfl⟩ | ⟨b', D, e, _⟩
      · refine ⟨w.heap.size + 1, 0, _, ⟨(((Turn.refl _ _).setCell (fun _ => (hF c).2 (.inl rfl)) _).alloc _).alloc _, (((hb.set (i := 0) (by simp [cv]) (.map (some (w.heap.size + 1)))).more _).more _), (Blk.new 0 (w.setCell ⟨c, 0, none⟩ (.map (some (w.heap.size + 1)))) [.int .i64 a, .int .i64 b, .int .i64 d] 39).at (by simp) |>.more _⟩, ?_, Nat.zero_le _, MapOf.mk ((hF c).2 (.inl rfl)) (.inr (by omega)), .inr ⟨rfl, rfl⟩⟩
        have := MapIs.made ((w.setCell ⟨c, 0, none⟩ (.map (some (w.heap.size + 1)))).alloc (.cells #[.int .i64 a, .int .i64 b, .int .i64 d] 39))
        simpa using this
      · cases e
    | some m => exact ⟨m, n, _, ⟨(Turn.refl _ _).alloc _, hb.more _, Blk.new _ _ _ _⟩, hm.more _, Nat.le_refl _, MapOf.mk ((hF c).2 (.inl rfl)) (.inl ((hF m).2 (.inr rfl))), .inl ⟨rfl, rfl⟩⟩
  clear hF hm
  obtain ⟨m, n', W1, hA, hM, hn', hmm', hW⟩ := hE.out
  clear hE
  rcases hW with ⟨rfl, rfl⟩ | ⟨rfl, rfl⟩
  all_goals
    simp only [Option.isNone_none, Option.isNone_some] at hq
    go_enter Try.func50, Try.ntmps50
    go_wp2_with fail
    clear r0 z0 hq hb
    refine Ord.wp_chain [6] (At F c w w.heap.size [.int .i64 a, .int .i64 b, .int .i64 d] (some m) q) (fun j w' => MapIs w' (some m) (if j = 0 then f else upd f (a, b, d) v) (n' + j)) (by kernel_rfl) (by kernel_rfl) (by kernel_rfl) hA.drew hM.drew (fun hT => ?_)
    have hT9 := Lib.hid hT
    clear hT
    repeat (first
      | (refine Ord.ch_value (v := ?_) hT9.out (by decide) (by rfl) ?_ ?_; rotate_left; (focus (intro w5 hS; have r := hS.2.1.rule; unfold cv at r; have r2 := hS.2.2.rule; go_simp <;> with_reducible rfl)); (try simp only [Act.put, List.setIfInBounds_toArray, List.set_cons_zero, List.set_cons_succ]))
      | (refine Ord.ch_off hT9.out (by decide) (by rfl) ?_; (try simp only [Act.put, List.setIfInBounds_toArray, List.set_cons_zero, List.set_cons_succ])))
    refine Ord.ch_turn (v := undef) 0 hT9.out rfl (by decide) (Or.inl rfl) (by rfl) ?_ ?_
    · intro w5 hA5 hM5
      obtain ⟨w6, hrun, hM6, ht⟩ := MapIs.store hM5 (by omega) hx hv h0
      simp only [pv] at hrun
      simp [execOp, Act.eval, hrun, Result.andThen]
      refine ⟨rfl, hA5.map ht hmm'.1 (fun e => not_map_cells hM5 hA5.2.1 (by rw [e])) (fun e => not_map_cells hM5 hA5.2.2 (by rw [e])), hM6⟩
    refine Ord.InText.nil fun w5 hS => ?_
    clear hT9
    obtain ⟨hA9, hM9⟩ := Ord.chain_end hS
    clear hS
    go_wp2
    go_end0
    refine ⟨rfl, fun k => k = c ∨ some m = some k, ⟨some m, hA9.2.1, hM9.mono (by simp; omega), fun k => Iff.rfl⟩, ⟨hA9.1, hmm'.2⟩⟩
end Go.Proofs.Ytnlepgbmbdmjbaa
