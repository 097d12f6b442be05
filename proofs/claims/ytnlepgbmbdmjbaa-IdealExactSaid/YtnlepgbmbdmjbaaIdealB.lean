/- The ideal world: whom a word leads to is kept. -/
import Derived.Test.YtnlepgbmbdmjbaaIdealA
import Derived.Deep.CutRange
namespace Go.Proofs.Ytnlepgbmbdmjbaa
open Go.RowKit Go.Maps
set_option maxRecDepth 100000

section
variable {w0 w : World} {L : List Item} {g s c n m : Nat} {mp : Option Nat} {S F : Nat → Prop} {h f : Plc → Int} {l : List Int} {q : Cnt}
set_option maxHeartbeats 3200000 in
theorem lead_i (x y z e : Int) (hx : Wf (x, y, z)) (he : In64 e) (hm : m < maxLen) (i : Nat) (hE : Env w0 L w) (hg : L[i]? = some (boxI g (iv c mp s))) (hh : L[i + 1]? = some (leadsI mp h m)) :
    Calls Try.prog 41 #[.pointer (some ⟨g, 0, none⟩), .agg #[.int .i64 x, .int .i64 y, .int .i64 z], .int .i64 e] w fun e' w' => e' = .returned (.tuple #[]) ∧ ∃ mp', Env w0 ((L.set i (boxI g (iv c mp' s))).set (i + 1) (leadsI mp' (upd h (x, y, z) e) (m + 1))) w' := by
  replace hE := hE.box w.heap.size rfl [.int .i64 x, .int .i64 y, .int .i64 z] 39
  have HX := Lib.hid hx
  have HE := Lib.hid he
  clear hx he
  go_enter Try.func41, Try.ntmps41
  go_upto_region 1 with fail
  generalize w.alloc _ = w3 at *
  generalize w.heap.size = X at *
  by_cases he0 : e = 0
  · subst he0
    go_wp2_with fail
    refine Ord.wp_chain [5] (fun w' => Blk 0 w' X [.int .i64 x, .int .i64 y, .int .i64 z] ∧ Blk 0 w' g (iv c mp s)) (Stage [Env w0 (boxI X [.int .i64 x, .int .i64 y, .int .i64 z] :: L), Env w0 (boxI X [.int .i64 x, .int .i64 y, .int .i64 z] :: L.set (i + 1) (leadsI mp (upd h (x, y, z) 0) (m + 1)))]) (by kernel_rfl) (by kernel_rfl) (by kernel_rfl) ⟨hE.drew.get 0 rfl, hE.drew.get (i + 1) hg⟩ ⟨_, rfl, hE.drew⟩ (fun hT => ?_)
    have hT9 := Lib.hid hT
    clear hT
    repeat (first
      | (refine Ord.ch_value (v := ?_) hT9.out (by decide) (by rfl) ?_ ?_; rotate_left; (focus (intro w5 hS; have r0 := hS.1.rule; have r2 := hS.2.rule; unfold iv at r2; go_simp <;> with_reducible rfl)); (try simp only [Act.put, List.setIfInBounds_toArray, List.set_cons_zero, List.set_cons_succ]))
      | (refine Ord.ch_off hT9.out (by decide) (by rfl) ?_; (try simp only [Act.put, List.setIfInBounds_toArray, List.set_cons_zero, List.set_cons_succ])))
    refine Ord.ch_turn (v := .tuple #[]) 0 hT9.out rfl (by decide) (Or.inl rfl) (by rfl) ?_ ?_
    · rintro w5 hC5 ⟨P5, hP5, hA5⟩
      cases hP5
      obtain ⟨w6, hrun, hM6, ht⟩ := (hA5.leads (i + 2) hh).drop HX.out 0
      simp only [pv] at hrun
      simp [execOp, resolve, invoke, builtin, Act.eval, hrun, Result.andThen]
      have hE6 := hA5.turnL (i + 2) hh (hM6.mono (Nat.le_succ _)) ht
      exact ⟨rfl, ⟨hE6.get 0 rfl, hE6.get (i + 1) (wset (j := i + 1) (by omega) hg)⟩, _, rfl, hE6⟩
    (try simp only [Act.put, List.setIfInBounds_toArray, List.set_cons_zero, List.set_cons_succ])
    refine Ord.InText.nil fun w5 hS => ?_
    clear hT9
    obtain ⟨hC9, hA9⟩ := Ord.chain_end hS
    clear hS
    obtain ⟨P9, hP9, hA9⟩ := hA9
    cases hP9
    clear hC9 hE
    go_wp2
    (first | go_end0 | refine bodyPost_ret (results_none rfl _ _ _) rfl ?_)
    exact ⟨rfl, mp, by rw [setSelf hg]; exact hA9.sub (.cons _ (List.Sublist.refl _))⟩
  · have heb : (e == 0) = false := by simpa using he0
    have hq := fun w => run_eql_map_nil_sl (P := Try.prog) w 69 _ _ mp Try.underlying69
    have r2 := hE.rule (i + 1) hg
    have z1 := hE.thaw (i + 1) hg 1 (by simp [iv])
    unfold iv at r2
    rcases mp with _ | mb
    · have hmm := @run_makeMap Try.prog
      simp only [Option.isNone_none] at hq
      have hgl := hE.boxLt (i + 1) hg
      have r2o := fun o => cell_more hgl r2 o
      go_wp2_with fail
      replace hE := (hE.put (i + 1) hg (j := 1) (by simp [iv]) (.map (some w3.heap.size))).mapMade (i + 2) (wset (L := L) (j := i) (by omega) hh) w3.heap.size (by simp [World.setCell])
      obtain ⟨mb, hmb⟩ : ∃ mb, w3.heap.size = mb := ⟨_, rfl⟩
      rw [hmb] at hE ⊢
      clear r2 z1 hq heb hmm hgl r2o hmb
      change Env w0 (boxI X [.int .i64 x, .int .i64 y, .int .i64 z] :: (L.set i (boxI g (iv c (some mb) s))).set (i + 1) (leadsI (some mb) h m)) _ at hE
      have hg2 : ((L.set i (boxI g (iv c (some mb) s))).set (i + 1) (leadsI (some mb) h m))[i]? = some (boxI g (iv c (some mb) s)) := wset (j := i + 1) (by omega) (wself hg)
      have hh2 : ((L.set i (boxI g (iv c (some mb) s))).set (i + 1) (leadsI (some mb) h m))[i + 1]? = some (leadsI (some mb) h m) := wself (wset (j := i) (a := leadsI none h m) (by omega) hh)
      generalize World.alloc _ _ = w4 at *
      refine Ord.wp_chain [6] (fun w' => Blk 0 w' X [.int .i64 x, .int .i64 y, .int .i64 z] ∧ Blk 0 w' g (iv c (some mb) s)) (Stage [Env w0 (boxI X [.int .i64 x, .int .i64 y, .int .i64 z] :: (L.set i (boxI g (iv c (some mb) s))).set (i + 1) (leadsI (some mb) h m)), Env w0 (boxI X [.int .i64 x, .int .i64 y, .int .i64 z] :: (L.set i (boxI g (iv c (some mb) s))).set (i + 1) (leadsI (some mb) (upd h (x, y, z) e) (m + 1)))]) (by kernel_rfl) (by kernel_rfl) (by kernel_rfl) ⟨hE.drew.get 0 rfl, hE.drew.get (i + 1) hg2⟩ ⟨_, rfl, hE.drew⟩ (fun hT => ?_)
      have hT9 := Lib.hid hT
      clear hT
      repeat (first
        | (refine Ord.ch_value (v := ?_) hT9.out (by decide) (by rfl) ?_ ?_; rotate_left; (focus (intro w5 hS; have r0 := hS.1.rule; have r2 := hS.2.rule; unfold iv at r2; go_simp <;> with_reducible rfl)); (try simp only [Act.put, List.setIfInBounds_toArray, List.set_cons_zero, List.set_cons_succ]))
        | (refine Ord.ch_off hT9.out (by decide) (by rfl) ?_; (try simp only [Act.put, List.setIfInBounds_toArray, List.set_cons_zero, List.set_cons_succ])))
      refine Ord.ch_turn (v := undef) 0 hT9.out rfl (by decide) (Or.inl rfl) (by rfl) ?_ ?_
      · rintro w5 hC5 ⟨P5, hP5, hA5⟩
        cases hP5
        obtain ⟨w6, hrun, hM6, ht⟩ := (hA5.leads (i + 2) hh2).store hm HX.out HE.out he0
        simp only [pv] at hrun
        simp [execOp, Act.eval, hrun, Result.andThen]
        have hE6 := hA5.turnL (i + 2) hh2 hM6 (ht.mono fun k _ e => by rw [e])
        change Env w0 (boxI X [.int .i64 x, .int .i64 y, .int .i64 z] :: ((L.set i (boxI g (iv c (some mb) s))).set (i + 1) (leadsI (some mb) h m)).set (i + 1) (leadsI (some mb) (upd h (x, y, z) e) (m + 1))) _ at hE6
        rw [List.set_set] at hE6
        exact ⟨rfl, ⟨hE6.get 0 rfl, hE6.get (i + 1) (wset (j := i + 1) (by omega) (wself hg))⟩, _, rfl, hE6⟩
      (try simp only [Act.put, List.setIfInBounds_toArray, List.set_cons_zero, List.set_cons_succ])
      refine Ord.InText.nil fun w5 hS => ?_
      clear hT9
      obtain ⟨hC9, hA9⟩ := Ord.chain_end hS
      clear hS
      obtain ⟨P9, hP9, hA9⟩ := hA9
      cases hP9
      clear hC9 hE
      go_wp2
      (first | go_end0 | refine bodyPost_ret (results_none rfl _ _ _) rfl ?_)
      exact ⟨rfl, (some mb), hA9.sub (.cons _ (List.Sublist.refl _))⟩
    · simp only [Option.isNone_some] at hq
      go_wp2_with fail
      clear r2 z1 hq heb
      refine Ord.wp_chain [6] (fun w' => Blk 0 w' X [.int .i64 x, .int .i64 y, .int .i64 z] ∧ Blk 0 w' g (iv c (some mb) s)) (Stage [Env w0 (boxI X [.int .i64 x, .int .i64 y, .int .i64 z] :: L), Env w0 (boxI X [.int .i64 x, .int .i64 y, .int .i64 z] :: L.set (i + 1) (leadsI (some mb) (upd h (x, y, z) e) (m + 1)))]) (by kernel_rfl) (by kernel_rfl) (by kernel_rfl) ⟨hE.drew.get 0 rfl, hE.drew.get (i + 1) hg⟩ ⟨_, rfl, hE.drew⟩ (fun hT => ?_)
      have hT9 := Lib.hid hT
      clear hT
      repeat (first
        | (refine Ord.ch_value (v := ?_) hT9.out (by decide) (by rfl) ?_ ?_; rotate_left; (focus (intro w5 hS; have r0 := hS.1.rule; have r2 := hS.2.rule; unfold iv at r2; go_simp <;> with_reducible rfl)); (try simp only [Act.put, List.setIfInBounds_toArray, List.set_cons_zero, List.set_cons_succ]))
        | (refine Ord.ch_off hT9.out (by decide) (by rfl) ?_; (try simp only [Act.put, List.setIfInBounds_toArray, List.set_cons_zero, List.set_cons_succ])))
      refine Ord.ch_turn (v := undef) 0 hT9.out rfl (by decide) (Or.inl rfl) (by rfl) ?_ ?_
      · rintro w5 hC5 ⟨P5, hP5, hA5⟩
        cases hP5
        obtain ⟨w6, hrun, hM6, ht⟩ := (hA5.leads (i + 2) hh).store hm HX.out HE.out he0
        simp only [pv] at hrun
        simp [execOp, Act.eval, hrun, Result.andThen]
        have hE6 := hA5.turnL (i + 2) hh hM6 (ht.mono fun k _ e => by rw [e])
        exact ⟨rfl, ⟨hE6.get 0 rfl, hE6.get (i + 1) (wset (j := i + 1) (by omega) hg)⟩, _, rfl, hE6⟩
      (try simp only [Act.put, List.setIfInBounds_toArray, List.set_cons_zero, List.set_cons_succ])
      refine Ord.InText.nil fun w5 hS => ?_
      clear hT9
      obtain ⟨hC9, hA9⟩ := Ord.chain_end hS
      clear hS
      obtain ⟨P9, hP9, hA9⟩ := hA9
      cases hP9
      clear hC9 hE
      go_wp2
      (first | go_end0 | refine bodyPost_ret (results_none rfl _ _ _) rfl ?_)
      exact ⟨rfl, (some mb), by rw [setSelf hg]; exact hA9.sub (.cons _ (List.Sublist.refl _))⟩
end
end Go.Proofs.Ytnlepgbmbdmjbaa
