/- The plain world, watched: what is written. -/
import Derived.Test.YtmihfpdbaagjnaaGhostA
import Derived.Deep.CutRange
namespace Go.Proofs.Ytmihfpdbaagjnaa
open Go.RowKit Go.Maps
set_option maxRecDepth 100000

theorem setSelf {L : List Item} {i : Nat} {a : Item} (h : L[i]? = some a) : L.set i a = L := by
  apply List.ext_getElem?
  intro j
  rw [List.getElem?_set]
  split
  · rename_i e; subst e; rw [h]; have := (List.getElem?_eq_some_iff.1 h).1; simp [this]
  · rfl
theorem wself {L : List Item} {i : Nat} {a b : Item} (h : L[i]? = some a) : (L.set i b)[i]? = some b := by
  have := (List.getElem?_eq_some_iff.1 h).1
  rw [List.getElem?_set_self this]

section
variable {w0 w : World} {L : List Item} {g p s c n m : Nat} {mp : Option Nat} {S F : Nat → Prop} {h f : Plc → Int} {l : List Int} {q : Cnt} {st fa : Int}
set_option maxHeartbeats 3200000 in
theorem written_g (x y z d v0 e : Int) (b sb : Bool) (hx : Wf (x, y, z)) (he : In64 e) (hm : m < maxLen) (hl : l.length ≤ 1000000) (i : Nat) (hE : Env w0 L w) (hg : L[i]? = some (boxI g (gv p mp s st fa))) (hh : L[i + 1]? = some (leadsI mp h m)) (hs : L[i + 2]? = some (soulI s S l)) :
    Calls Try.prog 40 #[.pointer (some ⟨g, 0, none⟩), .agg #[.int .i64 x, .int .i64 y, .int .i64 z, .int .i64 d], .agg #[.int .u64 v0, .int .i64 e, .bool b], .bool sb] w fun e' w' => e' = .returned (.tuple #[]) ∧ ∃ mp', Env w0 ((L.set i (boxI g (gv p mp' s st (faS l x y d sb fa)))).set (i + 1) (leadsI mp' (upd h (x, y, z) e) (m + 1))) w' := by
  replace hE := (hE.box w.heap.size rfl [.int .i64 x, .int .i64 y, .int .i64 z, .int .i64 d] 43).box (w.heap.size + 1) (by simp) [.int .u64 v0, .int .i64 e, .bool b] 39
  have HX := Lib.hid hx
  have HE := Lib.hid he
  clear hx he
  generalize hfa : faS l x y d sb fa = fz
  unfold faS at hfa
  have HFZ := Lib.hid hfa
  clear hfa
  go_enter Try.func40, Try.ntmps40
  go_upto_region 1 with fail
  generalize (w.alloc _).alloc _ = w1 at *
  generalize w.heap.size + 1 = Y at *
  generalize w.heap.size = X at *
  have hXg : ¬ X = g := hE.off (i := 1) (j := i + 2) rfl hg (by omega) X rfl
  have hYg : ¬ Y = g := hE.off (i := 0) (j := i + 2) rfl hg (by omega) Y rfl
  have hgX : ¬ g = X := fun e => hXg e.symm
  have hgY : ¬ g = Y := fun e => hYg e.symm
  have z4 := fun (v : World) (hE : Env w0 (boxI Y [.int .u64 v0, .int .i64 e, .bool b] :: boxI X [.int .i64 x, .int .i64 y, .int .i64 z, .int .i64 d] :: L) v) => hE.thaw (i + 2) hg 4 (by simp [gv])
  have hT : ∀ (v : World), Env w0 (boxI Y [.int .u64 v0, .int .i64 e, .bool b] :: boxI X [.int .i64 x, .int .i64 y, .int .i64 z, .int .i64 d] :: L) v → Env w0 (boxI Y [.int .u64 v0, .int .i64 e, .bool b] :: boxI X [.int .i64 x, .int .i64 y, .int .i64 z, .int .i64 d] :: L.set i (boxI g (gv p mp s st (wrap64 (fa + 1))))) (v.setCell ⟨g, 4, none⟩ (.int .i64 (wrap64 (fa + 1)))) := fun v hE => hE.put (i + 2) hg (j := 4) (by simp [gv]) (.int .i64 (wrap64 (fa + 1)))
  have hT0 : ∀ (v : World), Env w0 (boxI Y [.int .u64 v0, .int .i64 e, .bool b] :: boxI X [.int .i64 x, .int .i64 y, .int .i64 z, .int .i64 d] :: L) v → Env w0 (boxI Y [.int .u64 v0, .int .i64 e, .bool b] :: boxI X [.int .i64 x, .int .i64 y, .int .i64 z, .int .i64 d] :: L.set i (boxI g (gv p mp s st fa))) v := fun v hE => by rw [setSelf hg]; exact hE
  have HT := Lib.hid hT
  have HT0 := Lib.hid hT0
  clear hT hT0
  cases sb
  case' true =>
    have r2 := hE.rule (i + 2) hg
    have z2 := z4 _ hE
    have hfa := HFZ.out
    clear HFZ
    unfold gv at r2
    go_upto_region 3 with fail
    have ez : wrap64 (fa + 1) = fz := by simpa using hfa
    replace hE := HT.out _ hE
    clear r2 z2 hfa
    generalize World.setCell _ _ _ = w3 at *
    rw [ez] at hE
    clear ez
  case' false =>
    have r0 := hE.rule 1 rfl
    go_wp2_with fail
    refine (isStale_any x y z d HX.out.2.1 hl (i + 2) (i + 4) hE hg hs).mono ?_
    rintro e1 w2 ⟨rfl, hb⟩
    replace hE := hE.over hb
    have hfa := HFZ.out
    rw [Bool.false_or] at hfa
    clear r0 hb HFZ
    generalize stB l x y d = t at *
    have r2 := hE.rule (i + 2) hg
    have z2 := z4 _ hE
    unfold gv at r2
    cases t
    case' false =>
      go_upto_region 3 with fail
      have ez : fa = fz := by simpa using hfa
      replace hE := HT0.out _ hE
      clear r2 z2 hfa
      rw [ez] at hE
      clear ez
      generalize w2 = w3 at *
    case' true =>
      go_upto_region 3 with fail
      have ez : wrap64 (fa + 1) = fz := by simpa using hfa
      replace hE := HT.out _ hE
      clear r2 z2 hfa
      generalize World.setCell _ _ _ = w3 at *
      rw [ez] at hE
      clear ez
  all_goals
    have hg1 : (L.set i (boxI g (gv p mp s st fz)))[i]? = some (boxI g (gv p mp s st fz)) := wself hg
    have hh1 : (L.set i (boxI g (gv p mp s st fz)))[i + 1]? = some (leadsI mp h m) := wset (j := i) (by omega) hh
    clear z4 HT HT0
    by_cases he0 : e = 0
    · subst he0
      have r0 := hE.rule 0 rfl
      go_wp2_with fail
      clear r0
      refine Ord.wp_chain [6] (fun w' => Blk 0 w' X [.int .i64 x, .int .i64 y, .int .i64 z, .int .i64 d] ∧ Blk 0 w' Y [.int .u64 v0, .int .i64 0, .bool b] ∧ Blk 0 w' g (gv p mp s st fz)) (Stage [Env w0 (boxI Y [.int .u64 v0, .int .i64 0, .bool b] :: boxI X [.int .i64 x, .int .i64 y, .int .i64 z, .int .i64 d] :: (L.set i (boxI g (gv p mp s st fz)))), Env w0 (boxI Y [.int .u64 v0, .int .i64 0, .bool b] :: boxI X [.int .i64 x, .int .i64 y, .int .i64 z, .int .i64 d] :: ((L.set i (boxI g (gv p mp s st fz)))).set (i + 1) (leadsI (mp) (upd h (x, y, z) 0) (m + 1)))]) (by kernel_rfl) (by kernel_rfl) (by kernel_rfl) ⟨hE.drew.get 1 rfl, hE.drew.get 0 rfl, hE.drew.get (i + 2) hg1⟩ ⟨_, rfl, hE.drew⟩ (fun hT => ?_)
      have hT9 := Lib.hid hT
      clear hT
      repeat (first
        | (refine Ord.ch_value (v := ?_) hT9.out (by decide) (by rfl) ?_ ?_; rotate_left; (focus (intro w5 hS; have r0 := hS.1.rule; have r1 := hS.2.1.rule; have r2 := hS.2.2.rule; unfold gv at r2; go_simp <;> with_reducible rfl)); (try simp only [Act.put, List.setIfInBounds_toArray, List.set_cons_zero, List.set_cons_succ]))
        | (refine Ord.ch_off hT9.out (by decide) (by rfl) ?_; (try simp only [Act.put, List.setIfInBounds_toArray, List.set_cons_zero, List.set_cons_succ])))
      refine Ord.ch_turn (v := .tuple #[]) 0 hT9.out rfl (by decide) (Or.inl rfl) (by rfl) ?_ ?_
      · rintro w5 hC5 ⟨P5, hP5, hA5⟩
        cases hP5
        obtain ⟨w6, hrun, hM6, ht⟩ := (hA5.leads (i + 3) hh1).drop HX.out 0
        simp only [pv] at hrun
        simp [execOp, resolve, invoke, builtin, Act.eval, hrun, Result.andThen]
        have hE6 := hA5.turnL (i + 3) hh1 (hM6.mono (Nat.le_succ _)) ht
        exact ⟨rfl, ⟨hE6.get 1 rfl, hE6.get 0 rfl, hE6.get (i + 2) (wset (j := i + 1) (by omega) hg1)⟩, _, rfl, hE6⟩
      (try simp only [Act.put, List.setIfInBounds_toArray, List.set_cons_zero, List.set_cons_succ])
      refine Ord.InText.nil fun w5 hS => ?_
      clear hT9
      obtain ⟨hC9, hA9⟩ := Ord.chain_end hS
      clear hS
      obtain ⟨P9, hP9, hA9⟩ := hA9
      cases hP9
      clear hC9 hE
      go_wp2
      (first | go_end0 | refine bodyPost_ret (results_none rfl _ _ _) rfl ?_)
      exact ⟨rfl, mp, hA9.sub (.cons _ (.cons _ (List.Sublist.refl _)))⟩
    · have heb : (e == 0) = false := by simpa using he0
      have hq := fun w => run_eql_map_nil_sl (P := Try.prog) w 71 _ _ mp Try.underlying71
      have r0 := hE.rule 0 rfl
      have r2 := hE.rule (i + 2) hg1
      have z1 := hE.thaw (i + 2) hg1 1 (by simp [gv])
      unfold gv at r2
      rcases mp with _ | mb
      · have hmm := @run_makeMap Try.prog
        simp only [Option.isNone_none] at hq
        have hgl := hE.boxLt (i + 2) hg1
        have r2o := fun o => cell_more hgl r2 o
        go_wp2_with fail
        replace hE := (hE.put (i + 2) hg1 (j := 1) (by simp [gv]) (.map (some w3.heap.size))).mapMade (i + 3) (wset (L := L.set i (boxI g (gv p none s st fz))) (j := i) (by omega) hh1) w3.heap.size (by simp [World.setCell])
        obtain ⟨mb, hmb⟩ : ∃ mb, w3.heap.size = mb := ⟨_, rfl⟩
        rw [hmb] at hE ⊢
        clear r0 r2 z1 hq heb hmm hgl r2o hmb
        change Env w0 (boxI Y [.int .u64 v0, .int .i64 e, .bool b] :: boxI X [.int .i64 x, .int .i64 y, .int .i64 z, .int .i64 d] :: ((L.set i (boxI g (gv p none s st fz))).set i (boxI g (gv p (some mb) s st fz))).set (i + 1) (leadsI (some mb) h m)) _ at hE
        rw [List.set_set] at hE
        have hg2 : ((L.set i (boxI g (gv p (some mb) s st fz))).set (i + 1) (leadsI (some mb) h m))[i]? = some (boxI g (gv p (some mb) s st fz)) := wset (j := i + 1) (by omega) (wself hg)
        have hh2 : ((L.set i (boxI g (gv p (some mb) s st fz))).set (i + 1) (leadsI (some mb) h m))[i + 1]? = some (leadsI (some mb) h m) := wself (wset (j := i) (a := leadsI none h m) (by omega) hh)
        generalize World.alloc _ _ = w4 at *
        refine Ord.wp_chain [8] (fun w' => Blk 0 w' X [.int .i64 x, .int .i64 y, .int .i64 z, .int .i64 d] ∧ Blk 0 w' Y [.int .u64 v0, .int .i64 e, .bool b] ∧ Blk 0 w' g (gv p (some mb) s st fz)) (Stage [Env w0 (boxI Y [.int .u64 v0, .int .i64 e, .bool b] :: boxI X [.int .i64 x, .int .i64 y, .int .i64 z, .int .i64 d] :: ((L.set i (boxI g (gv p (some mb) s st fz))).set (i + 1) (leadsI (some mb) h m))), Env w0 (boxI Y [.int .u64 v0, .int .i64 e, .bool b] :: boxI X [.int .i64 x, .int .i64 y, .int .i64 z, .int .i64 d] :: ((L.set i (boxI g (gv p (some mb) s st fz)))).set (i + 1) (leadsI ((some mb)) (upd h (x, y, z) e) (m + 1)))]) (by kernel_rfl) (by kernel_rfl) (by kernel_rfl) ⟨hE.drew.get 1 rfl, hE.drew.get 0 rfl, hE.drew.get (i + 2) hg2⟩ ⟨_, rfl, hE.drew⟩ (fun hT => ?_)
        have hT9 := Lib.hid hT
        clear hT
        repeat (first
          | (refine Ord.ch_value (v := ?_) hT9.out (by decide) (by rfl) ?_ ?_; rotate_left; (focus (intro w5 hS; have r0 := hS.1.rule; have r1 := hS.2.1.rule; have r2 := hS.2.2.rule; unfold gv at r2; go_simp <;> with_reducible rfl)); (try simp only [Act.put, List.setIfInBounds_toArray, List.set_cons_zero, List.set_cons_succ]))
          | (refine Ord.ch_off hT9.out (by decide) (by rfl) ?_; (try simp only [Act.put, List.setIfInBounds_toArray, List.set_cons_zero, List.set_cons_succ])))
        refine Ord.ch_turn (v := undef) 0 hT9.out rfl (by decide) (Or.inl rfl) (by rfl) ?_ ?_
        · rintro w5 hC5 ⟨P5, hP5, hA5⟩
          cases hP5
          obtain ⟨w6, hrun, hM6, ht⟩ := (hA5.leads (i + 3) hh2).store hm HX.out HE.out he0
          simp only [pv] at hrun
          simp [execOp, Act.eval, hrun, Result.andThen]
          have hE6 := hA5.turnL (i + 3) hh2 hM6 (ht.mono fun k _ e => by rw [e])
          change Env w0 (boxI Y [.int .u64 v0, .int .i64 e, .bool b] :: boxI X [.int .i64 x, .int .i64 y, .int .i64 z, .int .i64 d] :: ((L.set i (boxI g (gv p (some mb) s st fz))).set (i + 1) (leadsI (some mb) h m)).set (i + 1) (leadsI (some mb) (upd h (x, y, z) e) (m + 1))) _ at hE6
          rw [List.set_set] at hE6
          exact ⟨rfl, ⟨hE6.get 1 rfl, hE6.get 0 rfl, hE6.get (i + 2) (wset (j := i + 1) (by omega) (wself hg))⟩, _, rfl, hE6⟩
        (try simp only [Act.put, List.setIfInBounds_toArray, List.set_cons_zero, List.set_cons_succ])
        refine Ord.InText.nil fun w5 hS => ?_
        clear hT9
        obtain ⟨hC9, hA9⟩ := Ord.chain_end hS
        clear hS
        obtain ⟨P9, hP9, hA9⟩ := hA9
        cases hP9
        clear hC9 hE
        go_wp2
        (first | go_end0 | refine bodyPost_ret (results_none rfl _ _ _) rfl ?_)
        exact ⟨rfl, (some mb), hA9.sub (.cons _ (.cons _ (List.Sublist.refl _)))⟩
      · simp only [Option.isNone_some] at hq
        go_wp2_with fail
        clear r0 r2 z1 hq heb
        refine Ord.wp_chain [8] (fun w' => Blk 0 w' X [.int .i64 x, .int .i64 y, .int .i64 z, .int .i64 d] ∧ Blk 0 w' Y [.int .u64 v0, .int .i64 e, .bool b] ∧ Blk 0 w' g (gv p (some mb) s st fz)) (Stage [Env w0 (boxI Y [.int .u64 v0, .int .i64 e, .bool b] :: boxI X [.int .i64 x, .int .i64 y, .int .i64 z, .int .i64 d] :: (L.set i (boxI g (gv p (some mb) s st fz)))), Env w0 (boxI Y [.int .u64 v0, .int .i64 e, .bool b] :: boxI X [.int .i64 x, .int .i64 y, .int .i64 z, .int .i64 d] :: ((L.set i (boxI g (gv p (some mb) s st fz)))).set (i + 1) (leadsI ((some mb)) (upd h (x, y, z) e) (m + 1)))]) (by kernel_rfl) (by kernel_rfl) (by kernel_rfl) ⟨hE.drew.get 1 rfl, hE.drew.get 0 rfl, hE.drew.get (i + 2) hg1⟩ ⟨_, rfl, hE.drew⟩ (fun hT => ?_)
        have hT9 := Lib.hid hT
        clear hT
        repeat (first
          | (refine Ord.ch_value (v := ?_) hT9.out (by decide) (by rfl) ?_ ?_; rotate_left; (focus (intro w5 hS; have r0 := hS.1.rule; have r1 := hS.2.1.rule; have r2 := hS.2.2.rule; unfold gv at r2; go_simp <;> with_reducible rfl)); (try simp only [Act.put, List.setIfInBounds_toArray, List.set_cons_zero, List.set_cons_succ]))
          | (refine Ord.ch_off hT9.out (by decide) (by rfl) ?_; (try simp only [Act.put, List.setIfInBounds_toArray, List.set_cons_zero, List.set_cons_succ])))
        refine Ord.ch_turn (v := undef) 0 hT9.out rfl (by decide) (Or.inl rfl) (by rfl) ?_ ?_
        · rintro w5 hC5 ⟨P5, hP5, hA5⟩
          cases hP5
          obtain ⟨w6, hrun, hM6, ht⟩ := (hA5.leads (i + 3) hh1).store hm HX.out HE.out he0
          simp only [pv] at hrun
          simp [execOp, Act.eval, hrun, Result.andThen]
          have hE6 := hA5.turnL (i + 3) hh1 hM6 (ht.mono fun k _ e => by rw [e])
          exact ⟨rfl, ⟨hE6.get 1 rfl, hE6.get 0 rfl, hE6.get (i + 2) (wset (j := i + 1) (by omega) hg1)⟩, _, rfl, hE6⟩
        (try simp only [Act.put, List.setIfInBounds_toArray, List.set_cons_zero, List.set_cons_succ])
        refine Ord.InText.nil fun w5 hS => ?_
        clear hT9
        obtain ⟨hC9, hA9⟩ := Ord.chain_end hS
        clear hS
        obtain ⟨P9, hP9, hA9⟩ := hA9
        cases hP9
        clear hC9 hE
        go_wp2
        (first | go_end0 | refine bodyPost_ret (results_none rfl _ _ _) rfl ?_)
        exact ⟨rfl, (some mb), hA9.sub (.cons _ (.cons _ (List.Sublist.refl _)))⟩
end
end Go.Proofs.Ytmihfpdbaagjnaa
