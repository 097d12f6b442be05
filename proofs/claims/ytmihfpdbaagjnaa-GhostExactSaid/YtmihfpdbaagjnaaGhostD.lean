/- The plain world, watched: what is loaded, and swapped; a copy of its cells. -/
import Derived.Test.YtmihfpdbaagjnaaGhostB
import Derived.Test.YtmihfpdbaagjnaaWorldC
namespace Go.Proofs.Ytmihfpdbaagjnaa
open Go.RowKit Go.Maps
set_option maxRecDepth 100000

/-- The fields of a value. -/
theorem valWord (v : World) (a b : Int) (d : Bool) : (Instr.field 39 (.agg #[.int .u64 a, .int .i64 b, .bool d]) 0).run Try.prog v = .ok (.int .u64 a) v := by kernel_rfl
theorem valStale (v : World) (a b : Int) (d : Bool) : (Instr.field 39 (.agg #[.int .u64 a, .int .i64 b, .bool d]) 2).run Try.prog v = .ok (.bool d) v := by kernel_rfl

section
variable {w0 w : World} {L : List Item} {g p s c n m : Nat} {mp : Option Nat} {S F : Nat → Prop} {h f : Plc → Int} {l : List Int} {q : Cnt} {st fa : Int}
theorem cells_g (i : Nat) (hE : Env w0 L w) (hg : L[i]? = some (boxI g (gv p mp s st fa))) (hw : L[i + 3]? = some (wbox p c)) (hc : L[i + 4]? = some (cellI c F f q n)) :
    Calls Try.prog 21 #[.pointer (some ⟨g, 0, none⟩)] w fun e w' => ∃ c' F', e = .returned (.pointer (some ⟨c', 0, none⟩)) ∧ Env w0 (cellI c' F' f ⟨0, 0, 0, 0, 0⟩ n :: L) w' := by
  go_enter Try.func21, Try.ntmps21
  go_wp2_with fail
  refine (watched_any (hE.gblk i hg)).mono ?_
  rintro e w1 ⟨rfl, rfl⟩
  go_wp2_with fail
  refine (cells_w (i + 3) (i + 4) hE hw hc).mono ?_
  rintro e w2 ⟨c', F', rfl, hE2⟩
  go_wp2
  go_ret
  exact ⟨c', F', rfl, hE2⟩

set_option maxHeartbeats 1600000 in
theorem load_g (x y z d : Int) (hx : Wf (x, y, z)) (hl : l.length ≤ 1000000) (i : Nat) (hE : Env w0 L w) (hg : L[i]? = some (boxI g (gv p mp s st fa))) (hh : L[i + 1]? = some (leadsI mp h m)) (hs : L[i + 2]? = some (soulI s S l)) (hw : L[i + 3]? = some (wbox p c)) (hc : L[i + 4]? = some (cellI c F f q n)) :
    Calls Try.prog 15 #[.pointer (some ⟨g, 0, none⟩), .agg #[.int .i64 x, .int .i64 y, .int .i64 z, .int .i64 d]] w fun e w' => e = .returned (.agg #[.int .u64 (f (x, y, z)), .int .i64 (h (x, y, z)), .bool (stB l x y d)]) ∧ Env w0 ((L.set i (boxI g (gv p mp s (if stB l x y d = true then wrap64 (st + 1) else st) fa))).set (i + 4) (cellI c F f { q with l := wrap64 (q.l + 1) } n)) w' := by
  replace hE := (hE.box w.heap.size rfl [.int .i64 x, .int .i64 y, .int .i64 z, .int .i64 d] 43).box (w.heap.size + 1) (by simp) [.int .u64 0, .int .i64 0, .bool false] 39
  have HX := Lib.hid hx
  clear hx
  generalize hst : stB l x y d = t
  generalize hsz : (if t = true then wrap64 (st + 1) else st) = sz
  have HST := Lib.hid hst
  have HSZ := Lib.hid hsz
  clear hst hsz
  go_enter Try.func15, Try.ntmps15
  go_upto_region 3 with fail
  generalize (w.alloc _).alloc _ = w1 at *
  generalize w.heap.size + 1 = Y at *
  generalize w.heap.size = X at *
  have r0 := hE.rule 1 rfl
  go_wp2_with fail
  refine (isStale_any x y z d HX.out.2.1 hl (i + 2) (i + 4) hE hg hs).mono ?_
  rintro e1 w2 ⟨rfl, hb⟩
  rw [HST.out]
  replace hE := hE.over hb
  clear r0 hb
  have r2 := hE.rule (i + 2) hg
  have z2 := hE.thaw (i + 2) hg 3 (by simp [gv])
  have hP := hE.put (i + 2) hg (j := 3) (by simp [gv]) (.int .i64 (wrap64 (st + 1)))
  have HP : Hid (Env w0 (boxI Y [.int .u64 0, .int .i64 0, .bool false] :: boxI X [.int .i64 x, .int .i64 y, .int .i64 z, .int .i64 d] :: L.set i (boxI g (gv p mp s (wrap64 (st + 1)) fa))) (w2.setCell ⟨g, 3, none⟩ (.int .i64 (wrap64 (st + 1))))) := Lib.hid hP
  have HP0 : Hid (Env w0 (boxI Y [.int .u64 0, .int .i64 0, .bool false] :: boxI X [.int .i64 x, .int .i64 y, .int .i64 z, .int .i64 d] :: L.set i (boxI g (gv p mp s st fa))) w2) := Lib.hid (by rw [setSelf hg]; exact hE)
  clear hP hE
  unfold gv at r2
  clear HST
  cases t
  case' false =>
    go_upto_region 6 with fail
    have hE := HP0.out
    have ez : st = sz := by simpa using HSZ.out
    clear r2 z2 HP HP0
    rw [ez] at hE
    clear ez
    generalize w2 = w3 at *
  case' true =>
    go_upto_region 6 with fail
    have hE := HP.out
    have ez : wrap64 (st + 1) = sz := by simpa using HSZ.out
    clear r2 z2 HP HP0
    generalize World.setCell _ _ _ = w3 at *
    rw [ez] at hE
    clear ez
  case false =>
    have hg1 : (L.set i (boxI g (gv p mp s sz fa)))[i]? = some (boxI g (gv p mp s sz fa)) := wself hg
    have hh1 : (L.set i (boxI g (gv p mp s sz fa)))[i + 1]? = some (leadsI mp h m) := wset (j := i) (by omega) hh
    have hw1 : (L.set i (boxI g (gv p mp s sz fa)))[i + 3]? = some (wbox p c) := wset (j := i) (by omega) hw
    have hc1 : (L.set i (boxI g (gv p mp s sz fa)))[i + 4]? = some (cellI c F f q n) := wset (j := i) (by omega) hc
    have hg2 : ((L.set i (boxI g (gv p mp s sz fa))).set (i + 4) (cellI c F f { q with l := wrap64 (q.l + 1) } n))[i]? = some (boxI g (gv p mp s sz fa)) := wset (j := i + 4) (by omega) hg1
    have hh2 : ((L.set i (boxI g (gv p mp s sz fa))).set (i + 4) (cellI c F f { q with l := wrap64 (q.l + 1) } n))[i + 1]? = some (leadsI mp h m) := wset (j := i + 4) (by omega) hh1
    clear HSZ
    generalize hL1 : L.set i (boxI g (gv p mp s sz fa)) = L1 at *
    have HL1 := Lib.hid hL1
    clear hL1
    refine Ord.wp_chain [5, 16] (fun w' => Blk 0 w' X [.int .i64 x, .int .i64 y, .int .i64 z, .int .i64 d] ∧ Blk 0 w' g (gv p mp s sz fa) ∧ LeadsIs w' mp h m) (Stage [Env w0 (boxI Y [.int .u64 0, .int .i64 0, .bool false] :: boxI X [.int .i64 x, .int .i64 y, .int .i64 z, .int .i64 d] :: L1), Env w0 (boxI Y [.int .u64 0, .int .i64 0, .bool false] :: boxI X [.int .i64 x, .int .i64 y, .int .i64 z, .int .i64 d] :: L1.set (i + 4) (cellI c F f { q with l := wrap64 (q.l + 1) } n)), Env w0 (boxI Y [.int .u64 (f (x, y, z)), .int .i64 (h (x, y, z)), .bool false] :: boxI X [.int .i64 x, .int .i64 y, .int .i64 z, .int .i64 d] :: L1.set (i + 4) (cellI c F f { q with l := wrap64 (q.l + 1) } n))]) (by kernel_rfl) (by kernel_rfl) (by kernel_rfl) ⟨hE.drew.get 1 rfl, hE.drew.get (i + 2) hg1, hE.drew.get (i + 3) hh1⟩ ⟨_, rfl, hE.drew⟩ (fun hT => ?_)
    have hT9 := Lib.hid hT
    clear hT
    repeat (first
      | (refine Ord.ch_value (v := ?_) hT9.out (by decide) (by rfl) ?_ ?_; rotate_left; (focus (intro w5 hS; have r0 := hS.1.rule; have r2 := hS.2.1.rule; unfold gv at r2; have hl := hS.2.2.look HX.out; simp only [pv] at hl; go_simp <;> with_reducible rfl)); (try simp only [Act.put, List.setIfInBounds_toArray, List.set_cons_zero, List.set_cons_succ]))
      | (refine Ord.ch_off hT9.out (by decide) (by rfl) ?_; (try simp only [Act.put, List.setIfInBounds_toArray, List.set_cons_zero, List.set_cons_succ])))
    refine Ord.ch_turn (v := .agg #[.int .u64 (f (x, y, z)), .int .i64 0, .bool false]) 0 hT9.out rfl (by decide) (Or.inl rfl) (by rfl) ?_ ?_
    · rintro w5 hC5 ⟨P5, hP5, hA5⟩
      cases hP5
      skip
      go_simp
      simp only [Ord.LandsIn]
      refine (load_w x y z d HX.out (i + 5) (i + 6) (by omega) hA5 hw1 hc1).mono ?_
      rintro e6 w6 ⟨rfl, hE6⟩; exact ⟨rfl, ⟨hE6.get 1 rfl, hE6.get (i + 2) hg2, hE6.get (i + 3) hh2⟩, _, rfl, hE6⟩
    (try simp only [Act.put, List.setIfInBounds_toArray, List.set_cons_zero, List.set_cons_succ])
    repeat (first
      | (refine Ord.ch_value (v := ?_) hT9.out (by decide) (by rfl) ?_ ?_; rotate_left; (focus (intro w5 hS; have r0 := hS.1.rule; have r2 := hS.2.1.rule; unfold gv at r2; have hl := hS.2.2.look HX.out; simp only [pv] at hl; have hf := valWord; go_simp <;> with_reducible rfl)); (try simp only [Act.put, List.setIfInBounds_toArray, List.set_cons_zero, List.set_cons_succ]))
      | (refine Ord.ch_off hT9.out (by decide) (by rfl) ?_; (try simp only [Act.put, List.setIfInBounds_toArray, List.set_cons_zero, List.set_cons_succ])))
    refine Ord.ch_turn (v := undef) 1 hT9.out rfl (by decide) (Or.inr ⟨_, rfl, by kernel_rfl⟩) (by rfl) ?_ ?_
    · rintro w5 hC5 ⟨P5, hP5, hA5⟩
      cases hP5
      have r := hA5.rule 0 rfl
      have ff := hA5.thaw 0 rfl
      have f0 := ff 0 (by simp)
      have f1 := ff 1 (by simp)
      have f2 := ff 2 (by simp)
      clear ff
      go_simp
      have hE6 := hA5.put3 0 rfl (.int .u64 (f (x, y, z))) (.int .i64 (h (x, y, z))) (.bool false)
      exact ⟨rfl, ⟨hE6.get 1 rfl, hE6.get (i + 2) hg2, hE6.get (i + 3) hh2⟩, _, rfl, hE6⟩
    (try simp only [Act.put, List.setIfInBounds_toArray, List.set_cons_zero, List.set_cons_succ])
    repeat (first
      | (refine Ord.ch_value (v := ?_) hT9.out (by decide) (by rfl) ?_ ?_; rotate_left; (focus (intro w5 hS; skip; go_simp <;> with_reducible rfl)); (try simp only [Act.put, List.setIfInBounds_toArray, List.set_cons_zero, List.set_cons_succ]))
      | (refine Ord.ch_off hT9.out (by decide) (by rfl) ?_; (try simp only [Act.put, List.setIfInBounds_toArray, List.set_cons_zero, List.set_cons_succ])))
    refine Ord.InText.nil fun w5 hS => ?_
    clear hT9
    obtain ⟨hC9, hA9⟩ := Ord.chain_end hS
    clear hS
    obtain ⟨P9, hP9, hA9⟩ := hA9
    cases hP9
    have q9 := hA9.rule 0 rfl
    go_wp2
    exact bodyPost_ret (v := .agg #[.int .u64 (f (x, y, z)), .int .i64 (h (x, y, z)), .bool false]) (by simp [results, Try.results15, go_sem, q9]) rfl ⟨rfl, by rw [HL1.out]; exact hA9.sub (.cons _ (.cons _ (List.Sublist.refl _)))⟩
  case true =>
    have hg1 : (L.set i (boxI g (gv p mp s sz fa)))[i]? = some (boxI g (gv p mp s sz fa)) := wself hg
    have hh1 : (L.set i (boxI g (gv p mp s sz fa)))[i + 1]? = some (leadsI mp h m) := wset (j := i) (by omega) hh
    have hw1 : (L.set i (boxI g (gv p mp s sz fa)))[i + 3]? = some (wbox p c) := wset (j := i) (by omega) hw
    have hc1 : (L.set i (boxI g (gv p mp s sz fa)))[i + 4]? = some (cellI c F f q n) := wset (j := i) (by omega) hc
    have hg2 : ((L.set i (boxI g (gv p mp s sz fa))).set (i + 4) (cellI c F f { q with l := wrap64 (q.l + 1) } n))[i]? = some (boxI g (gv p mp s sz fa)) := wset (j := i + 4) (by omega) hg1
    have hh2 : ((L.set i (boxI g (gv p mp s sz fa))).set (i + 4) (cellI c F f { q with l := wrap64 (q.l + 1) } n))[i + 1]? = some (leadsI mp h m) := wset (j := i + 4) (by omega) hh1
    clear HSZ
    generalize hL1 : L.set i (boxI g (gv p mp s sz fa)) = L1 at *
    have HL1 := Lib.hid hL1
    clear hL1
    refine Ord.wp_chain [5, 16] (fun w' => Blk 0 w' X [.int .i64 x, .int .i64 y, .int .i64 z, .int .i64 d] ∧ Blk 0 w' g (gv p mp s sz fa) ∧ LeadsIs w' mp h m) (Stage [Env w0 (boxI Y [.int .u64 0, .int .i64 0, .bool false] :: boxI X [.int .i64 x, .int .i64 y, .int .i64 z, .int .i64 d] :: L1), Env w0 (boxI Y [.int .u64 0, .int .i64 0, .bool false] :: boxI X [.int .i64 x, .int .i64 y, .int .i64 z, .int .i64 d] :: L1.set (i + 4) (cellI c F f { q with l := wrap64 (q.l + 1) } n)), Env w0 (boxI Y [.int .u64 (f (x, y, z)), .int .i64 (h (x, y, z)), .bool true] :: boxI X [.int .i64 x, .int .i64 y, .int .i64 z, .int .i64 d] :: L1.set (i + 4) (cellI c F f { q with l := wrap64 (q.l + 1) } n))]) (by kernel_rfl) (by kernel_rfl) (by kernel_rfl) ⟨hE.drew.get 1 rfl, hE.drew.get (i + 2) hg1, hE.drew.get (i + 3) hh1⟩ ⟨_, rfl, hE.drew⟩ (fun hT => ?_)
    have hT9 := Lib.hid hT
    clear hT
    repeat (first
      | (refine Ord.ch_value (v := ?_) hT9.out (by decide) (by rfl) ?_ ?_; rotate_left; (focus (intro w5 hS; have r0 := hS.1.rule; have r2 := hS.2.1.rule; unfold gv at r2; have hl := hS.2.2.look HX.out; simp only [pv] at hl; go_simp <;> with_reducible rfl)); (try simp only [Act.put, List.setIfInBounds_toArray, List.set_cons_zero, List.set_cons_succ]))
      | (refine Ord.ch_off hT9.out (by decide) (by rfl) ?_; (try simp only [Act.put, List.setIfInBounds_toArray, List.set_cons_zero, List.set_cons_succ])))
    refine Ord.ch_turn (v := .agg #[.int .u64 (f (x, y, z)), .int .i64 0, .bool false]) 0 hT9.out rfl (by decide) (Or.inl rfl) (by rfl) ?_ ?_
    · rintro w5 hC5 ⟨P5, hP5, hA5⟩
      cases hP5
      skip
      go_simp
      simp only [Ord.LandsIn]
      refine (load_w x y z d HX.out (i + 5) (i + 6) (by omega) hA5 hw1 hc1).mono ?_
      rintro e6 w6 ⟨rfl, hE6⟩; exact ⟨rfl, ⟨hE6.get 1 rfl, hE6.get (i + 2) hg2, hE6.get (i + 3) hh2⟩, _, rfl, hE6⟩
    (try simp only [Act.put, List.setIfInBounds_toArray, List.set_cons_zero, List.set_cons_succ])
    repeat (first
      | (refine Ord.ch_value (v := ?_) hT9.out (by decide) (by rfl) ?_ ?_; rotate_left; (focus (intro w5 hS; have r0 := hS.1.rule; have r2 := hS.2.1.rule; unfold gv at r2; have hl := hS.2.2.look HX.out; simp only [pv] at hl; have hf := valWord; go_simp <;> with_reducible rfl)); (try simp only [Act.put, List.setIfInBounds_toArray, List.set_cons_zero, List.set_cons_succ]))
      | (refine Ord.ch_off hT9.out (by decide) (by rfl) ?_; (try simp only [Act.put, List.setIfInBounds_toArray, List.set_cons_zero, List.set_cons_succ])))
    refine Ord.ch_turn (v := undef) 1 hT9.out rfl (by decide) (Or.inr ⟨_, rfl, by kernel_rfl⟩) (by rfl) ?_ ?_
    · rintro w5 hC5 ⟨P5, hP5, hA5⟩
      cases hP5
      have r := hA5.rule 0 rfl
      have ff := hA5.thaw 0 rfl
      have f0 := ff 0 (by simp)
      have f1 := ff 1 (by simp)
      have f2 := ff 2 (by simp)
      clear ff
      go_simp
      have hE6 := hA5.put3 0 rfl (.int .u64 (f (x, y, z))) (.int .i64 (h (x, y, z))) (.bool true)
      exact ⟨rfl, ⟨hE6.get 1 rfl, hE6.get (i + 2) hg2, hE6.get (i + 3) hh2⟩, _, rfl, hE6⟩
    (try simp only [Act.put, List.setIfInBounds_toArray, List.set_cons_zero, List.set_cons_succ])
    repeat (first
      | (refine Ord.ch_value (v := ?_) hT9.out (by decide) (by rfl) ?_ ?_; rotate_left; (focus (intro w5 hS; skip; go_simp <;> with_reducible rfl)); (try simp only [Act.put, List.setIfInBounds_toArray, List.set_cons_zero, List.set_cons_succ]))
      | (refine Ord.ch_off hT9.out (by decide) (by rfl) ?_; (try simp only [Act.put, List.setIfInBounds_toArray, List.set_cons_zero, List.set_cons_succ])))
    refine Ord.InText.nil fun w5 hS => ?_
    clear hT9
    obtain ⟨hC9, hA9⟩ := Ord.chain_end hS
    clear hS
    obtain ⟨P9, hP9, hA9⟩ := hA9
    cases hP9
    have q9 := hA9.rule 0 rfl
    go_wp2
    exact bodyPost_ret (v := .agg #[.int .u64 (f (x, y, z)), .int .i64 (h (x, y, z)), .bool true]) (by simp [results, Try.results15, go_sem, q9]) rfl ⟨rfl, by rw [HL1.out]; exact hA9.sub (.cons _ (.cons _ (List.Sublist.refl _)))⟩
set_option maxHeartbeats 3200000 in
theorem swap_g (x y z d o oe v e : Int) (ob b : Bool) (hx : Wf (x, y, z)) (hv : InU v) (he : In64 e) (hn : n < maxLen) (hm : m < maxLen) (hl : l.length ≤ 1000000) (i : Nat) (hE : Env w0 L w) (hg : L[i]? = some (boxI g (gv p mp s st fa))) (hh : L[i + 1]? = some (leadsI mp h m)) (hs : L[i + 2]? = some (soulI s S l)) (hw : L[i + 3]? = some (wbox p c)) (hc : L[i + 4]? = some (cellI c F f q n)) :
    Calls Try.prog 16 #[.pointer (some ⟨g, 0, none⟩), .agg #[.int .i64 x, .int .i64 y, .int .i64 z, .int .i64 d], .agg #[.int .u64 o, .int .i64 oe, .bool ob], .agg #[.int .u64 v, .int .i64 e, .bool b]] w fun e' w' => e' = .returned (.bool (decide (f (x, y, z) = o))) ∧ ∃ mp' F', Env w0 (((L.set (i + 4) (cellI c F' (swf f (x, y, z) o v) (swq q (decide (f (x, y, z) = o))) (n + 1))).set i (boxI g (gv p mp' s st (if f (x, y, z) = o then faS l x y d (ob || b) fa else fa)))).set (i + 1) (leadsI mp' (if f (x, y, z) = o then upd h (x, y, z) e else h) (m + 1))) w' := by
  replace hE := (((hE.box w.heap.size rfl [.int .i64 x, .int .i64 y, .int .i64 z, .int .i64 d] 43).box (w.heap.size + 1) (by simp) [.int .u64 o, .int .i64 oe, .bool ob] 39).box (w.heap.size + 1 + 1) (by simp) [.int .u64 v, .int .i64 e, .bool b] 39)
  have HX := Lib.hid hx
  have HE := Lib.hid he
  have HV := Lib.hid hv
  clear hx he hv
  generalize hdo : decide (f (x, y, z) = o) = D
  generalize hfz : (if f (x, y, z) = o then faS l x y d (ob || b) fa else fa) = fz
  generalize hhz : (if f (x, y, z) = o then upd h (x, y, z) e else h) = hz
  have HDO := Lib.hid hdo
  have HFZ := Lib.hid hfz
  have HHZ := Lib.hid hhz
  clear hdo hfz hhz
  go_enter Try.func16, Try.ntmps16
  go_wp2_with fail
  generalize ((w.alloc _).alloc _).alloc _ = w1 at *
  generalize w.heap.size + 1 + 1 = Z at *
  generalize w.heap.size + 1 = Y at *
  generalize w.heap.size = X at *
  refine Ord.wp_chain [10] (fun w' => Blk 0 w' X [.int .i64 x, .int .i64 y, .int .i64 z, .int .i64 d] ∧ Blk 0 w' Y [.int .u64 o, .int .i64 oe, .bool ob] ∧ Blk 0 w' Z [.int .u64 v, .int .i64 e, .bool b] ∧ Blk 0 w' g (gv p mp s st fa)) (Stage [Env w0 (boxI Z [.int .u64 v, .int .i64 e, .bool b] :: boxI Y [.int .u64 o, .int .i64 oe, .bool ob] :: boxI X [.int .i64 x, .int .i64 y, .int .i64 z, .int .i64 d] :: L), fun w' => ∃ F', Env w0 (boxI Z [.int .u64 v, .int .i64 e, .bool b] :: boxI Y [.int .u64 o, .int .i64 oe, .bool ob] :: boxI X [.int .i64 x, .int .i64 y, .int .i64 z, .int .i64 d] :: L.set (i + 4) (cellI c F' (swf f (x, y, z) o v) (swq q D) (n + 1))) w']) (by kernel_rfl) (by kernel_rfl) (by kernel_rfl) ⟨hE.drew.get 2 rfl, hE.drew.get 1 rfl, hE.drew.get 0 rfl, hE.drew.get (i + 3) hg⟩ ⟨_, rfl, hE.drew⟩ (fun hT => ?_)
  have hT9 := Lib.hid hT
  clear hT
  repeat (first
    | (refine Ord.ch_value (v := ?_) hT9.out (by decide) (by rfl) ?_ ?_; rotate_left; (focus (intro w5 hS; have r0 := hS.1.rule; have r1 := hS.2.1.rule; have r3 := hS.2.2.1.rule; have r2 := hS.2.2.2.rule; unfold gv at r2; go_simp <;> with_reducible rfl)); (try simp only [Act.put, List.setIfInBounds_toArray, List.set_cons_zero, List.set_cons_succ]))
    | (refine Ord.ch_off hT9.out (by decide) (by rfl) ?_; (try simp only [Act.put, List.setIfInBounds_toArray, List.set_cons_zero, List.set_cons_succ])))
  refine Ord.ch_turn (v := .bool D) 0 hT9.out rfl (by decide) (Or.inl rfl) (by rfl) ?_ ?_
  · rintro w5 hC5 ⟨P5, hP5, hA5⟩
    cases hP5
    skip
    go_simp
    simp only [Ord.LandsIn]
    refine (swap_w x y z d o oe v e ob b HX.out HV.out hn (i + 6) (i + 7) (by omega) hA5 hw hc).mono ?_
    rintro e6 w6 ⟨rfl, F6, hE6⟩; rw [HDO.out] at hE6 ⊢; exact ⟨rfl, ⟨hE6.get 2 rfl, hE6.get 1 rfl, hE6.get 0 rfl, hE6.get (i + 3) (wset (j := i + 4) (by omega) hg)⟩, _, rfl, F6, hE6⟩
  (try simp only [Act.put, List.setIfInBounds_toArray, List.set_cons_zero, List.set_cons_succ])
  repeat (first
    | (refine Ord.ch_value (v := ?_) hT9.out (by decide) (by rfl) ?_ ?_; rotate_left; (focus (intro w5 hS; skip; go_simp <;> with_reducible rfl)); (try simp only [Act.put, List.setIfInBounds_toArray, List.set_cons_zero, List.set_cons_succ]))
    | (refine Ord.ch_off hT9.out (by decide) (by rfl) ?_; (try simp only [Act.put, List.setIfInBounds_toArray, List.set_cons_zero, List.set_cons_succ])))
  refine Ord.InText.nil fun w5 hS => ?_
  clear hT9
  obtain ⟨hC9, hA9⟩ := Ord.chain_end hS
  clear hS
  obtain ⟨P9, hP9, hA9⟩ := hA9
  cases hP9
  obtain ⟨F9, hA9⟩ := hA9
  clear hC9 hE
  have hg1 := wset (j := i + 4) (b := cellI c F9 (swf f (x, y, z) o v) (swq q D) (n + 1)) (by omega) hg
  have hh1 := wset (j := i + 4) (b := cellI c F9 (swf f (x, y, z) o v) (swq q D) (n + 1)) (by omega) hh
  have hs1 := wset (j := i + 4) (b := cellI c F9 (swf f (x, y, z) o v) (swq q D) (n + 1)) (by omega) hs
  generalize hL1 : L.set (i + 4) (cellI c F9 (swf f (x, y, z) o v) (swq q D) (n + 1)) = L1 at *
  have HL1 := Lib.hid hL1
  clear hL1
  cases D
  · have hno : ¬ f (x, y, z) = o := of_decide_eq_false HDO.out
    have e1 : fa = fz := by have := HFZ.out; rwa [if_neg hno] at this
    have e2 : h = hz := by have := HHZ.out; rwa [if_neg hno] at this
    subst e1 e2
    go_wp2_with fail
    go_ret
    refine ⟨rfl, mp, F9, ?_⟩
    have hE6 := hA9.sub (.cons _ (.cons _ (.cons _ (List.Sublist.refl _))))
    have hE7 := hE6.turnL (i + 1) hh1 ((hE6.leads (i + 1) hh1).mono (Nat.le_succ m)) (Turn.refl _ _)
    rw [HL1.out, setSelf hg1]
    exact hE7
  · have hyes : f (x, y, z) = o := of_decide_eq_true HDO.out
    have e1 : faS l x y d (ob || b) fa = fz := by have := HFZ.out; rwa [if_pos hyes] at this
    have e2 : upd h (x, y, z) e = hz := by have := HHZ.out; rwa [if_pos hyes] at this
    have E1 := Lib.hid e1
    have E2 := Lib.hid e2
    clear e1 e2
    have r0 := hA9.rule 0 rfl
    have r1 := hA9.rule 1 rfl
    have r3 := hA9.rule 2 rfl
    have cW := fun sb => written_g x y z d v e b sb HX.out HE.out hm hl (i + 3) hA9 hg1 hh1 hs1
    have CW := Lib.hid cW
    clear cW
    cases ob
    all_goals
      go_wp2_with fail
      refine (CW.out _).mono ?_
      rintro e6 w6 ⟨rfl, mp6, hE6⟩
      clear r0 r1 r3 hA9 CW
      go_wp2
      go_ret
      refine ⟨rfl, mp6, F9, ?_⟩
      have hE7 := hE6.sub (.cons _ (.cons _ (.cons _ (List.Sublist.refl _))))
      have e3 := E1.out
      rw [E2.out] at hE7
      rw [HL1.out, ← e3]
      exact hE7
end
end Go.Proofs.Ytmihfpdbaagjnaa
