/- The ideal world: contracts of Swap, Add, Peek, Content, Count. -/
import Derived.Test.YtnlepgbmbdmjbaaIdealB
namespace Go.Proofs.Ytnlepgbmbdmjbaa
open Go.RowKit Go.Maps
set_option maxRecDepth 100000

section
variable {w0 w : World} {L : List Item} {g s c n m : Nat} {mp : Option Nat} {S F : Nat → Prop} {h f : Plc → Int} {l : List Int} {q : Cnt}
set_option maxHeartbeats 3200000 in
theorem swap_i (x y z d o oe v e : Int) (ob b : Bool) (hx : Wf (x, y, z)) (hd : In64 d) (hv : InU v) (he : In64 e) (hn : n < maxLen) (hm : m < maxLen) (i : Nat) (hE : Env w0 L w) (hg : L[i]? = some (boxI g (iv c mp s))) (hh : L[i + 1]? = some (leadsI mp h m)) (hc : L[i + 3]? = some (cellI c F f q n)) :
    Calls Try.prog 15 #[.pointer (some ⟨g, 0, none⟩), .agg #[.int .i64 x, .int .i64 y, .int .i64 z, .int .i64 d], .agg #[.int .u64 o, .int .i64 oe, .bool ob], .agg #[.int .u64 v, .int .i64 e, .bool b]] w fun e' w' => e' = .returned (.bool (decide (f (ownP x y z d) = o))) ∧ ∃ mp' F', Env w0 (((L.set (i + 3) (cellI c F' (swf f (ownP x y z d) o v) (swq q (decide (f (ownP x y z d) = o))) (n + 1))).set i (boxI g (iv c mp' s))).set (i + 1) (leadsI mp' (if f (ownP x y z d) = o then upd h (ownP x y z d) e else h) (m + 1))) w' := by
  have hO := ownP_wf hx hd
  obtain ⟨⟨o1, o2, o3⟩, ho⟩ : ∃ o, ownP x y z d = o := ⟨_, rfl⟩
  rw [ho] at hO ⊢
  have HO := Lib.hid ho
  have HX := Lib.hid hO
  have HE := Lib.hid he
  have HV := Lib.hid hv
  clear hx hd ho hO he hv
  replace hE := (((hE.box w.heap.size rfl [.int .i64 x, .int .i64 y, .int .i64 z, .int .i64 d] 41).box (w.heap.size + 1) (by simp) [.int .u64 o, .int .i64 oe, .bool ob] 37).box (w.heap.size + 1 + 1) (by simp) [.int .u64 v, .int .i64 e, .bool b] 37)
  generalize hdo : decide (f (o1, o2, o3) = o) = D
  generalize hhz : (if f (o1, o2, o3) = o then upd h (o1, o2, o3) e else h) = hz
  have HDO := Lib.hid hdo
  have HHZ := Lib.hid hhz
  clear hdo hhz
  go_enter Try.func15, Try.ntmps15
  go_upto_region 1 with fail
  generalize ((w.alloc _).alloc _).alloc _ = w1 at *
  generalize w.heap.size + 1 + 1 = Z at *
  generalize w.heap.size + 1 = Y at *
  generalize w.heap.size = X at *
  have r0 := hE.rule 2 rfl
  go_wp2_with fail
  refine (own_any x y z d o1 o2 o3 HO.out _).mono ?_
  rintro e1 w2 ⟨rfl, hb⟩
  replace hE := (hE.over hb).box w2.heap.size rfl [.int .i64 o1, .int .i64 o2, .int .i64 o3] 39
  clear r0 hb
  go_wp2_with fail
  generalize w2.alloc _ = w3 at *
  generalize w2.heap.size = P at *
  refine Ord.wp_chain [12] (fun w' => Blk 0 w' P [.int .i64 o1, .int .i64 o2, .int .i64 o3] ∧ Blk 0 w' Y [.int .u64 o, .int .i64 oe, .bool ob] ∧ Blk 0 w' Z [.int .u64 v, .int .i64 e, .bool b] ∧ Blk 0 w' g (iv c mp s)) (Stage [Env w0 (boxI P [.int .i64 o1, .int .i64 o2, .int .i64 o3] :: boxI Z [.int .u64 v, .int .i64 e, .bool b] :: boxI Y [.int .u64 o, .int .i64 oe, .bool ob] :: boxI X [.int .i64 x, .int .i64 y, .int .i64 z, .int .i64 d] :: L), fun w' => ∃ F', Env w0 (boxI P [.int .i64 o1, .int .i64 o2, .int .i64 o3] :: boxI Z [.int .u64 v, .int .i64 e, .bool b] :: boxI Y [.int .u64 o, .int .i64 oe, .bool ob] :: boxI X [.int .i64 x, .int .i64 y, .int .i64 z, .int .i64 d] :: L.set (i + 3) (cellI c F' (swf f (o1, o2, o3) o v) (swq q D) (n + 1))) w']) (by kernel_rfl) (by kernel_rfl) (by kernel_rfl) ⟨hE.drew.get 0 rfl, hE.drew.get 2 rfl, hE.drew.get 1 rfl, hE.drew.get (i + 4) hg⟩ ⟨_, rfl, hE.drew⟩ (fun hT => ?_)
  have hT9 := Lib.hid hT
  clear hT
  repeat (first
    | (refine Ord.ch_value (v := ?_) hT9.out (by decide) (by rfl) ?_ ?_; rotate_left; (focus (intro w5 hS; have r0 := hS.1.rule; have r1 := hS.2.1.rule; have r3 := hS.2.2.1.rule; have r2 := hS.2.2.2.rule; unfold iv at r2; go_simp <;> with_reducible rfl)); (try simp only [Act.put, List.setIfInBounds_toArray, List.set_cons_zero, List.set_cons_succ]))
    | (refine Ord.ch_off hT9.out (by decide) (by rfl) ?_; (try simp only [Act.put, List.setIfInBounds_toArray, List.set_cons_zero, List.set_cons_succ])))
  refine Ord.ch_turn (v := .bool D) 0 hT9.out rfl (by decide) (Or.inl rfl) (by rfl) ?_ ?_
  · rintro w5 hC5 ⟨P5, hP5, hA5⟩
    cases hP5
    skip
    go_simp
    simp only [Ord.LandsIn]
    refine (swap_any o1 o2 o3 o v HX.out HV.out hn (hA5.cell (i + 7) hc)).mono ?_
    rintro e6 w6 ⟨rfl, F6, hC6, hs6⟩; have hE6 := hA5.turn (i + 7) hc hC6 hs6; rw [HDO.out] at hE6 ⊢; exact ⟨rfl, ⟨hE6.get 0 rfl, hE6.get 2 rfl, hE6.get 1 rfl, hE6.get (i + 4) (wset (j := i + 3) (by omega) hg)⟩, _, rfl, F6, hE6⟩
  (try simp only [Act.put, List.setIfInBounds_toArray, List.set_cons_zero, List.set_cons_succ])
  repeat (first
    | (refine Ord.ch_value (v := ?_) hT9.out (by decide) (by rfl) ?_ ?_; rotate_left; (focus (intro w5 hS; skip; go_simp <;> with_reducible rfl)); (try simp only [Act.put, List.setIfInBounds_toArray, List.set_cons_zero, List.set_cons_succ]))
    | (refine Ord.ch_off hT9.out (by decide) (by rfl) ?_; (try simp only [Act.put, List.setIfInBounds_toArray, List.set_cons_zero, List.set_cons_succ])))
  refine Ord.InText.nil fun w5 hS => ?_
  clear hT9
  obtain ⟨hC9, hA9⟩ := Ord.chain_end hS
  clear hS
  obtain ⟨P9, hP9, hA9⟩ := hA9
  cases hP9
  obtain ⟨F9, hA9⟩ := hA9
  clear hC9 hE
  have hg1 := wset (j := i + 3) (b := cellI c F9 (swf f (o1, o2, o3) o v) (swq q D) (n + 1)) (by omega) hg
  have hh1 := wset (j := i + 3) (b := cellI c F9 (swf f (o1, o2, o3) o v) (swq q D) (n + 1)) (by omega) hh
  generalize hL1 : L.set (i + 3) (cellI c F9 (swf f (o1, o2, o3) o v) (swq q D) (n + 1)) = L1 at *
  have HL1 := Lib.hid hL1
  clear hL1
  cases D
  · have hno : ¬ f (o1, o2, o3) = o := of_decide_eq_false HDO.out
    have e2 : h = hz := by have := HHZ.out; rwa [if_neg hno] at this
    subst e2
    go_wp2_with fail
    go_ret
    refine ⟨rfl, mp, F9, ?_⟩
    have hE6 := hA9.sub (.cons _ (.cons _ (.cons _ (.cons _ (List.Sublist.refl _)))))
    have hE7 := hE6.turnL (i + 1) hh1 ((hE6.leads (i + 1) hh1).mono (Nat.le_succ m)) (Turn.refl _ _)
    rw [HL1.out, setSelf hg1]
    exact hE7
  · have hyes : f (o1, o2, o3) = o := of_decide_eq_true HDO.out
    have e2 : upd h (o1, o2, o3) e = hz := by have := HHZ.out; rwa [if_pos hyes] at this
    have E2 := Lib.hid e2
    clear e2
    have r0 := hA9.rule 0 rfl
    have r3 := hA9.rule 1 rfl
    go_wp2_with fail
    refine (lead_i o1 o2 o3 e HX.out HE.out hm (i + 4) hA9 hg1 hh1).mono ?_
    rintro e6 w6 ⟨rfl, mp6, hE6⟩
    clear r0 r3 hA9
    go_wp2
    go_ret
    refine ⟨rfl, mp6, F9, ?_⟩
    have hE7 := hE6.sub (.cons _ (.cons _ (.cons _ (.cons _ (List.Sublist.refl _)))))
    rw [E2.out] at hE7
    rw [HL1.out]
    exact hE7

set_option maxHeartbeats 1600000 in
theorem add_i (x y z d v : Int) (hx : Wf (x, y, z)) (hd : In64 d) (hn : n < maxLen) (i : Nat) (hE : Env w0 L w) (hg : L[i]? = some (boxI g (iv c mp s))) (hc : L[i + 3]? = some (cellI c F f q n)) :
    Calls Try.prog 16 #[.pointer (some ⟨g, 0, none⟩), .agg #[.int .i64 x, .int .i64 y, .int .i64 z, .int .i64 d], .int .u64 v] w fun e w' => e = .returned (.int .u64 (f (ownP x y z d))) ∧ ∃ F', Env w0 (L.set (i + 3) (cellI c F' (upd f (ownP x y z d) (IntKind.u64.wrap (f (ownP x y z d) + v))) { q with a := wrap64 (q.a + 1) } (n + 1))) w' := by
  have hO := ownP_wf hx hd
  obtain ⟨⟨o1, o2, o3⟩, ho⟩ : ∃ o, ownP x y z d = o := ⟨_, rfl⟩
  rw [ho] at hO ⊢
  have HO := Lib.hid ho
  have HX := Lib.hid hO
  clear hx hd ho hO
  replace hE := (hE.box w.heap.size rfl [.int .i64 x, .int .i64 y, .int .i64 z, .int .i64 d] 41)
  go_enter Try.func16, Try.ntmps16
  go_wp2_with fail
  generalize w.alloc _ = w1 at *
  generalize w.heap.size = X at *
  refine Ord.wp_chain [5] (fun w' => Blk 0 w' X [.int .i64 x, .int .i64 y, .int .i64 z, .int .i64 d] ∧ Blk 0 w' g (iv c mp s)) (Stage [Env w0 (boxI X [.int .i64 x, .int .i64 y, .int .i64 z, .int .i64 d] :: L), fun w' => ∃ F', Env w0 (boxI X [.int .i64 x, .int .i64 y, .int .i64 z, .int .i64 d] :: L.set (i + 3) (cellI c F' (upd f (o1, o2, o3) (IntKind.u64.wrap (f (o1, o2, o3) + v))) { q with a := wrap64 (q.a + 1) } (n + 1))) w']) (by kernel_rfl) (by kernel_rfl) (by kernel_rfl) ⟨hE.drew.get 0 rfl, hE.drew.get (i + 1) hg⟩ ⟨_, rfl, hE.drew⟩ (fun hT => ?_)
  have hT9 := Lib.hid hT
  clear hT
  repeat (first
    | (refine Ord.ch_value (v := ?_) hT9.out (by decide) (by rfl) ?_ ?_; rotate_left; (focus (intro w5 hS; have r0 := hS.1.rule; go_simp <;> with_reducible rfl)); (try simp only [Act.put, List.setIfInBounds_toArray, List.set_cons_zero, List.set_cons_succ]))
    | (refine Ord.ch_off hT9.out (by decide) (by rfl) ?_; (try simp only [Act.put, List.setIfInBounds_toArray, List.set_cons_zero, List.set_cons_succ]))
    | (refine Ord.ch_call (v := ?_) (f := ?_) (args := ?_) hT9.out (by decide) (by rfl) ?_ ?_ ?_; rotate_left 3; (focus (intro w5 hS; have r0 := hS.1.rule; go_simp; constructor <;> with_reducible rfl)); (focus (intro w5 hS; (first | (with_reducible refine (kept_i hS.2).mono ?_; rintro e w6 ⟨rfl, rfl⟩; constructor; with_reducible rfl; exact ⟨hS, fun _ h => h⟩) | (with_reducible refine (own_any x y z d o1 o2 o3 HO.out _).mono ?_; rintro e w6 ⟨rfl, hb6⟩; constructor; with_reducible rfl; exact ⟨⟨hS.1.over hb6, hS.2.over hb6⟩, Stage.two (fun h => h.over hb6) fun h => h.imp fun _ h => h.over hb6⟩)))); (try simp only [Act.put, List.setIfInBounds_toArray, List.set_cons_zero, List.set_cons_succ])))
  refine Ord.ch_turn (v := .int .u64 (f (o1, o2, o3))) 0 hT9.out rfl (by decide) (Or.inl rfl) (by rfl) ?_ ?_
  · rintro w5 hC5 ⟨P5, hP5, hA5⟩
    cases hP5
    skip
    go_simp
    simp only [Ord.LandsIn]
    refine (add_any o1 o2 o3 v HX.out hn (hA5.cell (i + 4) hc)).mono ?_
    rintro e6 w6 ⟨rfl, F6, hC6, hs6⟩; have hE6 := hA5.turn (i + 4) hc hC6 hs6; exact ⟨rfl, ⟨hE6.get 0 rfl, hE6.get (i + 1) (wset (j := i + 3) (by omega) hg)⟩, _, rfl, F6, hE6⟩
  (try simp only [Act.put, List.setIfInBounds_toArray, List.set_cons_zero, List.set_cons_succ])
  repeat (first
    | (refine Ord.ch_value (v := ?_) hT9.out (by decide) (by rfl) ?_ ?_; rotate_left; (focus (intro w5 hS; skip; go_simp <;> with_reducible rfl)); (try simp only [Act.put, List.setIfInBounds_toArray, List.set_cons_zero, List.set_cons_succ]))
    | (refine Ord.ch_off hT9.out (by decide) (by rfl) ?_; (try simp only [Act.put, List.setIfInBounds_toArray, List.set_cons_zero, List.set_cons_succ])))
  refine Ord.InText.nil fun w5 hS => ?_
  clear hT9
  obtain ⟨hC9, hA9⟩ := Ord.chain_end hS
  clear hS
  obtain ⟨P9, hP9, hA9⟩ := hA9
  cases hP9
  obtain ⟨F9, hA9⟩ := hA9
  clear hC9
  go_wp2
  go_ret
  exact ⟨rfl, F9, hA9.sub (.cons _ (List.Sublist.refl _))⟩

set_option maxHeartbeats 1600000 in
theorem peek_i (x y z : Int) (hx : Wf (x, y, z)) (hl : l.length ≤ 1000000) (i : Nat) (hE : Env w0 L w) (hg : L[i]? = some (boxI g (iv c mp s))) (hs : L[i + 2]? = some (soulI s S l)) (hc : L[i + 3]? = some (cellI c F f q n)) :
    Calls Try.prog 18 #[.pointer (some ⟨g, 0, none⟩), .agg #[.int .i64 x, .int .i64 y, .int .i64 z]] w fun e w' => e = .returned (.int .u64 (f (ownP x y z (nowL l y)))) ∧ Below w.heap.size w w' := by
  have hO := ownP_wf hx (show In64 (nowL l y) by have := nowL_bound l y; unfold In64; omega)
  obtain ⟨⟨o1, o2, o3⟩, ho⟩ : ∃ o, ownP x y z (nowL l y) = o := ⟨_, rfl⟩
  rw [ho] at hO ⊢
  have HO := Lib.hid ho
  have HX := Lib.hid hO
  have HY := Lib.hid hx.2.1
  clear hx ho hO
  have hb := (Below.refl w.heap.size w).alloc (Nat.le_refl _) (.cells #[.int .i64 x, .int .i64 y, .int .i64 z] 39)
  replace hE := hE.box w.heap.size rfl [.int .i64 x, .int .i64 y, .int .i64 z] 39
  go_enter Try.func18, Try.ntmps18
  go_wp2_with fail
  obtain ⟨X, hXw⟩ : ∃ X, X = w.heap.size := ⟨_, rfl⟩
  rw [← hXw] at hE ⊢
  have HXW := Lib.hid hXw
  clear hXw
  have hg1 : (boxI X [.int .i64 x, .int .i64 y, .int .i64 z] :: L)[i + 1]? = some (boxI g (iv c mp s)) := hg
  have hs1 : (boxI X [.int .i64 x, .int .i64 y, .int .i64 z] :: L)[i + 3]? = some (soulI s S l) := hs
  have hc1 : (boxI X [.int .i64 x, .int .i64 y, .int .i64 z] :: L)[i + 4]? = some (cellI c F f q n) := hc
  have cN := fun (v : World) (hE : Env w0 (boxI X [.int .i64 x, .int .i64 y, .int .i64 z] :: L) v) => now_any y HY.out hl (hE.soul (i + 3) hs1)
  have CN := Lib.hid cN
  clear cN
  generalize nowL l y = d at *
  refine Ord.wp_chain [] (fun w' => Env w0 (boxI X [.int .i64 x, .int .i64 y, .int .i64 z] :: L) w' ∧ Below w.heap.size w w') (fun _ _ => True) (by kernel_rfl) (by kernel_rfl) (by kernel_rfl) ⟨hE.drew, hb.drew⟩ trivial (fun hT => ?_)
  have hT9 := Lib.hid hT
  clear hT
  repeat (first
    | (refine Ord.ch_value (v := ?_) hT9.out (by decide) (by rfl) ?_ ?_; rotate_left; (focus (intro w5 hS; have r := hS.1.rule 0 rfl; go_simp <;> with_reducible rfl)); (try simp only [Act.put, List.setIfInBounds_toArray, List.set_cons_zero, List.set_cons_succ]))
    | (refine Ord.ch_off hT9.out (by decide) (by rfl) ?_; (try simp only [Act.put, List.setIfInBounds_toArray, List.set_cons_zero, List.set_cons_succ]))
    | (refine Ord.ch_call (v := ?_) (f := ?_) (args := ?_) hT9.out (by decide) (by rfl) ?_ ?_ ?_; rotate_left 3; (focus (intro w5 hS; have r := hS.1.rule 0 rfl; go_simp; constructor <;> with_reducible rfl)); (focus (intro w5 hS; (first | (with_reducible refine (kept_i (hS.1.iblk (i + 1) hg1)).mono ?_; rintro e w6 ⟨rfl, rfl⟩; constructor; with_reducible rfl; exact ⟨hS, fun _ h => h⟩) | (with_reducible refine (souls_i (hS.1.iblk (i + 1) hg1)).mono ?_; rintro e w6 ⟨rfl, rfl⟩; constructor; with_reducible rfl; exact ⟨hS, fun _ h => h⟩) | (with_reducible refine (CN.out _ hS.1).mono ?_; rintro e w6 ⟨rfl, rfl⟩; constructor; with_reducible rfl; exact ⟨hS, fun _ h => h⟩) | (with_reducible refine (own_any x y z d o1 o2 o3 HO.out _).mono ?_; rintro e w6 ⟨rfl, hb6⟩; constructor; with_reducible rfl; exact ⟨⟨hS.1.over hb6, hS.2.trans (hb6.mono hS.2.size)⟩, fun _ h => h⟩) | (with_reducible refine (peek_any o1 o2 o3 HX.out (hS.1.cell (i + 4) hc1)).mono ?_; rintro e w6 ⟨rfl, hb6⟩; constructor; with_reducible rfl; exact ⟨⟨hS.1.over hb6, hS.2.trans (hb6.mono hS.2.size)⟩, fun _ h => h⟩)))); (try simp only [Act.put, List.setIfInBounds_toArray, List.set_cons_zero, List.set_cons_succ])))
  refine Ord.InText.nil fun w5 hS => ?_
  clear hT9
  obtain ⟨hC9, hA9⟩ := Ord.chain_end hS
  clear hS
  go_wp2
  go_ret
  exact ⟨rfl, hC9.2⟩

set_option maxHeartbeats 1600000 in
theorem content_i (d z : Int) (hd : In64 d) (hz : In64 z) (i : Nat) (hE : Env w0 L w) (hg : L[i]? = some (boxI g (iv c mp s))) (hc : L[i + 3]? = some (cellI c F f q n)) :
    Calls Try.prog 19 #[.pointer (some ⟨g, 0, none⟩), .int .i64 d, .int .i64 z] w fun e w' => e = .returned (.int .u64 (if contB 5 z = true then f (5, d, z) else 0)) ∧ Below w.heap.size w w' := by
  have HX : Hid (Wf (5, d, z)) := Lib.hid ⟨show In64 5 by unfold In64; omega, hd, hz⟩
  clear hd hz
  generalize hr : (if contB 5 z = true then f (5, d, z) else 0) = v
  have HR := Lib.hid hr
  clear hr
  go_enter Try.func19, Try.ntmps19
  go_wp2_with fail
  refine (placeOf_any d z _).mono ?_
  rintro e w1 ⟨rfl, hb⟩
  replace hE := (hE.over hb).box w1.heap.size rfl [.int .i64 5, .int .i64 d, .int .i64 z] 39
  have hB : Below w.heap.size w (w1.alloc (.cells #[.int .i64 5, .int .i64 d, .int .i64 z] 39)) := hb.alloc hb.size _
  clear hb
  go_upto_region 2 with fail
  generalize w1.alloc _ = w2 at *
  generalize w1.heap.size = X at *
  have r := hE.rule 0 rfl
  go_wp2_with fail
  refine (isContent_any 5 d z _).mono ?_
  rintro e w3 ⟨rfl, hb⟩
  replace hE := hE.over hb
  replace hB := hB.trans (hb.mono hB.size)
  clear hb r
  generalize contB 5 z = t at *
  cases t
  · have e1 : 0 = v := by simpa using HR.out
    clear HR
    subst e1
    go_wp2
    go_ret
    exact ⟨rfl, hB⟩
  · have e1 : f (5, d, z) = v := by simpa using HR.out
    clear HR
    subst e1
    go_wp2_with fail
    have hg1 : (boxI X [.int .i64 5, .int .i64 d, .int .i64 z] :: L)[i + 1]? = some (boxI g (iv c mp s)) := hg
    have hc1 : (boxI X [.int .i64 5, .int .i64 d, .int .i64 z] :: L)[i + 4]? = some (cellI c F f q n) := hc
    refine Ord.wp_chain [] (fun w' => Env w0 (boxI X [.int .i64 5, .int .i64 d, .int .i64 z] :: L) w' ∧ Below w.heap.size w w') (fun _ _ => True) (by kernel_rfl) (by kernel_rfl) (by kernel_rfl) ⟨hE.drew, hB.drew⟩ trivial (fun hT => ?_)
    have hT9 := Lib.hid hT
    clear hT
    repeat (first
      | (refine Ord.ch_value (v := ?_) hT9.out (by decide) (by rfl) ?_ ?_; rotate_left; (focus (intro w5 hS; have r := hS.1.rule 0 rfl; go_simp <;> with_reducible rfl)); (try simp only [Act.put, List.setIfInBounds_toArray, List.set_cons_zero, List.set_cons_succ]))
      | (refine Ord.ch_off hT9.out (by decide) (by rfl) ?_; (try simp only [Act.put, List.setIfInBounds_toArray, List.set_cons_zero, List.set_cons_succ]))
      | (refine Ord.ch_call (v := ?_) (f := ?_) (args := ?_) hT9.out (by decide) (by rfl) ?_ ?_ ?_; rotate_left 3; (focus (intro w5 hS; have r := hS.1.rule 0 rfl; go_simp; constructor <;> with_reducible rfl)); (focus (intro w5 hS; (first | (with_reducible refine (kept_i (hS.1.iblk (i + 1) hg1)).mono ?_; rintro e w6 ⟨rfl, rfl⟩; constructor; with_reducible rfl; exact ⟨hS, fun _ h => h⟩) | (with_reducible refine (peek_any 5 d z HX.out (hS.1.cell (i + 4) hc1)).mono ?_; rintro e w6 ⟨rfl, hb6⟩; constructor; with_reducible rfl; exact ⟨⟨hS.1.over hb6, hS.2.trans (hb6.mono hS.2.size)⟩, fun _ h => h⟩)))); (try simp only [Act.put, List.setIfInBounds_toArray, List.set_cons_zero, List.set_cons_succ])))
    refine Ord.InText.nil fun w5 hS => ?_
    clear hT9
    obtain ⟨hC9, hA9⟩ := Ord.chain_end hS
    clear hS
    go_wp2
    go_ret
    exact ⟨rfl, hC9.2⟩

set_option maxHeartbeats 1600000 in
theorem count_i (i : Nat) (hE : Env w0 L w) (hg : L[i]? = some (boxI g (iv c mp s))) (hc : L[i + 3]? = some (cellI c F f q n)) :
    Calls Try.prog 10 #[.pointer (some ⟨g, 0, none⟩)] w fun e w' => e = .returned (.agg #[.int .i64 q.l, .int .i64 q.s, .int .i64 q.w, .int .i64 q.f, .int .i64 q.a]) ∧ Below w.heap.size w w' := by
  have hb := (Below.refl w.heap.size w).alloc (Nat.le_refl _) (.cells #[.int .i64 0, .int .i64 0, .int .i64 0, .int .i64 0, .int .i64 0] 46)
  replace hE := hE.box w.heap.size rfl [.int .i64 0, .int .i64 0, .int .i64 0, .int .i64 0, .int .i64 0] 46
  go_enter Try.func10, Try.ntmps10
  go_wp2_with fail
  refine (kept_i (hE.iblk (i + 1) hg)).mono ?_
  rintro e w1 ⟨rfl, rfl⟩
  go_wp2_with fail
  refine (count_any (hE.cell (i + 4) hc)).mono ?_
  rintro e w2 ⟨rfl, hb2⟩
  have hE2 := hE.over hb2
  have f5 := hE2.thaw 0 rfl
  have f0 := f5 0 (by simp)
  have f1 := f5 1 (by simp)
  have f2 := f5 2 (by simp)
  have f3 := f5 3 (by simp)
  have f4 := f5 4 (by simp)
  have r := hE2.rule 0 rfl
  have hB := hb.trans (hb2.mono hb.size)
  clear f5
  go_wp2
  have hP := hE2.put5 0 rfl (.int .i64 q.l) (.int .i64 q.s) (.int .i64 q.w) (.int .i64 q.f) (.int .i64 q.a)
  have q9 := hP.rule 0 rfl
  refine bodyPost_ret (v := .agg #[.int .i64 q.l, .int .i64 q.s, .int .i64 q.w, .int .i64 q.f, .int .i64 q.a]) (by simp [results, Try.results10, go_sem, q9]) rfl ⟨rfl, ?_⟩
  exact ((((hB.setCell (Nat.le_refl _) _).setCell (Nat.le_refl _) _).setCell (Nat.le_refl _) _).setCell (Nat.le_refl _) _).setCell (Nat.le_refl _) _
end
end Go.Proofs.Ytnlepgbmbdmjbaa
