/- The ideal world: contracts of New, Born, Store, Load. -/
import Derived.Test.YtnlepgbmbdmjbaaIdealB
namespace Go.Proofs.Ytnlepgbmbdmjbaa
open Go.RowKit Go.Maps
set_option maxRecDepth 100000

/-- The field of a value that is its word. -/
theorem valWordI (v : World) (a b : Int) (d : Bool) : (Instr.field 37 (.agg #[.int .u64 a, .int .i64 b, .bool d]) 0).run Try.prog v = .ok (.int .u64 a) v := by kernel_rfl
section
variable {w0 w : World} {L : List Item} {g s c n m : Nat} {mp : Option Nat} {S F : Nat → Prop} {h f : Plc → Int} {l : List Int} {q : Cnt}
theorem new_i (hE : Env w0 L w) : Calls Try.prog 8 #[] w fun e w' => ∃ g c s, e = .returned (.pointer (some ⟨g, 0, none⟩)) ∧ Env w0 (boxI g (iv c none s) :: leadsI none (fun _ => 0) 0 :: soulI s (fun k => k = s) [] :: cellI c (fun k => k = c) (fun _ => 0) ⟨0, 0, 0, 0, 0⟩ 0 :: L) w' ∧ Below w.heap.size w w' := by
  go_enter Try.func8, Try.ntmps8
  go_wp2_with fail
  refine (new_any w).mono ?_
  rintro e w1 ⟨rfl, hC, hb⟩
  replace hE := hE.made hC (Nat.le_refl _) hb
  go_wp2_with fail
  refine (newS_any w1).mono ?_
  rintro e w2 ⟨rfl, hC2, hb2⟩
  replace hE := (hE.madeS hC2 (Nat.le_refl _) hb2).newL
  have hB := hb.trans (hb2.mono hb.size)
  clear hC hb hb2 hC2
  generalize w1.heap.size = s at *
  replace hE := hE.box w2.heap.size rfl (iv w.heap.size none s) 71
  go_wp2
  go_ret
  exact ⟨_, _, _, rfl, hE, hB.alloc hB.size _⟩

set_option maxHeartbeats 1600000 in
theorem born_i (x : Int) (hx : In64 x) (hl : l.length ≤ 100000) (i : Nat) (hE : Env w0 L w) (hg : L[i]? = some (boxI g (iv c mp s))) (hs : L[i + 2]? = some (soulI s S l)) :
    Calls Try.prog 17 #[.pointer (some ⟨g, 0, none⟩), .int .i64 x] w fun e w' => e = .returned (.int .i64 (bornV l x)) ∧ ∃ S', Env w0 (L.set (i + 2) (soulI s S' (bornL l x))) w' := by
  go_enter Try.func17, Try.ntmps17
  go_wp2_with fail
  refine (souls_i (hE.iblk i hg)).mono ?_
  rintro e w1 ⟨rfl, rfl⟩
  go_wp2_with fail
  refine (bornX_any x hx hl (hE.soul (i + 2) hs)).mono ?_
  rintro e w2 ⟨rfl, S', hC, ht⟩
  replace hE := hE.turnS (i + 2) hs hC ht
  go_wp2
  go_ret
  exact ⟨rfl, S', hE⟩

set_option maxHeartbeats 3200000 in
theorem store_i (x y z d v e : Int) (b : Bool) (hx : Wf (x, y, z)) (hd : In64 d) (hv : InU v) (he : In64 e) (hn : n < maxLen) (hm : m < maxLen) (i : Nat) (hE : Env w0 L w) (hg : L[i]? = some (boxI g (iv c mp s))) (hh : L[i + 1]? = some (leadsI mp h m)) (hc : L[i + 3]? = some (cellI c F f q n)) :
    Calls Try.prog 13 #[.pointer (some ⟨g, 0, none⟩), .agg #[.int .i64 x, .int .i64 y, .int .i64 z, .int .i64 d], .agg #[.int .u64 v, .int .i64 e, .bool b]] w fun e' w' => e' = .returned (.tuple #[]) ∧ ∃ mp' F', Env w0 (((L.set (i + 3) (cellI c F' (upd f (ownP x y z d) v) { q with s := wrap64 (q.s + 1) } (n + 1))).set i (boxI g (iv c mp' s))).set (i + 1) (leadsI mp' (upd h (ownP x y z d) e) (m + 1))) w' := by
  have hO := ownP_wf hx hd
  obtain ⟨⟨o1, o2, o3⟩, ho⟩ : ∃ o, ownP x y z d = o := ⟨_, rfl⟩
  rw [ho] at hO ⊢
  have HO := Lib.hid ho
  have HX := Lib.hid hO
  have HE := Lib.hid he
  have HV := Lib.hid hv
  clear hx hd ho hO he hv
  replace hE := ((hE.box w.heap.size rfl [.int .i64 x, .int .i64 y, .int .i64 z, .int .i64 d] 41).box (w.heap.size + 1) (by simp) [.int .u64 v, .int .i64 e, .bool b] 37)
  go_enter Try.func13, Try.ntmps13
  go_upto_region 2 with fail
  generalize (w.alloc _).alloc _ = w1 at *
  generalize w.heap.size + 1 = Y at *
  generalize w.heap.size = X at *
  have r0 := hE.rule 1 rfl
  go_wp2_with fail
  refine (own_any x y z d o1 o2 o3 HO.out _).mono ?_
  rintro e1 w2 ⟨rfl, hb⟩
  replace hE := (hE.over hb).box w2.heap.size rfl [.int .i64 o1, .int .i64 o2, .int .i64 o3] 39
  clear r0 hb
  go_wp2_with fail
  generalize w2.alloc _ = w3 at *
  generalize w2.heap.size = P at *
  refine Ord.wp_chain [7] (fun w' => Blk 0 w' P [.int .i64 o1, .int .i64 o2, .int .i64 o3] ∧ Blk 0 w' Y [.int .u64 v, .int .i64 e, .bool b] ∧ Blk 0 w' g (iv c mp s)) (Stage [Env w0 (boxI P [.int .i64 o1, .int .i64 o2, .int .i64 o3] :: boxI Y [.int .u64 v, .int .i64 e, .bool b] :: boxI X [.int .i64 x, .int .i64 y, .int .i64 z, .int .i64 d] :: L), fun w' => ∃ F', Env w0 (boxI P [.int .i64 o1, .int .i64 o2, .int .i64 o3] :: boxI Y [.int .u64 v, .int .i64 e, .bool b] :: boxI X [.int .i64 x, .int .i64 y, .int .i64 z, .int .i64 d] :: L.set (i + 3) (cellI c F' (upd f (o1, o2, o3) v) { q with s := wrap64 (q.s + 1) } (n + 1))) w']) (by kernel_rfl) (by kernel_rfl) (by kernel_rfl) ⟨hE.drew.get 0 rfl, hE.drew.get 1 rfl, hE.drew.get (i + 3) hg⟩ ⟨_, rfl, hE.drew⟩ (fun hT => ?_)
  have hT9 := Lib.hid hT
  clear hT
  repeat (first
    | (refine Ord.ch_value (v := ?_) hT9.out (by decide) (by rfl) ?_ ?_; rotate_left; (focus (intro w5 hS; have r0 := hS.1.rule; have r1 := hS.2.1.rule; have r2 := hS.2.2.rule; unfold iv at r2; go_simp <;> with_reducible rfl)); (try simp only [Act.put, List.setIfInBounds_toArray, List.set_cons_zero, List.set_cons_succ]))
    | (refine Ord.ch_off hT9.out (by decide) (by rfl) ?_; (try simp only [Act.put, List.setIfInBounds_toArray, List.set_cons_zero, List.set_cons_succ])))
  refine Ord.ch_turn (v := .tuple #[]) 0 hT9.out rfl (by decide) (Or.inl rfl) (by rfl) ?_ ?_
  · rintro w5 hC5 ⟨P5, hP5, hA5⟩
    cases hP5
    skip
    go_simp
    simp only [Ord.LandsIn]
    refine (store_any o1 o2 o3 v HX.out HV.out hn (hA5.cell (i + 6) hc)).mono ?_
    rintro e6 w6 ⟨rfl, F6, hC6, hs6⟩; have hE6 := hA5.turn (i + 6) hc hC6 hs6; exact ⟨rfl, ⟨hE6.get 0 rfl, hE6.get 1 rfl, hE6.get (i + 3) (wset (j := i + 3) (by omega) hg)⟩, _, rfl, F6, hE6⟩
  (try simp only [Act.put, List.setIfInBounds_toArray, List.set_cons_zero, List.set_cons_succ])
  repeat (first
    | (refine Ord.ch_value (v := ?_) hT9.out (by decide) (by rfl) ?_ ?_; rotate_left; (focus (intro w5 hS; skip; go_simp <;> with_reducible rfl)); (try simp only [Act.put, List.setIfInBounds_toArray, List.set_cons_zero, List.set_cons_succ]))
    | (refine Ord.ch_off hT9.out (by decide) (by rfl) ?_; (try simp only [Act.put, List.setIfInBounds_toArray, List.set_cons_zero, List.set_cons_succ])))
  refine Ord.InText.nil fun w5 hS => ?_
  clear hT9
  obtain ⟨hC9, hA9⟩ := Ord.chain_end hS
  clear hS
  obtain ⟨P9, hP9, hA9⟩ := hA9
  cases hP9
  obtain ⟨F9, hA9⟩ := hA9
  clear hC9 hE
  have hg1 := wset (j := i + 3) (b := cellI c F9 (upd f (o1, o2, o3) v) { q with s := wrap64 (q.s + 1) } (n + 1)) (by omega) hg
  have hh1 := wset (j := i + 3) (b := cellI c F9 (upd f (o1, o2, o3) v) { q with s := wrap64 (q.s + 1) } (n + 1)) (by omega) hh
  have r0 := hA9.rule 0 rfl
  have r1 := hA9.rule 1 rfl
  go_wp2_with fail
  refine (lead_i o1 o2 o3 e HX.out HE.out hm (i + 3) hA9 hg1 hh1).mono ?_
  rintro e6 w6 ⟨rfl, mp6, hE6⟩
  clear r0 r1 hA9
  go_wp2
  (first | go_end0 | refine bodyPost_ret (results_none rfl _ _ _) rfl ?_)
  exact ⟨rfl, mp6, F9, hE6.sub (.cons _ (.cons _ (.cons _ (List.Sublist.refl _))))⟩

set_option maxHeartbeats 3200000 in
theorem load_i (x y z d : Int) (hx : Wf (x, y, z)) (hd : In64 d) (i : Nat) (hE : Env w0 L w) (hg : L[i]? = some (boxI g (iv c mp s))) (hh : L[i + 1]? = some (leadsI mp h m)) (hc : L[i + 3]? = some (cellI c F f q n)) :
    Calls Try.prog 14 #[.pointer (some ⟨g, 0, none⟩), .agg #[.int .i64 x, .int .i64 y, .int .i64 z, .int .i64 d]] w fun e w' => e = .returned (.agg #[.int .u64 (f (ownP x y z d)), .int .i64 (h (ownP x y z d)), .bool false]) ∧ Env w0 (L.set (i + 3) (cellI c F f { q with l := wrap64 (q.l + 1) } n)) w' := by
  have hO := ownP_wf hx hd
  obtain ⟨⟨o1, o2, o3⟩, ho⟩ : ∃ o, ownP x y z d = o := ⟨_, rfl⟩
  rw [ho] at hO ⊢
  have HO := Lib.hid ho
  have HX := Lib.hid hO
  clear hx hd ho hO
  replace hE := ((hE.box w.heap.size rfl [.int .i64 x, .int .i64 y, .int .i64 z, .int .i64 d] 41).box (w.heap.size + 1) (by simp) [.int .u64 0, .int .i64 0, .bool false] 37)
  go_enter Try.func14, Try.ntmps14
  go_upto_region 3 with fail
  generalize (w.alloc _).alloc _ = w1 at *
  generalize w.heap.size + 1 = Y at *
  generalize w.heap.size = X at *
  have r0 := hE.rule 1 rfl
  go_wp2_with fail
  refine (own_any x y z d o1 o2 o3 HO.out _).mono ?_
  rintro e1 w2 ⟨rfl, hb⟩
  replace hE := (hE.over hb).box w2.heap.size rfl [.int .i64 o1, .int .i64 o2, .int .i64 o3] 39
  clear r0 hb
  go_wp2_with fail
  generalize w2.alloc _ = w3 at *
  generalize w2.heap.size = P at *
  have hg2 : (L.set (i + 3) (cellI c F f { q with l := wrap64 (q.l + 1) } n))[i]? = some (boxI g (iv c mp s)) := wset (j := i + 3) (by omega) hg
  have hh2 : (L.set (i + 3) (cellI c F f { q with l := wrap64 (q.l + 1) } n))[i + 1]? = some (leadsI mp h m) := wset (j := i + 3) (by omega) hh
  refine Ord.wp_chain [5, 13] (fun w' => Blk 0 w' P [.int .i64 o1, .int .i64 o2, .int .i64 o3] ∧ Blk 0 w' g (iv c mp s) ∧ LeadsIs w' mp h m) (Stage [Env w0 (boxI P [.int .i64 o1, .int .i64 o2, .int .i64 o3] :: boxI Y [.int .u64 0, .int .i64 0, .bool false] :: boxI X [.int .i64 x, .int .i64 y, .int .i64 z, .int .i64 d] :: L), Env w0 (boxI P [.int .i64 o1, .int .i64 o2, .int .i64 o3] :: boxI Y [.int .u64 0, .int .i64 0, .bool false] :: boxI X [.int .i64 x, .int .i64 y, .int .i64 z, .int .i64 d] :: L.set (i + 3) (cellI c F f { q with l := wrap64 (q.l + 1) } n)), Env w0 (boxI P [.int .i64 o1, .int .i64 o2, .int .i64 o3] :: boxI Y [.int .u64 (f (o1, o2, o3)), .int .i64 (h (o1, o2, o3)), .bool false] :: boxI X [.int .i64 x, .int .i64 y, .int .i64 z, .int .i64 d] :: L.set (i + 3) (cellI c F f { q with l := wrap64 (q.l + 1) } n))]) (by kernel_rfl) (by kernel_rfl) (by kernel_rfl) ⟨hE.drew.get 0 rfl, hE.drew.get (i + 3) hg, hE.drew.get (i + 4) hh⟩ ⟨_, rfl, hE.drew⟩ (fun hT => ?_)
  have hT9 := Lib.hid hT
  clear hT
  repeat (first
    | (refine Ord.ch_value (v := ?_) hT9.out (by decide) (by rfl) ?_ ?_; rotate_left; (focus (intro w5 hS; have r0 := hS.1.rule; have r2 := hS.2.1.rule; unfold iv at r2; have hl := hS.2.2.look HX.out; simp only [pv] at hl; go_simp <;> with_reducible rfl)); (try simp only [Act.put, List.setIfInBounds_toArray, List.set_cons_zero, List.set_cons_succ]))
    | (refine Ord.ch_off hT9.out (by decide) (by rfl) ?_; (try simp only [Act.put, List.setIfInBounds_toArray, List.set_cons_zero, List.set_cons_succ])))
  refine Ord.ch_turn (v := .int .u64 (f (o1, o2, o3))) 0 hT9.out rfl (by decide) (Or.inl rfl) (by rfl) ?_ ?_
  · rintro w5 hC5 ⟨P5, hP5, hA5⟩
    cases hP5
    skip
    go_simp
    simp only [Ord.LandsIn]
    refine (load_any o1 o2 o3 HX.out (hA5.cell (i + 6) hc)).mono ?_
    rintro e6 w6 ⟨rfl, hC6, hs6⟩; have hE6 := hA5.turn (i + 6) hc hC6 hs6; exact ⟨rfl, ⟨hE6.get 0 rfl, hE6.get (i + 3) hg2, hE6.get (i + 4) hh2⟩, _, rfl, hE6⟩
  (try simp only [Act.put, List.setIfInBounds_toArray, List.set_cons_zero, List.set_cons_succ])
  repeat (first
    | (refine Ord.ch_value (v := ?_) hT9.out (by decide) (by rfl) ?_ ?_; rotate_left; (focus (intro w5 hS; have r0 := hS.1.rule; have r2 := hS.2.1.rule; unfold iv at r2; have hl := hS.2.2.look HX.out; simp only [pv] at hl; go_simp <;> with_reducible rfl)); (try simp only [Act.put, List.setIfInBounds_toArray, List.set_cons_zero, List.set_cons_succ]))
    | (refine Ord.ch_off hT9.out (by decide) (by rfl) ?_; (try simp only [Act.put, List.setIfInBounds_toArray, List.set_cons_zero, List.set_cons_succ])))
  refine Ord.ch_turn (v := undef) 1 hT9.out rfl (by decide) (Or.inr ⟨_, rfl, by kernel_rfl⟩) (by rfl) ?_ ?_
  · rintro w5 hC5 ⟨P5, hP5, hA5⟩
    cases hP5
    have r := hA5.rule 1 rfl
    have ff := hA5.thaw 1 rfl
    have f0 := ff 0 (by simp)
    have f1 := ff 1 (by simp)
    have f2 := ff 2 (by simp)
    clear ff
    go_simp
    have hE6 := hA5.put3 1 rfl (.int .u64 (f (o1, o2, o3))) (.int .i64 (h (o1, o2, o3))) (.bool false)
    exact ⟨rfl, ⟨hE6.get 0 rfl, hE6.get (i + 3) hg2, hE6.get (i + 4) hh2⟩, _, rfl, hE6⟩
  (try simp only [Act.put, List.setIfInBounds_toArray, List.set_cons_zero, List.set_cons_succ])
  repeat (first
    | (refine Ord.ch_value (v := ?_) hT9.out (by decide) (by rfl) ?_ ?_; rotate_left; (focus (intro w5 hS; skip; go_simp <;> with_reducible rfl)); (try simp only [Act.put, List.setIfInBounds_toArray, List.set_cons_zero, List.set_cons_succ]))
    | (refine Ord.ch_off hT9.out (by decide) (by rfl) ?_; (try simp only [Act.put, List.setIfInBounds_toArray, List.set_cons_zero, List.set_cons_succ])))
  refine Ord.InText.nil fun w5 hS => ?_
  clear hT9
  obtain ⟨hC9, hA9⟩ := Ord.chain_end hS
  clear hS
  obtain ⟨P9, hP9, hA9⟩ := hA9
  cases hP9
  have q9 := hA9.rule 1 rfl
  go_wp2
  exact bodyPost_ret (v := .agg #[.int .u64 (f (o1, o2, o3)), .int .i64 (h (o1, o2, o3)), .bool false]) (by simp [results, Try.results14, go_sem, q9]) rfl ⟨rfl, hA9.sub (.cons _ (.cons _ (.cons _ (List.Sublist.refl _))))⟩
end
end Go.Proofs.Ytnlepgbmbdmjbaa
