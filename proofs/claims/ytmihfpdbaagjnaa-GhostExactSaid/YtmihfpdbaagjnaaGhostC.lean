/- The plain world, watched: contracts of its accesses. -/
import Derived.Test.YtmihfpdbaagjnaaGhostB
namespace Go.Proofs.Ytmihfpdbaagjnaa
open Go.RowKit Go.Maps
set_option maxRecDepth 100000

section
variable {w0 w : World} {L : List Item} {g p s c n m : Nat} {mp : Option Nat} {S F : Nat → Prop} {h f : Plc → Int} {l : List Int} {q : Cnt} {st fa : Int}
theorem new_g (hE : Env w0 L w) : Calls Try.prog 8 #[] w fun e w' => ∃ g p s c, e = .returned (.pointer (some ⟨g, 0, none⟩)) ∧ Env w0 (boxI g (gv p none s 0 0) :: leadsI none (fun _ => 0) 0 :: soulI s (fun k => k = s) [] :: wbox p c :: cellI c (fun k => k = c) (fun _ => 0) ⟨0, 0, 0, 0, 0⟩ 0 :: L) w' ∧ Below w.heap.size w w' := by
  go_enter Try.func8, Try.ntmps8
  go_wp2_with fail
  refine (new_w hE).mono ?_
  rintro e w1 ⟨p, c, rfl, hE, hb⟩
  go_wp2_with fail
  refine (newS_any w1).mono ?_
  rintro e w2 ⟨rfl, hC, hb2⟩
  replace hE := (hE.madeS hC (Nat.le_refl _) hb2).newL
  have hB := hb.trans (hb2.mono hb.size)
  clear hC hb hb2
  generalize w1.heap.size = s at *
  replace hE := hE.box w2.heap.size rfl (gv p none s 0 0) 73
  go_wp2
  go_ret
  exact ⟨_, _, _, _, rfl, hE, hB.alloc hB.size _⟩

set_option maxHeartbeats 1600000 in
theorem born_g (x : Int) (hx : In64 x) (hl : l.length ≤ 100000) (i : Nat) (hE : Env w0 L w) (hg : L[i]? = some (boxI g (gv p mp s st fa))) (hs : L[i + 2]? = some (soulI s S l)) :
    Calls Try.prog 18 #[.pointer (some ⟨g, 0, none⟩), .int .i64 x] w fun e w' => e = .returned (.int .i64 (bornV l x)) ∧ ∃ S', Env w0 (L.set (i + 2) (soulI s S' (bornL l x))) w' := by
  go_enter Try.func18, Try.ntmps18
  go_wp2_with fail
  refine (souls_any (hE.gblk i hg)).mono ?_
  rintro e w1 ⟨rfl, rfl⟩
  go_wp2_with fail
  refine (bornX_any x hx hl (hE.soul (i + 2) hs)).mono ?_
  rintro e w2 ⟨rfl, S', hC, ht⟩
  replace hE := hE.turnS (i + 2) hs hC ht
  go_wp2
  go_ret
  exact ⟨rfl, S', hE⟩

set_option maxHeartbeats 1600000 in
theorem store_g (x y z d v e : Int) (b : Bool) (hx : Wf (x, y, z)) (hv : InU v) (he : In64 e) (hn : n < maxLen) (hm : m < maxLen) (hl : l.length ≤ 1000000) (i : Nat) (hE : Env w0 L w) (hg : L[i]? = some (boxI g (gv p mp s st fa))) (hh : L[i + 1]? = some (leadsI mp h m)) (hs : L[i + 2]? = some (soulI s S l)) (hw : L[i + 3]? = some (wbox p c)) (hc : L[i + 4]? = some (cellI c F f q n)) :
    Calls Try.prog 14 #[.pointer (some ⟨g, 0, none⟩), .agg #[.int .i64 x, .int .i64 y, .int .i64 z, .int .i64 d], .agg #[.int .u64 v, .int .i64 e, .bool b]] w fun e' w' => e' = .returned (.tuple #[]) ∧ ∃ mp' F', Env w0 (((L.set (i + 4) (cellI c F' (upd f (x, y, z) v) { q with s := wrap64 (q.s + 1) } (n + 1))).set i (boxI g (gv p mp' s st (faS l x y d b fa)))).set (i + 1) (leadsI mp' (upd h (x, y, z) e) (m + 1))) w' := by
  replace hE := ((hE.box w.heap.size rfl [.int .i64 x, .int .i64 y, .int .i64 z, .int .i64 d] 43).box (w.heap.size + 1) (by simp) [.int .u64 v, .int .i64 e, .bool b] 39)
  have HX := Lib.hid hx
  have HE := Lib.hid he
  have HV := Lib.hid hv
  clear hx he hv
  go_enter Try.func14, Try.ntmps14
  go_wp2_with fail
  generalize (w.alloc _).alloc _ = w1 at *
  generalize w.heap.size + 1 = Y at *
  generalize w.heap.size = X at *
  refine Ord.wp_chain [6] (fun w' => Blk 0 w' X [.int .i64 x, .int .i64 y, .int .i64 z, .int .i64 d] ∧ Blk 0 w' Y [.int .u64 v, .int .i64 e, .bool b] ∧ Blk 0 w' g (gv p mp s st fa)) (Stage [Env w0 (boxI Y [.int .u64 v, .int .i64 e, .bool b] :: boxI X [.int .i64 x, .int .i64 y, .int .i64 z, .int .i64 d] :: L), fun w' => ∃ F', Env w0 (boxI Y [.int .u64 v, .int .i64 e, .bool b] :: boxI X [.int .i64 x, .int .i64 y, .int .i64 z, .int .i64 d] :: L.set (i + 4) (cellI c F' (upd f (x, y, z) v) { q with s := wrap64 (q.s + 1) } (n + 1))) w']) (by kernel_rfl) (by kernel_rfl) (by kernel_rfl) ⟨hE.drew.get 1 rfl, hE.drew.get 0 rfl, hE.drew.get (i + 2) hg⟩ ⟨_, rfl, hE.drew⟩ (fun hT => ?_)
  have hT9 := Lib.hid hT
  clear hT
  repeat (first
    | (refine Ord.ch_value (v := ?_) hT9.out (by decide) (by rfl) ?_ ?_; rotate_left; (focus (intro w5 hS; have r0 := hS.1.rule; have r1 := hS.2.1.rule; have r2 := hS.2.2.rule; unfold gv at r2; go_simp <;> with_reducible rfl)); (try simp only [Act.put, List.setIfInBounds_toArray, List.set_cons_zero, List.set_cons_succ]))
    | (refine Ord.ch_off hT9.out (by decide) (by rfl) ?_; (try simp only [Act.put, List.setIfInBounds_toArray, List.set_cons_zero, List.set_cons_succ])))
  refine Ord.ch_turn (v := .tuple #[]) 0 hT9.out rfl (by decide) (Or.inl rfl) (by rfl) ?_ ?_
  · rintro w5 hC5 ⟨P5, hP5, hA5⟩
    cases hP5
    skip
    go_simp
    simp only [Ord.LandsIn]
    refine (store_w x y z d v e b HX.out HV.out hn (i + 5) (i + 6) (by omega) hA5 hw hc).mono ?_
    rintro e6 w6 ⟨rfl, F6, hE6⟩; exact ⟨rfl, ⟨hE6.get 1 rfl, hE6.get 0 rfl, hE6.get (i + 2) (wset (j := i + 4) (by omega) hg)⟩, _, rfl, F6, hE6⟩
  (try simp only [Act.put, List.setIfInBounds_toArray, List.set_cons_zero, List.set_cons_succ])
  repeat (first
    | (refine Ord.ch_value (v := ?_) hT9.out (by decide) (by rfl) ?_ ?_; rotate_left; (focus (intro w5 hS; skip; go_simp <;> with_reducible rfl)); (try simp only [Act.put, List.setIfInBounds_toArray, List.set_cons_zero, List.set_cons_succ]))
    | (refine Ord.ch_off hT9.out (by decide) (by rfl) ?_; (try simp only [Act.put, List.setIfInBounds_toArray, List.set_cons_zero, List.set_cons_succ])))
  refine Ord.InText.nil fun w5 hS => ?_
  clear hT9
  obtain ⟨hC9, hA9⟩ := Ord.chain_end hS
  clear hS
  obtain ⟨P9, hP9, hA9⟩ := hA9
  cases hP9
  obtain ⟨F9, hA9⟩ := hA9
  clear hC9 hE
  have hg1 := wset (j := i + 4) (b := cellI c F9 (upd f (x, y, z) v) { q with s := wrap64 (q.s + 1) } (n + 1)) (by omega) hg
  have hh1 := wset (j := i + 4) (b := cellI c F9 (upd f (x, y, z) v) { q with s := wrap64 (q.s + 1) } (n + 1)) (by omega) hh
  have hs1 := wset (j := i + 4) (b := cellI c F9 (upd f (x, y, z) v) { q with s := wrap64 (q.s + 1) } (n + 1)) (by omega) hs
  have r0 := hA9.rule 0 rfl
  have r1 := hA9.rule 1 rfl
  go_wp2_with fail
  refine (written_g x y z d v e b b HX.out HE.out hm hl (i + 2) hA9 hg1 hh1 hs1).mono ?_
  rintro e6 w6 ⟨rfl, mp6, hE6⟩
  clear r0 r1 hA9
  go_wp2
  (first | go_end0 | refine bodyPost_ret (results_none rfl _ _ _) rfl ?_)
  exact ⟨rfl, mp6, F9, hE6.sub (.cons _ (.cons _ (List.Sublist.refl _)))⟩

set_option maxHeartbeats 1600000 in
theorem add_g (x y z d v : Int) (hx : Wf (x, y, z)) (hn : n < maxLen) (i : Nat) (hE : Env w0 L w) (hg : L[i]? = some (boxI g (gv p mp s st fa))) (hw : L[i + 3]? = some (wbox p c)) (hc : L[i + 4]? = some (cellI c F f q n)) :
    Calls Try.prog 17 #[.pointer (some ⟨g, 0, none⟩), .agg #[.int .i64 x, .int .i64 y, .int .i64 z, .int .i64 d], .int .u64 v] w fun e w' => e = .returned (.int .u64 (f (x, y, z))) ∧ ∃ F', Env w0 (L.set (i + 4) (cellI c F' (upd f (x, y, z) (IntKind.u64.wrap (f (x, y, z) + v))) { q with a := wrap64 (q.a + 1) } (n + 1))) w' := by
  replace hE := (hE.box w.heap.size rfl [.int .i64 x, .int .i64 y, .int .i64 z, .int .i64 d] 43)
  have HX := Lib.hid hx
  clear hx
  go_enter Try.func17, Try.ntmps17
  go_wp2_with fail
  generalize w.heap.size = X at *
  refine Ord.wp_chain [4] (fun w' => Blk 0 w' X [.int .i64 x, .int .i64 y, .int .i64 z, .int .i64 d] ∧ Blk 0 w' g (gv p mp s st fa)) (Stage [Env w0 (boxI X [.int .i64 x, .int .i64 y, .int .i64 z, .int .i64 d] :: L), fun w' => ∃ F', Env w0 (boxI X [.int .i64 x, .int .i64 y, .int .i64 z, .int .i64 d] :: L.set (i + 4) (cellI c F' (upd f (x, y, z) (IntKind.u64.wrap (f (x, y, z) + v))) { q with a := wrap64 (q.a + 1) } (n + 1))) w']) (by kernel_rfl) (by kernel_rfl) (by kernel_rfl) ⟨hE.drew.get 0 rfl, hE.drew.get (i + 1) hg⟩ ⟨_, rfl, hE.drew⟩ (fun hT => ?_)
  have hT9 := Lib.hid hT
  clear hT
  repeat (first
    | (refine Ord.ch_value (v := ?_) hT9.out (by decide) (by rfl) ?_ ?_; rotate_left; (focus (intro w5 hS; have r0 := hS.1.rule; go_simp <;> with_reducible rfl)); (try simp only [Act.put, List.setIfInBounds_toArray, List.set_cons_zero, List.set_cons_succ]))
    | (refine Ord.ch_off hT9.out (by decide) (by rfl) ?_; (try simp only [Act.put, List.setIfInBounds_toArray, List.set_cons_zero, List.set_cons_succ]))
    | (refine Ord.ch_call (v := ?_) (f := ?_) (args := ?_) hT9.out (by decide) (by rfl) ?_ ?_ ?_; rotate_left 3; (focus (intro w5 hS; have r0 := hS.1.rule; go_simp; constructor <;> with_reducible rfl)); (focus (intro w5 hS; (first | (with_reducible refine (watched_any hS.2).mono ?_; rintro e w6 ⟨rfl, rfl⟩; constructor; with_reducible rfl; exact ⟨hS, fun _ h => h⟩)))); (try simp only [Act.put, List.setIfInBounds_toArray, List.set_cons_zero, List.set_cons_succ])))
  refine Ord.ch_turn (v := .int .u64 (f (x, y, z))) 0 hT9.out rfl (by decide) (Or.inl rfl) (by rfl) ?_ ?_
  · rintro w5 hC5 ⟨P5, hP5, hA5⟩
    cases hP5
    skip
    go_simp
    simp only [Ord.LandsIn]
    refine (add_w x y z d v HX.out hn (i + 4) (i + 5) (by omega) hA5 hw hc).mono ?_
    rintro e6 w6 ⟨rfl, F6, hE6⟩; exact ⟨rfl, ⟨hE6.get 0 rfl, hE6.get (i + 1) (wset (j := i + 4) (by omega) hg)⟩, _, rfl, F6, hE6⟩
  (try simp only [Act.put, List.setIfInBounds_toArray, List.set_cons_zero, List.set_cons_succ])
  repeat (first
    | (refine Ord.ch_value (v := ?_) hT9.out (by decide) (by rfl) ?_ ?_; rotate_left; (focus (intro w5 hS; skip; go_simp <;> with_reducible rfl)); (try simp only [Act.put, List.setIfInBounds_toArray, List.set_cons_zero, List.set_cons_succ]))
    | (refine Ord.ch_off hT9.out (by decide) (by rfl) ?_; (try simp only [Act.put, List.setIfInBounds_toArray, List.set_cons_zero, List.set_cons_succ])))
  refine Ord.InText.nil fun w5 hS => ?_
  clear hT9
  obtain ⟨hC9, hA9⟩ := Ord.chain_end hS
  clear hS
  obtain ⟨P9, hP9, hA9⟩ := hA9
  cases hP9
  obtain ⟨F9, hA9⟩ := hA9
  clear hC9
  go_wp2
  go_ret
  exact ⟨rfl, F9, hA9.sub (.cons _ (List.Sublist.refl _))⟩

set_option maxHeartbeats 1600000 in
theorem peek_g (x y z : Int) (hx : Wf (x, y, z)) (i : Nat) (hE : Env w0 L w) (hg : L[i]? = some (boxI g (gv p mp s st fa))) (hw : L[i + 3]? = some (wbox p c)) (hc : L[i + 4]? = some (cellI c F f q n)) :
    Calls Try.prog 19 #[.pointer (some ⟨g, 0, none⟩), .agg #[.int .i64 x, .int .i64 y, .int .i64 z]] w fun e w' => e = .returned (.int .u64 (f (x, y, z))) ∧ Below w.heap.size w w' := by
  have hb := (Below.refl w.heap.size w).alloc (Nat.le_refl _) (.cells #[.int .i64 x, .int .i64 y, .int .i64 z] 41)
  replace hE := hE.box w.heap.size rfl [.int .i64 x, .int .i64 y, .int .i64 z] 41
  have HX := Lib.hid hx
  clear hx
  go_enter Try.func19, Try.ntmps19
  go_wp2_with fail
  obtain ⟨X, hXw⟩ : ∃ X, X = w.heap.size := ⟨_, rfl⟩
  rw [← hXw] at hE ⊢
  have HXW := Lib.hid hXw
  clear hXw
  have hg1 : (boxI X [.int .i64 x, .int .i64 y, .int .i64 z] :: L)[i + 1]? = some (boxI g (gv p mp s st fa)) := hg
  have hw1 : (boxI X [.int .i64 x, .int .i64 y, .int .i64 z] :: L)[i + 4]? = some (wbox p c) := hw
  have hc1 : (boxI X [.int .i64 x, .int .i64 y, .int .i64 z] :: L)[i + 5]? = some (cellI c F f q n) := hc
  refine Ord.wp_chain [] (fun w' => Env w0 (boxI X [.int .i64 x, .int .i64 y, .int .i64 z] :: L) w' ∧ Below w.heap.size w w') (fun _ _ => True) (by kernel_rfl) (by kernel_rfl) (by kernel_rfl) ⟨hE.drew, hb.drew⟩ trivial (fun hT => ?_)
  have hT9 := Lib.hid hT
  clear hT
  repeat (first
    | (refine Ord.ch_value (v := ?_) hT9.out (by decide) (by rfl) ?_ ?_; rotate_left; (focus (intro w5 hS; have r := hS.1.rule 0 rfl; go_simp <;> with_reducible rfl)); (try simp only [Act.put, List.setIfInBounds_toArray, List.set_cons_zero, List.set_cons_succ]))
    | (refine Ord.ch_off hT9.out (by decide) (by rfl) ?_; (try simp only [Act.put, List.setIfInBounds_toArray, List.set_cons_zero, List.set_cons_succ]))
    | (refine Ord.ch_call (v := ?_) (f := ?_) (args := ?_) hT9.out (by decide) (by rfl) ?_ ?_ ?_; rotate_left 3; (focus (intro w5 hS; have r := hS.1.rule 0 rfl; go_simp; constructor <;> with_reducible rfl)); (focus (intro w5 hS; (first | (with_reducible refine (watched_any (hS.1.gblk (i + 1) hg1)).mono ?_; rintro e w6 ⟨rfl, rfl⟩; constructor; with_reducible rfl; exact ⟨hS, fun _ h => h⟩) | (with_reducible refine (peek_w x y z HX.out (i + 4) (i + 5) hS.1 hw1 hc1).mono ?_; rintro e w6 ⟨rfl, hb6⟩; constructor; with_reducible rfl; exact ⟨⟨hS.1.over hb6, hS.2.trans (hb6.mono hS.2.size)⟩, fun _ h => h⟩)))); (try simp only [Act.put, List.setIfInBounds_toArray, List.set_cons_zero, List.set_cons_succ])))
  refine Ord.InText.nil fun w5 hS => ?_
  clear hT9
  obtain ⟨hC9, hA9⟩ := Ord.chain_end hS
  clear hS
  go_wp2
  go_ret
  exact ⟨rfl, hC9.2⟩

set_option maxHeartbeats 1600000 in
theorem count_g (i : Nat) (hE : Env w0 L w) (hg : L[i]? = some (boxI g (gv p mp s st fa))) (hw : L[i + 3]? = some (wbox p c)) (hc : L[i + 4]? = some (cellI c F f q n)) :
    Calls Try.prog 20 #[.pointer (some ⟨g, 0, none⟩)] w fun e w' => e = .returned (.agg #[.int .i64 q.l, .int .i64 q.s, .int .i64 q.w, .int .i64 q.f, .int .i64 q.a]) ∧ Below w.heap.size w w' := by
  have hb := (Below.refl w.heap.size w).alloc (Nat.le_refl _) (.cells #[.int .i64 0, .int .i64 0, .int .i64 0, .int .i64 0, .int .i64 0] 58)
  replace hE := hE.box w.heap.size rfl [.int .i64 0, .int .i64 0, .int .i64 0, .int .i64 0, .int .i64 0] 58
  go_enter Try.func20, Try.ntmps20
  go_wp2_with fail
  refine (watched_any (hE.gblk (i + 1) hg)).mono ?_
  rintro e w1 ⟨rfl, rfl⟩
  go_wp2_with fail
  refine (count_w (i + 4) (i + 5) hE hw hc).mono ?_
  rintro e w2 ⟨rfl, hb2⟩
  have hE2 := hE.over hb2
  have f5 := hE2.thaw 0 rfl
  have f0 := f5 0 (by simp)
  have f1 := f5 1 (by simp)
  have f2 := f5 2 (by simp)
  have f3 := f5 3 (by simp)
  have f4 := f5 4 (by simp)
  have r := hE2.rule 0 rfl
  have hB := hb.trans (hb2.mono hb.size)
  clear f5
  go_wp2
  have hP := hE2.put5 0 rfl (.int .i64 q.l) (.int .i64 q.s) (.int .i64 q.w) (.int .i64 q.f) (.int .i64 q.a)
  have q9 := hP.rule 0 rfl
  refine bodyPost_ret (v := .agg #[.int .i64 q.l, .int .i64 q.s, .int .i64 q.w, .int .i64 q.f, .int .i64 q.a]) (by simp [results, Try.results20, go_sem, q9]) rfl ⟨rfl, ?_⟩
  exact ((((hB.setCell (Nat.le_refl _) _).setCell (Nat.le_refl _) _).setCell (Nat.le_refl _) _).setCell (Nat.le_refl _) _).setCell (Nat.le_refl _) _
end
end Go.Proofs.Ytmihfpdbaagjnaa
