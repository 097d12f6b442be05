/- The reference's watched words: what is written. -/
import Derived.Test.YtmihfpdbaagjnaaRefU
namespace Go.Proofs.Ytmihfpdbaagjnaa
open Go.RowKit Go.Maps
set_option maxRecDepth 100000

/-- The things behind a store: the block, and two of its rows. -/
def storeL (L : List Item) (i u : Nat) (v2 v3 a b : Value) (fz st : Int) (lc li : List OneR) : List Item :=
  (((L.set i (boxI u (uv a v2 v3 fz st))).set (i + 1) (rowO a lc)).set i (boxI u (uv a b v3 fz st))).set (i + 2) (rowO b li)

section
variable {w0 w : World} {L : List Item} {u : Nat} {v1 v2 v3 : Value} {fa st : Int} {lc li : List OneR} {l : List Int}
set_option maxHeartbeats 3200000 in
theorem store7_u (x y z d v e : Int) (b : Bool) (hl : l.length ≤ 100000) (hlc : lc.length ≤ 1000000) (hli : li.length ≤ 1000000) (i : Nat) (hE : Env w0 L w) (hu : L[i]? = some (boxI u (uv v1 v2 v3 fa st))) (h1 : L[i + 1]? = some (rowO v1 lc)) (h2 : L[i + 2]? = some (rowO v2 li)) (hs : L[i + 3]? = some (intsI v3 l)) :
    Calls Try.prog 35 #[.pointer (some ⟨u, 0, none⟩), .agg #[.int .i64 x, .int .i64 y, .int .i64 z], .int .i64 d, .int .u64 v, .int .i64 e, .bool b] w fun e' w' => e' = .returned (.tuple #[]) ∧ ∃ v1' v2', Env w0 (storeL L i u v2 v3 v1' v2' (faS l x y d b fa) st (setL lc (x, y, z) v) (setL li (x, y, z) (IntKind.u64.wrap e))) w' := by
  replace hE := hE.box w.heap.size rfl [.int .i64 x, .int .i64 y, .int .i64 z] 41
  generalize hfa : faS l x y d b fa = fz
  unfold faS at hfa
  have HFZ := Lib.hid hfa
  clear hfa
  go_enter Try.func35, Try.ntmps35
  go_upto_region 1 with fail
  generalize w.alloc _ = w1 at *
  generalize w.heap.size = X at *
  have z4 := fun (v : World) (hE : Env w0 (boxI X [.int .i64 x, .int .i64 y, .int .i64 z] :: L) v) => hE.thaw (i + 1) hu 3 (by simp [uv])
  have HT : Hid (∀ (v : World), Env w0 (boxI X [.int .i64 x, .int .i64 y, .int .i64 z] :: L) v → Env w0 (boxI X [.int .i64 x, .int .i64 y, .int .i64 z] :: L.set i (boxI u (uv v1 v2 v3 (wrap64 (fa + 1)) st))) (v.setCell ⟨u, 3, none⟩ (.int .i64 (wrap64 (fa + 1))))) := Lib.hid fun v hE => hE.put (i + 1) hu (j := 3) (by simp [uv]) (.int .i64 (wrap64 (fa + 1)))
  have HT0 : Hid (∀ (v : World), Env w0 (boxI X [.int .i64 x, .int .i64 y, .int .i64 z] :: L) v → Env w0 (boxI X [.int .i64 x, .int .i64 y, .int .i64 z] :: L.set i (boxI u (uv v1 v2 v3 fa st))) v) := Lib.hid fun v hE => by rw [setSelf hu]; exact hE
  cases b
  case' true =>
    have r2 := hE.rule (i + 1) hu
    have z2 := z4 _ hE
    have hfa := HFZ.out
    clear HFZ
    unfold uv at r2
    go_upto_region 3 with fail
    have ez : wrap64 (fa + 1) = fz := by simpa using hfa
    replace hE := HT.out _ hE
    clear r2 z2 hfa
    generalize World.setCell _ _ _ = w3 at *
    rw [ez] at hE
    clear ez
  case' false =>
    have r0 := hE.rule 0 rfl
    go_wp2_with fail
    refine (stale_u x y z d hl (i + 1) hE hu hs).mono ?_
    rintro e1 w2 ⟨rfl, hb⟩
    replace hE := hE.over hb
    have hfa := HFZ.out
    rw [Bool.false_or] at hfa
    clear r0 hb HFZ
    generalize stB l x y d = t at *
    have r2 := hE.rule (i + 1) hu
    have z2 := z4 _ hE
    unfold uv at r2
    cases t
    case' false =>
      go_upto_region 3 with fail
      have ez : fa = fz := by simpa using hfa
      replace hE := HT0.out _ hE
      clear r2 z2 hfa
      rw [ez] at hE
      clear ez
      generalize w2 = w3 at *
    case' true =>
      go_upto_region 3 with fail
      have ez : wrap64 (fa + 1) = fz := by simpa using hfa
      replace hE := HT.out _ hE
      clear r2 z2 hfa
      generalize World.setCell _ _ _ = w3 at *
      rw [ez] at hE
      clear ez
  all_goals
    have hu1 : (L.set i (boxI u (uv v1 v2 v3 fz st)))[i]? = some (boxI u (uv v1 v2 v3 fz st)) := wself hu
    have h11 : (L.set i (boxI u (uv v1 v2 v3 fz st)))[i + 1]? = some (rowO v1 lc) := wset (j := i) (by omega) h1
    have h21 : (L.set i (boxI u (uv v1 v2 v3 fz st)))[i + 2]? = some (rowO v2 li) := wset (j := i) (by omega) h2
    clear z4 HT HT0
    refine Ord.wp_chain [5] (fun w' => Blk 0 w' X [.int .i64 x, .int .i64 y, .int .i64 z]) (Stage [Env w0 (boxI X [.int .i64 x, .int .i64 y, .int .i64 z] :: L.set i (boxI u (uv v1 v2 v3 fz st))), fun w' => ∃ v6, Env w0 (boxI X [.int .i64 x, .int .i64 y, .int .i64 z] :: (L.set i (boxI u (uv v6 v2 v3 fz st))).set (i + 1) (rowO v6 (setL lc (x, y, z) v))) w']) (by kernel_rfl) (by kernel_rfl) (by kernel_rfl) (hE.drew.get 0 rfl) ⟨_, rfl, hE.drew⟩ (fun hT => ?_)
    have hT9 := Lib.hid hT
    clear hT
    repeat (first
      | (refine Ord.ch_value (v := ?_) hT9.out (by decide) (by rfl) ?_ ?_; rotate_left; (focus (intro w5 hS; have r := hS.rule; go_simp <;> with_reducible rfl)); (try simp only [Act.put, List.setIfInBounds_toArray, List.set_cons_zero, List.set_cons_succ]))
      | (refine Ord.ch_off hT9.out (by decide) (by rfl) ?_; (try simp only [Act.put, List.setIfInBounds_toArray, List.set_cons_zero, List.set_cons_succ])))
    refine Ord.ch_turn (v := .tuple #[]) 0 hT9.out rfl (by decide) (Or.inl rfl) (by rfl) ?_ ?_
    · rintro w5 hC5 ⟨P5, hP5, hA5⟩
      cases hP5
      skip
      go_simp
      simp only [Ord.LandsIn]
      refine (set_u x y z v hlc 0 (i + 1) (i + 2) (by omega) hA5 hu1 rfl h11).mono ?_
      rintro e6 w6 ⟨rfl, v6, hE6⟩; change Env w0 (boxI X [.int .i64 x, .int .i64 y, .int .i64 z] :: ((L.set i (boxI u (uv v1 v2 v3 fz st))).set i (boxI u (uv v6 v2 v3 fz st))).set (i + 1) (rowO v6 (setL lc (x, y, z) v))) w6 at hE6; rw [List.set_set] at hE6; exact ⟨rfl, hE6.get 0 rfl, _, rfl, v6, hE6⟩
    (try simp only [Act.put, List.setIfInBounds_toArray, List.set_cons_zero, List.set_cons_succ])
    refine Ord.InText.nil fun w5 hS => ?_
    clear hT9
    obtain ⟨hC9, hA9⟩ := Ord.chain_end hS
    clear hS
    obtain ⟨P9, hP9, hA9⟩ := hA9
    cases hP9
    obtain ⟨v6, hA9⟩ := hA9
    clear hC9 hE
    have hu2 : ((L.set i (boxI u (uv v6 v2 v3 fz st))).set (i + 1) (rowO v6 (setL lc (x, y, z) v)))[i]? = some (boxI u (uv v6 v2 v3 fz st)) := wset (j := i + 1) (by omega) (wself hu)
    have h22 : ((L.set i (boxI u (uv v6 v2 v3 fz st))).set (i + 1) (rowO v6 (setL lc (x, y, z) v)))[i + 2]? = some (rowO v2 li) := wset (j := i + 1) (by omega) (wset (j := i) (by omega) h2)
    go_wp2_with fail
    refine Ord.wp_chain [6] (fun w' => Blk 0 w' X [.int .i64 x, .int .i64 y, .int .i64 z]) (Stage [Env w0 (boxI X [.int .i64 x, .int .i64 y, .int .i64 z] :: (L.set i (boxI u (uv v6 v2 v3 fz st))).set (i + 1) (rowO v6 (setL lc (x, y, z) v))), fun w' => ∃ v7, Env w0 (boxI X [.int .i64 x, .int .i64 y, .int .i64 z] :: storeL L i u v2 v3 v6 v7 fz st (setL lc (x, y, z) v) (setL li (x, y, z) (IntKind.u64.wrap e))) w']) (by kernel_rfl) (by kernel_rfl) (by kernel_rfl) (hA9.drew.get 0 rfl) ⟨_, rfl, hA9.drew⟩ (fun hT => ?_)
    have hT9 := Lib.hid hT
    clear hT
    repeat (first
      | (refine Ord.ch_value (v := ?_) hT9.out (by decide) (by rfl) ?_ ?_; rotate_left; (focus (intro w5 hS; have r := hS.rule; go_simp <;> with_reducible rfl)); (try simp only [Act.put, List.setIfInBounds_toArray, List.set_cons_zero, List.set_cons_succ]))
      | (refine Ord.ch_off hT9.out (by decide) (by rfl) ?_; (try simp only [Act.put, List.setIfInBounds_toArray, List.set_cons_zero, List.set_cons_succ])))
    refine Ord.ch_turn (v := .tuple #[]) 0 hT9.out rfl (by decide) (Or.inl rfl) (by rfl) ?_ ?_
    · rintro w5 hC5 ⟨P5, hP5, hA5⟩
      cases hP5
      skip
      go_simp
      simp only [Ord.LandsIn]
      refine (set_u x y z (IntKind.u64.wrap e) hli 1 (i + 1) (i + 3) (by omega) hA5 hu2 rfl h22).mono ?_
      rintro e6 w6 ⟨rfl, v7, hE6⟩; exact ⟨rfl, hE6.get 0 rfl, _, rfl, v7, hE6⟩
    (try simp only [Act.put, List.setIfInBounds_toArray, List.set_cons_zero, List.set_cons_succ])
    refine Ord.InText.nil fun w5 hS => ?_
    clear hT9
    obtain ⟨hC8, hA8⟩ := Ord.chain_end hS
    clear hS
    obtain ⟨P8, hP8, hA8⟩ := hA8
    cases hP8
    obtain ⟨v7, hA8⟩ := hA8
    clear hC8 hA9
    go_wp2
    (first | go_end0 | refine bodyPost_ret (results_none rfl _ _ _) rfl ?_)
    exact ⟨rfl, v6, v7, hA8.sub (.cons _ (List.Sublist.refl _))⟩

set_option maxHeartbeats 1600000 in
theorem swap7_u (x y z d o v e : Int) (ob b : Bool) (hl : l.length ≤ 100000) (hlc : lc.length ≤ 1000000) (hli : li.length ≤ 1000000) (i : Nat) (hE : Env w0 L w) (hu : L[i]? = some (boxI u (uv v1 v2 v3 fa st))) (h1 : L[i + 1]? = some (rowO v1 lc)) (h2 : L[i + 2]? = some (rowO v2 li)) (hs : L[i + 3]? = some (intsI v3 l)) :
    Calls Try.prog 37 #[.pointer (some ⟨u, 0, none⟩), .agg #[.int .i64 x, .int .i64 y, .int .i64 z], .int .i64 d, .int .u64 o, .bool ob, .int .u64 v, .int .i64 e, .bool b] w fun e' w' => e' = .returned (.bool (decide (getL lc (x, y, z) = o))) ∧ ∃ v1' v2', Env w0 (if getL lc (x, y, z) = o then storeL L i u v2 v3 v1' v2' (faS l x y d (ob || b) fa) st (setL lc (x, y, z) v) (setL li (x, y, z) (IntKind.u64.wrap e)) else L) w' := by
  replace hE := hE.box w.heap.size rfl [.int .i64 x, .int .i64 y, .int .i64 z] 41
  have hu' : (boxI w.heap.size [.int .i64 x, .int .i64 y, .int .i64 z] :: L)[i + 1]? = some (boxI u (uv v1 v2 v3 fa st)) := hu
  have h1' : (boxI w.heap.size [.int .i64 x, .int .i64 y, .int .i64 z] :: L)[i + 2]? = some (rowO v1 lc) := h1
  have cG := fun (v : World) (hE : Env w0 (boxI w.heap.size [.int .i64 x, .int .i64 y, .int .i64 z] :: L) v) => get_u x y z hlc 0 (i + 1) (i + 2) hE hu' rfl h1'
  have cS := fun (w1 : World) (hE : Env w0 (boxI w.heap.size [.int .i64 x, .int .i64 y, .int .i64 z] :: L) w1) (sb : Bool) => store7_u x y z d v e sb hl hlc hli (i + 1) hE hu' h1' h2 hs
  have CG := Lib.hid cG
  have CS := Lib.hid cS
  clear cG cS hu' h1'
  by_cases hw : getL lc (x, y, z) = o
  · rw [hw] at CG
    simp only [if_pos hw]
    rw [show decide (getL lc (x, y, z) = o) = true by simpa using hw]
    simp only [Bool.or_comm ob b]
    clear hw
    go_enter Try.func37, Try.ntmps37
    go_wp2_with fail
    generalize w.heap.size = X at *
    refine Ord.wp_chain [] (fun w' => Env w0 (boxI X [.int .i64 x, .int .i64 y, .int .i64 z] :: L) w') (fun _ _ => True) (by kernel_rfl) (by kernel_rfl) (by kernel_rfl) hE.drew trivial (fun hT => ?_)
    have hT9 := Lib.hid hT
    clear hT
    repeat (first
      | (refine Ord.ch_value (v := ?_) hT9.out (by decide) (by rfl) ?_ ?_; rotate_left; (focus (intro w5 hS; have r := hS.rule 0 rfl; go_simp <;> with_reducible rfl)); (try simp only [Act.put, List.setIfInBounds_toArray, List.set_cons_zero, List.set_cons_succ]))
      | (refine Ord.ch_off hT9.out (by decide) (by rfl) ?_; (try simp only [Act.put, List.setIfInBounds_toArray, List.set_cons_zero, List.set_cons_succ]))
      | (refine Ord.ch_call (v := ?_) (f := ?_) (args := ?_) hT9.out (by decide) (by rfl) ?_ ?_ ?_; rotate_left 3; (focus (intro w5 hS; have r := hS.rule 0 rfl; go_simp; constructor <;> with_reducible rfl)); (focus (intro w5 hS; (first | (with_reducible refine (CG.out _ hS).mono ?_; rintro e w6 ⟨rfl, hb6⟩; constructor; with_reducible rfl; exact ⟨hS.over hb6, fun _ h => h⟩)))); (try simp only [Act.put, List.setIfInBounds_toArray, List.set_cons_zero, List.set_cons_succ])))
    refine Ord.InText.nil fun w5 hS => ?_
    clear hT9
    obtain ⟨hC9, hA9⟩ := Ord.chain_end hS
    clear hS
    clear hA9
    have r := hC9.rule 0 rfl
    cases b
    all_goals
      go_wp2_with fail
      refine (CS.out _ hC9 _).mono ?_
      rintro e6 w6 ⟨rfl, v6, v7, hE6⟩
      clear r
      go_wp2
      go_ret
      exact ⟨rfl, v6, v7, hE6.sub (.cons _ (List.Sublist.refl _))⟩
  · have hbn : (getL lc (x, y, z) != o) = true := by simpa using hw
    simp only [if_neg hw]
    rw [show decide (getL lc (x, y, z) = o) = false by simpa using hw]
    generalize getL lc (x, y, z) = a1 at *
    go_enter Try.func37, Try.ntmps37
    go_wp2_with fail
    generalize w.heap.size = X at *
    refine Ord.wp_chain [] (fun w' => Env w0 (boxI X [.int .i64 x, .int .i64 y, .int .i64 z] :: L) w') (fun _ _ => True) (by kernel_rfl) (by kernel_rfl) (by kernel_rfl) hE.drew trivial (fun hT => ?_)
    have hT9 := Lib.hid hT
    clear hT
    repeat (first
      | (refine Ord.ch_value (v := ?_) hT9.out (by decide) (by rfl) ?_ ?_; rotate_left; (focus (intro w5 hS; have r := hS.rule 0 rfl; go_simp <;> with_reducible rfl)); (try simp only [Act.put, List.setIfInBounds_toArray, List.set_cons_zero, List.set_cons_succ]))
      | (refine Ord.ch_off hT9.out (by decide) (by rfl) ?_; (try simp only [Act.put, List.setIfInBounds_toArray, List.set_cons_zero, List.set_cons_succ]))
      | (refine Ord.ch_call (v := ?_) (f := ?_) (args := ?_) hT9.out (by decide) (by rfl) ?_ ?_ ?_; rotate_left 3; (focus (intro w5 hS; have r := hS.rule 0 rfl; go_simp; constructor <;> with_reducible rfl)); (focus (intro w5 hS; (first | (with_reducible refine (CG.out _ hS).mono ?_; rintro e w6 ⟨rfl, hb6⟩; constructor; with_reducible rfl; exact ⟨hS.over hb6, fun _ h => h⟩)))); (try simp only [Act.put, List.setIfInBounds_toArray, List.set_cons_zero, List.set_cons_succ])))
    refine Ord.InText.nil fun w5 hS => ?_
    clear hT9
    obtain ⟨hC9, hA9⟩ := Ord.chain_end hS
    clear hS
    clear hA9
    go_wp2
    go_ret
    exact ⟨rfl, v1, v2, hC9.sub (.cons _ (List.Sublist.refl _))⟩

set_option maxHeartbeats 1600000 in
theorem add8_u (x y z v : Int) (hlc : lc.length ≤ 1000000) (i : Nat) (hE : Env w0 L w) (hu : L[i]? = some (boxI u (uv v1 v2 v3 fa st))) (h1 : L[i + 1]? = some (rowO v1 lc)) :
    Calls Try.prog 38 #[.pointer (some ⟨u, 0, none⟩), .agg #[.int .i64 x, .int .i64 y, .int .i64 z], .int .u64 v] w fun e' w' => e' = .returned (.int .u64 (getL lc (x, y, z))) ∧ ∃ v1', Env w0 ((L.set i (boxI u (uv v1' v2 v3 fa st))).set (i + 1) (rowO v1' (setL lc (x, y, z) (IntKind.u64.wrap (getL lc (x, y, z) + v))))) w' := by
  replace hE := hE.box w.heap.size rfl [.int .i64 x, .int .i64 y, .int .i64 z] 41
  have hu' : (boxI w.heap.size [.int .i64 x, .int .i64 y, .int .i64 z] :: L)[i + 1]? = some (boxI u (uv v1 v2 v3 fa st)) := hu
  have h1' : (boxI w.heap.size [.int .i64 x, .int .i64 y, .int .i64 z] :: L)[i + 2]? = some (rowO v1 lc) := h1
  have CG : Hid (∀ (v : World), Env w0 (boxI w.heap.size [.int .i64 x, .int .i64 y, .int .i64 z] :: L) v → Calls Try.prog 36 #[.pointer (some ⟨u, 0, none⟩), .agg #[.int .i64 x, .int .i64 y, .int .i64 z]] v fun e w' => e = .returned (.int .u64 (getL lc (x, y, z))) ∧ Below v.heap.size v w') := Lib.hid fun v hE => get_u x y z hlc 0 (i + 1) (i + 2) hE hu' rfl h1'
  generalize getL lc (x, y, z) = a1 at *
  go_enter Try.func38, Try.ntmps38
  go_wp2_with fail
  generalize w.heap.size = X at *
  refine Ord.wp_chain [] (fun w' => Env w0 (boxI X [.int .i64 x, .int .i64 y, .int .i64 z] :: L) w') (fun _ _ => True) (by kernel_rfl) (by kernel_rfl) (by kernel_rfl) hE.drew trivial (fun hT => ?_)
  have hT9 := Lib.hid hT
  clear hT
  repeat (first
    | (refine Ord.ch_value (v := ?_) hT9.out (by decide) (by rfl) ?_ ?_; rotate_left; (focus (intro w5 hS; have r := hS.rule 0 rfl; go_simp <;> with_reducible rfl)); (try simp only [Act.put, List.setIfInBounds_toArray, List.set_cons_zero, List.set_cons_succ]))
    | (refine Ord.ch_off hT9.out (by decide) (by rfl) ?_; (try simp only [Act.put, List.setIfInBounds_toArray, List.set_cons_zero, List.set_cons_succ]))
    | (refine Ord.ch_call (v := ?_) (f := ?_) (args := ?_) hT9.out (by decide) (by rfl) ?_ ?_ ?_; rotate_left 3; (focus (intro w5 hS; have r := hS.rule 0 rfl; go_simp; constructor <;> with_reducible rfl)); (focus (intro w5 hS; (first | (with_reducible refine (CG.out _ hS).mono ?_; rintro e w6 ⟨rfl, hb6⟩; constructor; with_reducible rfl; exact ⟨hS.over hb6, fun _ h => h⟩)))); (try simp only [Act.put, List.setIfInBounds_toArray, List.set_cons_zero, List.set_cons_succ])))
  refine Ord.InText.nil fun w5 hS => ?_
  clear hT9
  obtain ⟨hC9, hA9⟩ := Ord.chain_end hS
  clear hS
  clear hA9 CG
  go_wp2_with fail
  refine Ord.wp_chain [8] (fun w' => Blk 0 w' X [.int .i64 x, .int .i64 y, .int .i64 z]) (Stage [Env w0 (boxI X [.int .i64 x, .int .i64 y, .int .i64 z] :: L), fun w' => ∃ v6, Env w0 (boxI X [.int .i64 x, .int .i64 y, .int .i64 z] :: (L.set i (boxI u (uv v6 v2 v3 fa st))).set (i + 1) (rowO v6 (setL lc (x, y, z) (IntKind.u64.wrap (a1 + v))))) w']) (by kernel_rfl) (by kernel_rfl) (by kernel_rfl) (hC9.drew.get 0 rfl) ⟨_, rfl, hC9.drew⟩ (fun hT => ?_)
  have hT9 := Lib.hid hT
  clear hT
  repeat (first
    | (refine Ord.ch_value (v := ?_) hT9.out (by decide) (by rfl) ?_ ?_; rotate_left; (focus (intro w5 hS; have r := hS.rule; go_simp <;> with_reducible rfl)); (try simp only [Act.put, List.setIfInBounds_toArray, List.set_cons_zero, List.set_cons_succ]))
    | (refine Ord.ch_off hT9.out (by decide) (by rfl) ?_; (try simp only [Act.put, List.setIfInBounds_toArray, List.set_cons_zero, List.set_cons_succ])))
  refine Ord.ch_turn (v := .tuple #[]) 0 hT9.out rfl (by decide) (Or.inl rfl) (by rfl) ?_ ?_
  · rintro w5 hC5 ⟨P5, hP5, hA5⟩
    cases hP5
    skip
    go_simp
    simp only [Ord.LandsIn]
    refine (set_u x y z (IntKind.u64.wrap (a1 + v)) hlc 0 (i + 1) (i + 2) (by omega) hA5 hu' rfl h1').mono ?_
    rintro e6 w6 ⟨rfl, v6, hE6⟩; exact ⟨rfl, hE6.get 0 rfl, _, rfl, v6, hE6⟩
  (try simp only [Act.put, List.setIfInBounds_toArray, List.set_cons_zero, List.set_cons_succ])
  refine Ord.InText.nil fun w5 hS => ?_
  clear hT9
  obtain ⟨hC8, hA8⟩ := Ord.chain_end hS
  clear hS
  obtain ⟨P8, hP8, hA8⟩ := hA8
  cases hP8
  obtain ⟨v7, hA8⟩ := hA8
  clear hC8 hC9
  go_wp2
  go_ret
  exact ⟨rfl, v7, hA8.sub (.cons _ (List.Sublist.refl _))⟩
end
end Go.Proofs.Ytmihfpdbaagjnaa
