/- An access of both, the cells and the reference's words: the answers are the same. -/
import Derived.Test.YtmgldhojgkcnkaaRefE
import Derived.Test.YtmgldhojgkcnkaaActs
namespace Go.Proofs.Ytmgldhojgkcnkaa
open Go.RowKit Go.Maps Go.Sort

/-- Counts in five cells. -/
def bv (t : Cnt) : List Value := [.int .i64 t.l, .int .i64 t.s, .int .i64 t.w, .int .i64 t.f, .int .i64 t.a]
theorem swf_getL (l : List OneR) (x : Plc) (o v : Int) : swf (getL l) x o v = getL (swL l x o v) := by
  unfold swf swL
  split
  · rw [getL_set]
  · rfl
section
variable {w0 w w' : World} {L : List Item} {u : Nat} {F F' : Nat → Prop} {l l' : List OneR}
theorem Env.ref (h : Env w0 L w) (i : Nat) (hi : L[i]? = some (refI u F l)) : IsU w u F l := h.get i hi
theorem Env.turnU (h : Env w0 L w) (i : Nat) (hi : L[i]? = some (refI u F l)) (hU : IsU w' u F' l') (hs : Step F F' w w') : Env w0 (L.set i (refI u F' l')) w' := h.step i (refI u F' l') hi hs hU hU.lt
end
structure LOk (l : List OneR) (N : Nat) : Prop where
  nodup : (l.map (·.1)).Nodup
  len : l.length ≤ N
theorem LOk.set {l : List OneR} {N : Nat} (h : LOk l N) (x : Plc) (v : Int) : LOk (setL l x v) (N + 1) := ⟨setL_nodup h.1, by have := setL_length x v l; have := h.2; omega⟩
theorem LOk.more {l : List OneR} {N : Nat} (h : LOk l N) : LOk l (N + 1) := ⟨h.1, by have := h.2; omega⟩
theorem LOk.sw {l : List OneR} {N : Nat} (h : LOk l N) (x : Plc) (o v : Int) : LOk (swL l x o v) (N + 1) := by
  unfold swL; split
  · exact h.set x v
  · exact h.more

/-- How far it is: of the row the j-th holds. -/
def Stage (Ps : List (World → Prop)) (j : Nat) (w : World) : Prop := ∃ P, Ps[j]? = some P ∧ P w
/-- The counts behind an access. -/
def gA (k a was : Int) (q : Cnt) : Cnt :=
  if k = 1 then { q with l := wrap64 (q.l + 1) } else if k = 2 then { q with s := wrap64 (q.s + 1) } else if k = 3 then swq q (decide (was = a)) else if k = 4 then swq q true else if k = 5 then { q with a := wrap64 (q.a + 1) } else q
/-- What an access leaves. -/
def After (w0 : World) (c u B : Nat) (q t : Cnt) (N : Nat) (R : List Item) (w' : World) : Prop :=
  ∃ (F G : Nat → Prop) (l : List OneR) (n : Nat), n ≤ N + 1 ∧ LOk l (N + 1) ∧ Env w0 (cellI c F (getL l) q n :: refI u G l :: boxI B (bv t) :: R) w'

set_option maxRecDepth 100000 in
set_option maxHeartbeats 6400000 in
theorem does_any {w0 w : World} {c u B n N : Nat} {F G : Nat → Prop} {l : List OneR} {q t : Cnt} {R : List Item} (k x y z a b : Int) (hx : Wf (x, y, z)) (ha : InU a) (hb : InU b) (hN : N ≤ 1000) (hn : n ≤ N) (hl : LOk l N)
    (hE : Env w0 (cellI c F (getL l) q n :: refI u G l :: boxI B (bv t) :: R) w) :
    Calls Try.prog 14 #[.pointer (some ⟨c, 0, none⟩), .pointer (some ⟨u, 0, none⟩), .agg #[.int .i64 k, .int .i64 x, .int .i64 y, .int .i64 z, .int .u64 a, .int .u64 b], .pointer (some ⟨B, 0, none⟩)] w fun e w' => e = .returned (.bool true) ∧ After w0 c u B (gA k a (getL l (x, y, z)) q) (gA k a (getL l (x, y, z)) t) N R w' := by
  replace hE := hE.box w.heap.size rfl [.int .i64 k, .int .i64 x, .int .i64 y, .int .i64 z, .int .u64 a, .int .u64 b] 37
  have HX := Lib.hid hx
  have HA := Lib.hid ha
  have HB := Lib.hid hb
  have HL := Lib.hid hl
  have hnm : n < maxLen := by unfold maxLen; omega
  have hl6 : l.length ≤ 1000000 := by have := hl.2; omega
  clear hx ha hb hl
  have r := hE.rule 0 rfl
  go_enter Try.func14, Try.ntmps14
  go_wp2_with fail
  refine (refGet_any x y z hl6 (hE.ref 2 rfl)).mono ?_
  rintro e w1 ⟨rfl, hb1⟩
  replace hE := hE.over hb1
  clear hb1 r
  have r := hE.rule 0 rfl
  have rB := hE.rule 3 rfl
  unfold bv at rB
  have hBl := hE.boxLt 3 rfl
  have zB : ∀ i, i < 5 → w1.frozen? ⟨B, i, none⟩ = false := fun i hi => hE.thaw 3 rfl i hi
  have z0 := zB 0 (by omega)
  have z1 := zB 1 (by omega)
  have z2 := zB 2 (by omega)
  have z3 := zB 3 (by omega)
  have z4 := zB 4 (by omega)
  have hne : ¬ w.heap.size = B := fun e => hE.off (i := 0) (j := 3) rfl rfl (by decide) w.heap.size rfl e
  have hne' : ¬ B = w.heap.size := fun e => hne e.symm
  generalize w.heap.size = X at *
  clear zB
  obtain ⟨was, hwas⟩ : ∃ v, getL l (x, y, z) = v := ⟨_, rfl⟩
  rw [hwas]
  have HW := Lib.hid hwas
  clear hwas
  by_cases h1 : k = 1
  · subst h1
    go_wp2_with fail
    replace hE := hE.put 3 rfl (j := 0) (by simp [bv]) (.int .i64 (wrap64 (t.l + 1)))
    simp only [List.set_cons_succ, List.set_cons_zero] at hE
    clear rB z0 z1 z2 z3 z4 r
    generalize w1.setCell _ _ = w2 at *
    refine (load_any x y z HX.out (hE.cell 1 rfl)).mono ?_
    rintro e w3 ⟨rfl, hC, hs⟩
    rw [HW.out]
    replace hE := hE.turn 1 rfl hC hs
    simp only [List.set_cons_succ, List.set_cons_zero] at hE
    clear hC hs
    go_wp2_with fail
    go_ret
    exact ⟨by simp, F, G, l, n, by omega, HL.out.more, hE.sub (.cons _ (List.Sublist.refl _))⟩
  by_cases h2 : k = 2
  · subst h2
    go_wp2_with fail
    replace hE := hE.put 3 rfl (j := 1) (by simp [bv]) (.int .i64 (wrap64 (t.s + 1)))
    simp only [List.set_cons_succ, List.set_cons_zero] at hE
    clear rB z0 z1 z2 z3 z4 r
    generalize w1.setCell _ _ = w2 at *
    refine (store_any x y z a HX.out HA.out hnm (hE.cell 1 rfl)).mono ?_
    rintro e w3 ⟨rfl, F3, hC, hs⟩
    replace hE := hE.turn 1 rfl hC hs
    simp only [List.set_cons_succ, List.set_cons_zero] at hE
    clear hC hs
    have r := hE.rule 0 rfl
    go_wp2_with fail
    refine (refSet_any x y z a hl6 (hE.ref 2 rfl)).mono ?_
    rintro e w4 ⟨rfl, G4, hU, hs⟩
    replace hE := hE.turnU 2 rfl hU hs
    simp only [List.set_cons_succ, List.set_cons_zero] at hE
    clear hU hs r
    go_wp2_with fail
    go_ret
    rw [← getL_set] at hE
    exact ⟨by simp, F3, G4, setL l (x, y, z) a, n + 1, by omega, HL.out.set _ _, hE.sub (.cons _ (List.Sublist.refl _))⟩
  by_cases h5 : k = 5
  · subst h5
    go_wp2_with fail
    replace hE := hE.put 3 rfl (j := 4) (by simp [bv]) (.int .i64 (wrap64 (t.a + 1)))
    simp only [List.set_cons_succ, List.set_cons_zero] at hE
    clear rB z0 z1 z2 z3 z4 r
    generalize w1.setCell _ _ = w2 at *
    refine (refSet_any x y z (IntKind.u64.wrap (was + a)) hl6 (hE.ref 2 rfl)).mono ?_
    rintro e w4 ⟨rfl, G4, hU, hs⟩
    replace hE := hE.turnU 2 rfl hU hs
    simp only [List.set_cons_succ, List.set_cons_zero] at hE
    clear hU hs
    have r := hE.rule 0 rfl
    go_wp2_with fail
    refine (add_any x y z a HX.out hnm (hE.cell 1 rfl)).mono ?_
    rintro e w3 ⟨rfl, F3, hC, hs⟩
    rw [HW.out] at hC ⊢
    replace hE := hE.turn 1 rfl hC hs
    simp only [List.set_cons_succ, List.set_cons_zero] at hE
    clear hC hs
    clear r
    go_wp2_with fail
    go_ret
    rw [← getL_set] at hE
    exact ⟨by simp, F3, G4, _, n + 1, by omega, HL.out.set _ _, hE.sub (.cons _ (List.Sublist.refl _))⟩
  by_cases h3 : k = 3
  · subst h3
    by_cases hw : a = was
    · subst hw
      go_wp2_with fail
      replace hE := hE.put 3 rfl (j := 2) (by simp [bv]) (.int .i64 (wrap64 (t.w + 1)))
      simp only [List.set_cons_succ, List.set_cons_zero] at hE
      clear rB z0 z1 z2 z3 z4 r
      generalize w1.setCell _ _ = w2 at *
      have HD := Lib.hid (show decide (getL l (x, y, z) = a) = true by simp [HW.out])
      replace hE : Env w0 (_ :: _ :: _ :: boxI B (bv (swq t true)) :: R) w2 := hE
      refine Ord.wp_chain [6, 13] (fun w' => Blk 0 w' X [.int .i64 3, .int .i64 x, .int .i64 y, .int .i64 z, .int .u64 a, .int .u64 b]) (Stage [Env w0 (boxI X [.int .i64 3, .int .i64 x, .int .i64 y, .int .i64 z, .int .u64 a, .int .u64 b] :: cellI c F (getL l) q n :: refI u G l :: boxI B (bv (swq t true)) :: R), (fun v' => ∃ F', Env w0 (boxI X [.int .i64 3, .int .i64 x, .int .i64 y, .int .i64 z, .int .u64 a, .int .u64 b] :: cellI c F' (swf (getL l) (x, y, z) a b) (swq q true) (n + 1) :: refI u G l :: boxI B (bv (swq t true)) :: R) v'), (fun v' => ∃ F' G', Env w0 (boxI X [.int .i64 3, .int .i64 x, .int .i64 y, .int .i64 z, .int .u64 a, .int .u64 b] :: cellI c F' (swf (getL l) (x, y, z) a b) (swq q true) (n + 1) :: refI u G' (swL l (x, y, z) a b) :: boxI B (bv (swq t true)) :: R) v')]) (by kernel_rfl) (by kernel_rfl) (by kernel_rfl) (hE.drew.get 0 rfl) ⟨_, rfl, hE.drew⟩ (fun hT => ?_)
      have hT9 := Lib.hid hT
      clear hT
      repeat (first
        | (refine Ord.ch_value (v := ?_) hT9.out (by decide) (by rfl) ?_ ?_; rotate_left; (focus (intro w5 hS; have r := Blk.rule hS; go_simp <;> with_reducible rfl)); (try simp only [Act.put, List.setIfInBounds_toArray, List.set_cons_zero, List.set_cons_succ]))
        | (refine Ord.ch_off hT9.out (by decide) (by rfl) ?_; (try simp only [Act.put, List.setIfInBounds_toArray, List.set_cons_zero, List.set_cons_succ])))
      refine Ord.ch_turn (v := .bool true) 0 hT9.out rfl (by decide) (Or.inl rfl) (by rfl) ?_ ?_
      · rintro w5 hC5 ⟨P5, hP5, hA5⟩
        cases hP5
        have r := Blk.rule hC5
        go_simp
        simp only [Ord.LandsIn]
        refine (swap_any x y z a b HX.out HB.out hnm (hA5.cell 1 rfl)).mono ?_
        rintro e w6 ⟨rfl, F6, hC, hs⟩
        rw [HD.out] at hC ⊢
        have hE6 := hA5.turn 1 rfl hC hs
        exact ⟨rfl, hE6.get 0 rfl, _, rfl, F6, hE6⟩
      (try simp only [Act.put, List.setIfInBounds_toArray, List.set_cons_zero, List.set_cons_succ])
      repeat (first
        | (refine Ord.ch_value (v := ?_) hT9.out (by decide) (by rfl) ?_ ?_; rotate_left; (focus (intro w5 hS; have r := Blk.rule hS; go_simp <;> with_reducible rfl)); (try simp only [Act.put, List.setIfInBounds_toArray, List.set_cons_zero, List.set_cons_succ]))
        | (refine Ord.ch_off hT9.out (by decide) (by rfl) ?_; (try simp only [Act.put, List.setIfInBounds_toArray, List.set_cons_zero, List.set_cons_succ])))
      refine Ord.ch_turn (v := .bool true) 1 hT9.out rfl (by decide) (Or.inr ⟨_, rfl, by kernel_rfl⟩) (by rfl) ?_ ?_
      · rintro w5 hC5 ⟨P5, hP5, hA5⟩
        cases hP5
        obtain ⟨F5, hA5⟩ := hA5
        have r := Blk.rule hC5
        go_simp
        simp only [Ord.LandsIn]
        refine (refSwap_any x y z a b hl6 (hA5.ref 2 rfl)).mono ?_
        rintro e w6 ⟨rfl, G6, hU, hs⟩
        rw [HD.out]
        have hE6 := hA5.turnU 2 rfl hU hs
        exact ⟨rfl, hE6.get 0 rfl, _, rfl, F5, G6, hE6⟩
      (try simp only [Act.put, List.setIfInBounds_toArray, List.set_cons_zero, List.set_cons_succ])
      repeat (first
        | (refine Ord.ch_value (v := ?_) hT9.out (by decide) (by rfl) ?_ ?_; rotate_left; (focus (intro w5 hS; skip; go_simp <;> with_reducible rfl)); (try simp only [Act.put, List.setIfInBounds_toArray, List.set_cons_zero, List.set_cons_succ]))
        | (refine Ord.ch_off hT9.out (by decide) (by rfl) ?_; (try simp only [Act.put, List.setIfInBounds_toArray, List.set_cons_zero, List.set_cons_succ])))
      refine Ord.InText.nil fun w5 hS => ?_
      clear hT9
      obtain ⟨hC9, hA9⟩ := Ord.chain_end hS
      clear hS
      obtain ⟨P9, hP9, hA9⟩ := hA9
      cases hP9
      obtain ⟨F9, G9, hA9⟩ := hA9
      rw [swf_getL] at hA9
      have r := Blk.rule hC9
      go_wp2_with fail
      go_ret
      have hg : ∀ q, gA 3 a (getL l (x, y, z)) q = swq q true := fun q => by have := HD.out; simp [gA] at this ⊢; try simp [this]
      rw [hg, hg]
      exact ⟨by simp, F9, G9, _, n + 1, by omega, HL.out.sw _ _ _, hA9.sub (.cons _ (List.Sublist.refl _))⟩
    · go_wp2_with fail
      replace hE := hE.put 3 rfl (j := 2) (by simp [bv]) (.int .i64 (wrap64 (t.w + 1)))
      simp only [List.set_cons_succ, List.set_cons_zero] at hE
      replace hE := hE.put 3 rfl (j := 3) (by simp [bv]) (.int .i64 (wrap64 (t.f + 1)))
      simp only [List.set_cons_succ, List.set_cons_zero] at hE
      clear rB z0 z1 z2 z3 z4 r
      generalize (w1.setCell _ _).setCell _ _ = w2 at *
      have HD := Lib.hid (show decide (getL l (x, y, z) = a) = false by rw [HW.out]; simp; exact fun e => hw e.symm)
      replace hE : Env w0 (_ :: _ :: _ :: boxI B (bv (swq t false)) :: R) w2 := hE
      refine Ord.wp_chain [6, 13] (fun w' => Blk 0 w' X [.int .i64 3, .int .i64 x, .int .i64 y, .int .i64 z, .int .u64 a, .int .u64 b]) (Stage [Env w0 (boxI X [.int .i64 3, .int .i64 x, .int .i64 y, .int .i64 z, .int .u64 a, .int .u64 b] :: cellI c F (getL l) q n :: refI u G l :: boxI B (bv (swq t false)) :: R), (fun v' => ∃ F', Env w0 (boxI X [.int .i64 3, .int .i64 x, .int .i64 y, .int .i64 z, .int .u64 a, .int .u64 b] :: cellI c F' (swf (getL l) (x, y, z) a b) (swq q false) (n + 1) :: refI u G l :: boxI B (bv (swq t false)) :: R) v'), (fun v' => ∃ F' G', Env w0 (boxI X [.int .i64 3, .int .i64 x, .int .i64 y, .int .i64 z, .int .u64 a, .int .u64 b] :: cellI c F' (swf (getL l) (x, y, z) a b) (swq q false) (n + 1) :: refI u G' (swL l (x, y, z) a b) :: boxI B (bv (swq t false)) :: R) v')]) (by kernel_rfl) (by kernel_rfl) (by kernel_rfl) (hE.drew.get 0 rfl) ⟨_, rfl, hE.drew⟩ (fun hT => ?_)
      have hT9 := Lib.hid hT
      clear hT
      repeat (first
        | (refine Ord.ch_value (v := ?_) hT9.out (by decide) (by rfl) ?_ ?_; rotate_left; (focus (intro w5 hS; have r := Blk.rule hS; go_simp <;> with_reducible rfl)); (try simp only [Act.put, List.setIfInBounds_toArray, List.set_cons_zero, List.set_cons_succ]))
        | (refine Ord.ch_off hT9.out (by decide) (by rfl) ?_; (try simp only [Act.put, List.setIfInBounds_toArray, List.set_cons_zero, List.set_cons_succ])))
      refine Ord.ch_turn (v := .bool false) 0 hT9.out rfl (by decide) (Or.inl rfl) (by rfl) ?_ ?_
      · rintro w5 hC5 ⟨P5, hP5, hA5⟩
        cases hP5
        have r := Blk.rule hC5
        go_simp
        simp only [Ord.LandsIn]
        refine (swap_any x y z a b HX.out HB.out hnm (hA5.cell 1 rfl)).mono ?_
        rintro e w6 ⟨rfl, F6, hC, hs⟩
        rw [HD.out] at hC ⊢
        have hE6 := hA5.turn 1 rfl hC hs
        exact ⟨rfl, hE6.get 0 rfl, _, rfl, F6, hE6⟩
      (try simp only [Act.put, List.setIfInBounds_toArray, List.set_cons_zero, List.set_cons_succ])
      repeat (first
        | (refine Ord.ch_value (v := ?_) hT9.out (by decide) (by rfl) ?_ ?_; rotate_left; (focus (intro w5 hS; have r := Blk.rule hS; go_simp <;> with_reducible rfl)); (try simp only [Act.put, List.setIfInBounds_toArray, List.set_cons_zero, List.set_cons_succ]))
        | (refine Ord.ch_off hT9.out (by decide) (by rfl) ?_; (try simp only [Act.put, List.setIfInBounds_toArray, List.set_cons_zero, List.set_cons_succ])))
      refine Ord.ch_turn (v := .bool false) 1 hT9.out rfl (by decide) (Or.inr ⟨_, rfl, by kernel_rfl⟩) (by rfl) ?_ ?_
      · rintro w5 hC5 ⟨P5, hP5, hA5⟩
        cases hP5
        obtain ⟨F5, hA5⟩ := hA5
        have r := Blk.rule hC5
        go_simp
        simp only [Ord.LandsIn]
        refine (refSwap_any x y z a b hl6 (hA5.ref 2 rfl)).mono ?_
        rintro e w6 ⟨rfl, G6, hU, hs⟩
        rw [HD.out]
        have hE6 := hA5.turnU 2 rfl hU hs
        exact ⟨rfl, hE6.get 0 rfl, _, rfl, F5, G6, hE6⟩
      (try simp only [Act.put, List.setIfInBounds_toArray, List.set_cons_zero, List.set_cons_succ])
      repeat (first
        | (refine Ord.ch_value (v := ?_) hT9.out (by decide) (by rfl) ?_ ?_; rotate_left; (focus (intro w5 hS; skip; go_simp <;> with_reducible rfl)); (try simp only [Act.put, List.setIfInBounds_toArray, List.set_cons_zero, List.set_cons_succ]))
        | (refine Ord.ch_off hT9.out (by decide) (by rfl) ?_; (try simp only [Act.put, List.setIfInBounds_toArray, List.set_cons_zero, List.set_cons_succ])))
      refine Ord.InText.nil fun w5 hS => ?_
      clear hT9
      obtain ⟨hC9, hA9⟩ := Ord.chain_end hS
      clear hS
      obtain ⟨P9, hP9, hA9⟩ := hA9
      cases hP9
      obtain ⟨F9, G9, hA9⟩ := hA9
      rw [swf_getL] at hA9
      have r := Blk.rule hC9
      go_wp2_with fail
      go_ret
      have hg : ∀ q, gA 3 a (getL l (x, y, z)) q = swq q false := fun q => by have := HD.out; simp [gA] at this ⊢; try simp [this]
      rw [hg, hg]
      exact ⟨by simp, F9, G9, _, n + 1, by omega, HL.out.sw _ _ _, hA9.sub (.cons _ (List.Sublist.refl _))⟩
  by_cases h4 : k = 4
  · subst h4
    go_wp2_with fail
    replace hE := hE.put 3 rfl (j := 2) (by simp [bv]) (.int .i64 (wrap64 (t.w + 1)))
    simp only [List.set_cons_succ, List.set_cons_zero] at hE
    clear rB z0 z1 z2 z3 z4 r
    generalize w1.setCell _ _ = w2 at *
    have HD := Lib.hid (show decide (getL l (x, y, z) = was) = true by simp [HW.out])
    replace hE : Env w0 (_ :: _ :: _ :: boxI B (bv (swq t true)) :: R) w2 := hE
    refine Ord.wp_chain [6, 13] (fun w' => Blk 0 w' X [.int .i64 4, .int .i64 x, .int .i64 y, .int .i64 z, .int .u64 a, .int .u64 b]) (Stage [Env w0 (boxI X [.int .i64 4, .int .i64 x, .int .i64 y, .int .i64 z, .int .u64 a, .int .u64 b] :: cellI c F (getL l) q n :: refI u G l :: boxI B (bv (swq t true)) :: R), (fun v' => ∃ F', Env w0 (boxI X [.int .i64 4, .int .i64 x, .int .i64 y, .int .i64 z, .int .u64 a, .int .u64 b] :: cellI c F' (swf (getL l) (x, y, z) was b) (swq q true) (n + 1) :: refI u G l :: boxI B (bv (swq t true)) :: R) v'), (fun v' => ∃ F' G', Env w0 (boxI X [.int .i64 4, .int .i64 x, .int .i64 y, .int .i64 z, .int .u64 a, .int .u64 b] :: cellI c F' (swf (getL l) (x, y, z) was b) (swq q true) (n + 1) :: refI u G' (swL l (x, y, z) was b) :: boxI B (bv (swq t true)) :: R) v')]) (by kernel_rfl) (by kernel_rfl) (by kernel_rfl) (hE.drew.get 0 rfl) ⟨_, rfl, hE.drew⟩ (fun hT => ?_)
    have hT9 := Lib.hid hT
    clear hT
    repeat (first
      | (refine Ord.ch_value (v := ?_) hT9.out (by decide) (by rfl) ?_ ?_; rotate_left; (focus (intro w5 hS; have r := Blk.rule hS; go_simp <;> with_reducible rfl)); (try simp only [Act.put, List.setIfInBounds_toArray, List.set_cons_zero, List.set_cons_succ]))
      | (refine Ord.ch_off hT9.out (by decide) (by rfl) ?_; (try simp only [Act.put, List.setIfInBounds_toArray, List.set_cons_zero, List.set_cons_succ])))
    refine Ord.ch_turn (v := .bool true) 0 hT9.out rfl (by decide) (Or.inl rfl) (by rfl) ?_ ?_
    · rintro w5 hC5 ⟨P5, hP5, hA5⟩
      cases hP5
      have r := Blk.rule hC5
      go_simp
      simp only [Ord.LandsIn]
      refine (swap_any x y z was b HX.out HB.out hnm (hA5.cell 1 rfl)).mono ?_
      rintro e w6 ⟨rfl, F6, hC, hs⟩
      rw [HD.out] at hC ⊢
      have hE6 := hA5.turn 1 rfl hC hs
      exact ⟨rfl, hE6.get 0 rfl, _, rfl, F6, hE6⟩
    (try simp only [Act.put, List.setIfInBounds_toArray, List.set_cons_zero, List.set_cons_succ])
    repeat (first
      | (refine Ord.ch_value (v := ?_) hT9.out (by decide) (by rfl) ?_ ?_; rotate_left; (focus (intro w5 hS; have r := Blk.rule hS; go_simp <;> with_reducible rfl)); (try simp only [Act.put, List.setIfInBounds_toArray, List.set_cons_zero, List.set_cons_succ]))
      | (refine Ord.ch_off hT9.out (by decide) (by rfl) ?_; (try simp only [Act.put, List.setIfInBounds_toArray, List.set_cons_zero, List.set_cons_succ])))
    refine Ord.ch_turn (v := .bool true) 1 hT9.out rfl (by decide) (Or.inr ⟨_, rfl, by kernel_rfl⟩) (by rfl) ?_ ?_
    · rintro w5 hC5 ⟨P5, hP5, hA5⟩
      cases hP5
      obtain ⟨F5, hA5⟩ := hA5
      have r := Blk.rule hC5
      go_simp
      simp only [Ord.LandsIn]
      refine (refSwap_any x y z was b hl6 (hA5.ref 2 rfl)).mono ?_
      rintro e w6 ⟨rfl, G6, hU, hs⟩
      rw [HD.out]
      have hE6 := hA5.turnU 2 rfl hU hs
      exact ⟨rfl, hE6.get 0 rfl, _, rfl, F5, G6, hE6⟩
    (try simp only [Act.put, List.setIfInBounds_toArray, List.set_cons_zero, List.set_cons_succ])
    repeat (first
      | (refine Ord.ch_value (v := ?_) hT9.out (by decide) (by rfl) ?_ ?_; rotate_left; (focus (intro w5 hS; skip; go_simp <;> with_reducible rfl)); (try simp only [Act.put, List.setIfInBounds_toArray, List.set_cons_zero, List.set_cons_succ]))
      | (refine Ord.ch_off hT9.out (by decide) (by rfl) ?_; (try simp only [Act.put, List.setIfInBounds_toArray, List.set_cons_zero, List.set_cons_succ])))
    refine Ord.InText.nil fun w5 hS => ?_
    clear hT9
    obtain ⟨hC9, hA9⟩ := Ord.chain_end hS
    clear hS
    obtain ⟨P9, hP9, hA9⟩ := hA9
    cases hP9
    obtain ⟨F9, G9, hA9⟩ := hA9
    rw [swf_getL] at hA9
    have r := Blk.rule hC9
    go_wp2_with fail
    go_ret
    have hg : ∀ q, gA 4 a (getL l (x, y, z)) q = swq q true := fun q => by have := HD.out; simp [gA] at this ⊢; try simp [this]
    rw [hg, hg]
    exact ⟨by simp, F9, G9, _, n + 1, by omega, HL.out.sw _ _ _, hA9.sub (.cons _ (List.Sublist.refl _))⟩
  go_wp2_with fail
  refine (peek_any x y z HX.out (hE.cell 1 rfl)).mono ?_
  rintro e w3 ⟨rfl, hb3⟩
  rw [HW.out]
  replace hE := hE.over hb3
  clear hb3 r rB z0 z1 z2 z3 z4
  go_wp2_with fail
  go_ret
  have hg : ∀ q, gA k a (getL l (x, y, z)) q = q := fun q => by simp [gA, h1, h2, h3, h4, h5]
  rw [hg, hg]
  exact ⟨by simp, F, G, l, n, by omega, HL.out.more, hE.sub (.cons _ (List.Sublist.refl _))⟩
end Go.Proofs.Ytmgldhojgkcnkaa
