/- What is proved on the way to the statement, part 14 of 17: contracts of the functions, among other things in memory. -/
import Derived.Test.YtdknbegcflldjaaGreatDoorE13

/- Lists: the rows of an Unlink. -/
namespace Go.Proofs.YtdknbegcflldjaaGreatDoor
open Go.RowKit Go.Maps
set_option maxRecDepth 100000

/-- The end of a machine whose rows stand at a place of a block, as a method value. -/
def mvE (a o : Nat) : Value := .func (.func 194) #[.pointer (some ⟨a, o, none⟩)] #[]
section
variable {w0 w : World} {R L : List Item} {l : Nat} {S : ST} {nx : Value} {x y z W C X k key to : Int}
set_option maxHeartbeats 3200000 in
theorem mark_k (hX : InU X) (hmk : markB X = false) (hs0 : S.hs = 0) (hC : In64 C) (hg : Glo w0) (hm : S.m < maxLen) (hE : Env w0 (boxI l (ukC S.c x y z W C X k key to nx 0) :: LT S R) w) :
    Calls Tryz.prog 260 #[.pointer (some ⟨l, 0, none⟩), .iface 26 (.pointer (some ⟨S.p, 0, none⟩))] w fun o w' => o = .returned (.int .i64 (if S.f (5, C, 7) = X then 0 else 2)) ∧ ∃ G' nx', (S.f (5, C, 7) = X → nx' = mvL 287 l) ∧ Env w0 (boxI l (ukC S.c x y z W C X k key to nx' (if S.f (5, C, 7) = X then 0 else 2)) :: LT { S with G := G', f := swf S.f (5, C, 7) X (wordI true to S.ce), qc := swq S.qc (decide (S.f (5, C, 7) = X)), m := S.m + 1 } R) w' := by
  have hmf := makeF
  have hah := ahead_swap
  have hb : (S.hs != 0) = false := by simpa using hs0
  have HWF : Hid (Wf (5, C, 7)) := Lib.hid (by unfold Wf; exact ⟨by show In64 5; unfold In64; omega, hC, by show In64 7; unfold In64; omega⟩)
  have hqi : InU (wordI true to S.ce) := wordI_in _ _ _
  have hto := fun (v : World) (hv : Below w0.heap.size w0 v) (hb : Blk 0 v S.c (crv S.ck S.cs S.cb S.ch S.cl S.ce S.cr S.hs 0 S.q)) => markNew_c X 0 false to 0 hX hmk (hg.keep' hv) hb
  obtain ⟨q, hq⟩ : ∃ q, wordI true to S.ce = q := ⟨_, rfl⟩
  rw [hq] at hqi ⊢
  simp only [hq] at hto
  have HQI := Lib.hid hqi
  have HTO := Lib.hid hto
  clear hq hqi hto hg hs0 hmk hC
  obtain ⟨dd, hdd⟩ : ∃ dd, decide (S.f (5, C, 7) = X) = dd := ⟨_, rfl⟩
  have hds : (if S.f (5, C, 7) = X then (0 : Int) else 2) = if dd then 0 else 2 := by rw [← hdd]; by_cases h : S.f (5, C, 7) = X <;> simp [h]
  have hdp : S.f (5, C, 7) = X ↔ dd = true := by rw [← hdd]; simp
  rw [hds, hdd]
  simp only [hdp]
  clear hds hdp
  have HDD := Lib.hid hdd
  clear hdd hX
  go_enter Tryz.func260, Tryz.ntmps260
  go_wp2_with fail
  refine Ord.wp_chain [29] (fun v => Below w0.heap.size w0 v ∧ Blk 0 v l (ukC S.c x y z W C X k key to nx 0) ∧ Blk 0 v S.c (crv S.ck S.cs S.cb S.ch S.cl S.ce S.cr S.hs 0 S.q)) (fun k9 w' => ∃ G5, Env w0 (boxI l (ukC S.c x y z W C X k key to nx 0) :: LT (if k9 = 0 then S else { S with G := G5, f := swf S.f (5, C, 7) X q, qc := swq S.qc dd, m := S.m + 1 }) R) w') (by kernel_rfl) (by kernel_rfl) (by kernel_rfl) ⟨hE.drew.below, hE.drew.get 0 rfl, hE.drew.get 1 rfl⟩ ⟨S.G, hE.drew⟩ (fun hT => ?_)
  have hT9 := Lib.hid hT
  clear hT
  repeat (first
    | (refine Ord.ch_value (v := ?_) hT9.out (by decide) (by rfl) ?_ ?_; rotate_left; (focus (intro w5 hS; have r := hS.2.1.rule; unfold ukC at r; go_simp <;> with_reducible rfl)); (try simp only [Act.put, List.setIfInBounds_toArray, List.set_cons_zero, List.set_cons_succ]))
    | (refine Ord.ch_off hT9.out (by decide) (by rfl) ?_; (try simp only [Act.put, List.setIfInBounds_toArray, List.set_cons_zero, List.set_cons_succ]))
    | (refine Ord.ch_call (v := ?_) (f := ?_) (args := ?_) hT9.out (by decide) (by rfl) ?_ ?_ ?_; rotate_left 3; (focus (intro w5 hS; have r := hS.2.1.rule; unfold ukC at r; go_simp; constructor <;> with_reducible rfl)); (focus (intro w5 hS; (first | (with_reducible refine (linkOf_any _ _ _).mono ?_; rintro e w6 ⟨rfl, hb6⟩; constructor; with_reducible rfl; exact ⟨⟨hS.1.trans (hb6.mono hS.1.size), hS.2.1.under hb6, hS.2.2.under hb6⟩, fun k h => h.elim fun G5 h => ⟨G5, h.over hb6⟩⟩) | (with_reducible refine (HTO.out _ hS.1 hS.2.2).mono ?_; rintro e w6 ⟨rfl, hb6⟩; constructor; with_reducible rfl; exact ⟨⟨hS.1.trans (hb6.mono hS.1.size), hS.2.1.under hb6, hS.2.2.under hb6⟩, fun k h => h.elim fun G5 h => ⟨G5, h.over hb6⟩⟩)))); (try simp only [Act.put, List.setIfInBounds_toArray, List.set_cons_zero, List.set_cons_succ])))
  refine Ord.ch_turn (v := .bool dd) 0 hT9.out rfl (by decide) (Or.inl rfl) (by rfl) ?_ ?_
  · rintro w5 hC5 ⟨G5, hA5⟩
    simp only [if_true] at hA5
    go_simp
    rw [method_swap]
    simp only [Result.andThen_ok]
    go_simp
    simp only [Ord.LandsIn]
    have hsw := swap_w 5 C 7 0 X 0 q 0 false false HWF.out HQI.out hm 3 4 (by decide) hA5 rfl rfl
    rw [HDD.out] at hsw
    refine hsw.mono ?_
    rintro e w6 ⟨rfl, G6, hE6⟩
    exact ⟨rfl, ⟨hE6.below, hE6.get 0 rfl, hE6.get 1 rfl⟩, G6, hE6⟩
  (try simp only [Act.put, List.setIfInBounds_toArray, List.set_cons_zero, List.set_cons_succ])
  repeat (first
    | (refine Ord.ch_value (v := ?_) hT9.out (by decide) (by rfl) ?_ ?_; rotate_left; (focus (intro w5 hS; skip; go_simp <;> with_reducible rfl)); (try simp only [Act.put, List.setIfInBounds_toArray, List.set_cons_zero, List.set_cons_succ]))
    | (refine Ord.ch_off hT9.out (by decide) (by rfl) ?_; (try simp only [Act.put, List.setIfInBounds_toArray, List.set_cons_zero, List.set_cons_succ])))
  refine Ord.InText.nil fun w5 hS => ?_
  clear hT9
  obtain ⟨hC9, hA9⟩ := Ord.chain_end hS
  clear hS
  obtain ⟨G9, hA9⟩ := hA9
  simp only [List.length_cons, List.length_nil, Nat.zero_add, Nat.one_ne_zero, if_false] at hA9
  clear hC9 hE HTO HDD
  have r := hA9.rule 0 rfl
  unfold ukC at r
  cases dd
  · go_wp2_with fail
    refine (end_r (o := 17) 0 2 (by simp [ukC]) hA9 rfl).mono ?_
    rintro o w5 ⟨rfl, hE5⟩
    go_wp2_with fail
    go_ret
    first | exact ⟨rfl, G9, nx, fun h => absurd h (by decide), hE5⟩ | exact ⟨rfl, G9, nx, hE5⟩
  · go_wp2_with fail
    refine (held_c (hA9.get 1 rfl)).mono ?_
    rintro o w4 ⟨rfl, hb1⟩
    rw [hb]
    have hE2 := (hA9.over hb1).box w4.heap.size rfl [.int .i64 S.hs, .int .i64 0] 136
    clear hb1 hA9 r hb
    go_wp2_with fail
    generalize w4.alloc _ = w6 at *
    generalize w4.heap.size = Y at *
    obtain ⟨S2, hS2⟩ : ∃ S2 : ST, { S with G := G9, f := swf S.f (5, C, 7) X q, qc := swq S.qc true, m := S.m + 1 } = S2 := ⟨_, rfl⟩
    rw [hS2] at hE2
    have HS2 := Lib.hid hS2
    clear hS2
    refine wp_text (S := (Env w0 (boxI Y [.int .i64 S.hs, .int .i64 0] :: boxI l (ukC S.c x y z W C X k key to nx 0) :: LT S2 R))) (by kernel_rfl) (by kernel_rfl) hE2.drew (fun hT => ?_)
    have hT9 := Lib.hid hT
    clear hT
    repeat (first
      | (refine text_value (v := ?_) hT9.out (by rfl) ?_ ?_; rotate_left; (focus (intro w5 hS; have r := hS.rule 1 rfl; have r1 := hS.rule 0 rfl; unfold ukC at r; go_simp <;> with_reducible rfl)); (try simp only [Act.put, List.setIfInBounds_toArray, List.set_cons_zero, List.set_cons_succ]))
      | (refine text_off hT9.out (by rfl) ?_; (try simp only [Act.put, List.setIfInBounds_toArray, List.set_cons_zero, List.set_cons_succ]))
      | (refine text_call (v := ?_) (f := ?_) (args := ?_) hT9.out (by rfl) ?_ ?_ ?_; rotate_left 3; (focus (intro w5 hS; have r := hS.rule 1 rfl; have r1 := hS.rule 0 rfl; unfold ukC at r; go_simp; constructor <;> with_reducible rfl)); (focus (intro w5 hS; (first | fail))); (try simp only [Act.put, List.setIfInBounds_toArray, List.set_cons_zero, List.set_cons_succ])))
    refine InText.nil fun w5 hS5 => ?_
    clear hT9
    clear hE2
    go_wp2_with fail
    refine (goOn_r (o := 17) 1 _ _ _ (by simp [ukC]) hS5 rfl).mono ?_
    rintro o w7 ⟨rfl, hE7⟩
    go_wp2_with fail
    go_ret
    have h2 := HS2.out
    subst h2
    first | exact ⟨rfl, G9, _, fun _ => rfl, hE7.sub (.cons _ (List.Sublist.refl _))⟩ | exact ⟨rfl, G9, _, rfl, hE7.sub (.cons _ (List.Sublist.refl _))⟩ | exact ⟨rfl, G9, hE7.sub (.cons _ (List.Sublist.refl _))⟩
set_option maxHeartbeats 3200000 in
theorem retire_k (u : Int) (hE : Env w0 (boxI l (ukC S.c x y z W C X k key to nx 0) :: L) w) :
    Calls Tryz.prog 305 #[.pointer (some ⟨l, 0, none⟩), .int .i64 u] w fun o w' => o = .returned (.int .i64 0) ∧ ∃ b1 b2 r, Env w0 (boxI l (ukC S.c x y z W C X k key to (cvP b1 b2) 0) :: boxI b1 [mvL 322 r] :: boxI b2 [mvE l 17] :: boxI r (rtv S.c (nxR r 0) C 0) :: L) w' := by
  have hmf := makeF
  go_enter Tryz.func305, Tryz.ntmps305
  go_wp2_with fail
  refine Ord3.wp_chain [?_, ?_, ?_, ?_, ?_, ?_, ?_, ?_, ?_, ?_, ?_, ?_, ?_, ?_, ?_, ?_, ?_, ?_, ?_, ?_] [12, 13, 18] (fun w' => ∃ nx9, Blk 0 w' l (ukC S.c x y z W C X k key to nx9 0)) (Ord3.Stage fun κs => [Env w0 (boxI l (ukC S.c x y z W C X k key to nx 0) :: L), fun w' => ∃ r, κs.getD 0 undef = .pointer (some ⟨r, 0, none⟩) ∧ Env w0 (boxI r (rtv S.c (nxR r 0) C 0) :: boxI l (ukC S.c x y z W C X k key to nx 0) :: L) w', fun w' => ∃ r, κs.getD 1 undef = mvL 322 r ∧ Env w0 (boxI r (rtv S.c (nxR r 0) C 0) :: boxI l (ukC S.c x y z W C X k key to nx 0) :: L) w', fun w' => ∃ b1 b2 r, Env w0 (boxI b1 [mvL 322 r] :: boxI b2 [mvE l 17] :: boxI r (rtv S.c (nxR r 0) C 0) :: boxI l (ukC S.c x y z W C X k key to (cvP b1 b2) 0) :: L) w']) (by kernel_rfl) (by kernel_rfl) (by kernel_rfl) ⟨nx, hE.drew.get 0 rfl⟩ ⟨_, rfl, hE.drew⟩ (fun hT => ?_)
  rotate_left 20
  have hT9 := Lib.hid hT
  clear hT
  repeat (first
    | (focus (refine Ord3.in_value (v := ?_) hT9.out (by decide) ?_ (by rfl) ?_ ?_; rotate_left 2; (focus (intro w5 hS; obtain ⟨nx9, hS9⟩ := hS; have r1 := Blk.rule hS9; unfold ukC at r1; go_simp <;> with_reducible rfl)); rotate_right; (focus rfl); (try simp only [Act.put, List.setIfInBounds_toArray, List.set_cons_zero, List.set_cons_succ])))
    | (focus (refine Ord3.in_off hT9.out (by decide) ?_ (by rfl) ?_; (focus rfl); (try simp only [Act.put, List.setIfInBounds_toArray, List.set_cons_zero, List.set_cons_succ]))))
  refine Ord3.in_turn (fun u => ∃ q, u = .pointer (some ⟨q, 0, none⟩)) _ ⟨0, rfl⟩ hT9.out rfl (by decide) (by rfl) ?_ (Or.inl rfl) (by rfl) ?_ ?_
  · rfl
  · rintro w7 hC7 ⟨P7, hP7, hA7⟩
    cases hP7
    go_simp
    simp only [Ord3.Lands]
    refine (new_r C hA7).mono ?_
    rintro o w8 ⟨r8, rfl, hE8⟩
    exact ⟨_, rfl, ⟨r8, rfl⟩, ⟨nx, hE8.get 1 rfl⟩, _, rfl, r8, rfl, hE8⟩
  rintro _ ⟨r9, rfl⟩
  (try simp only [Act.put, List.setIfInBounds_toArray, List.set_cons_zero, List.set_cons_succ])
  refine Ord3.in_turn (fun u => ∃ q, u = mvL 322 q) _ ⟨0, rfl⟩ hT9.out rfl (by decide) (by rfl) ?_ (Or.inr ⟨_, 12, [], rfl, by kernel_rfl, by kernel_rfl, rfl⟩) (by rfl) ?_ ?_
  · rfl
  · rintro w7 hC7 ⟨P7, hP7, hA7⟩
    cases hP7
    obtain ⟨r8, he, hA7⟩ := hA7
    cases he
    go_simp
    simp only [Ord3.Lands]
    exact ⟨⟨_, rfl⟩, hC7, _, rfl, r9, rfl, hA7⟩
  rintro _ ⟨r9, rfl⟩
  (try simp only [Act.put, List.setIfInBounds_toArray, List.set_cons_zero, List.set_cons_succ])
  repeat (first
    | (focus (refine Ord3.in_value (v := ?_) hT9.out (by decide) ?_ (by rfl) ?_ ?_; rotate_left 2; (focus (intro w5 hS; obtain ⟨nx9, hS9⟩ := hS; have r1 := Blk.rule hS9; unfold ukC at r1; go_simp <;> with_reducible rfl)); rotate_right; (focus rfl); (try simp only [Act.put, List.setIfInBounds_toArray, List.set_cons_zero, List.set_cons_succ])))
    | (focus (refine Ord3.in_off hT9.out (by decide) ?_ (by rfl) ?_; (focus rfl); (try simp only [Act.put, List.setIfInBounds_toArray, List.set_cons_zero, List.set_cons_succ]))))
  refine Ord3.in_turn (fun u => u = .int .i64 0) _ rfl hT9.out rfl (by decide) (by rfl) ?_ (Or.inr ⟨_, 13, [], rfl, by kernel_rfl, by kernel_rfl, rfl⟩) (by rfl) ?_ ?_
  · rfl
  · rintro w7 hC7 ⟨P7, hP7, hA7⟩
    cases hP7
    obtain ⟨r8, he, hA7⟩ := hA7
    cases he
    go_simp
    simp only [Ord3.Lands]
    refine (play_r (o := 17) 1 _ _ _ _ _ _ (by simp [ukC]) hA7 rfl).mono ?_
    rintro o w8 ⟨rfl, b1, b2, hE8⟩
    exact ⟨_, rfl, rfl, ⟨_, hE8.get 3 rfl⟩, _, rfl, b1, b2, r9, hE8⟩
  rintro _ rfl
  (try simp only [Act.put, List.setIfInBounds_toArray, List.set_cons_zero, List.set_cons_succ])
  repeat (first
    | (focus (refine Ord3.in_value (v := ?_) hT9.out (by decide) ?_ (by rfl) ?_ ?_; rotate_left 2; (focus (intro w5 hS; skip; go_simp <;> with_reducible rfl)); rotate_right; (focus rfl); (try simp only [Act.put, List.setIfInBounds_toArray, List.set_cons_zero, List.set_cons_succ])))
    | (focus (refine Ord3.in_off hT9.out (by decide) ?_ (by rfl) ?_; (focus rfl); (try simp only [Act.put, List.setIfInBounds_toArray, List.set_cons_zero, List.set_cons_succ]))))
  refine Ord3.in_nil rfl ?_
  rintro w9 hC9 ⟨P9, hP9, hA9⟩
  cases hP9
  obtain ⟨b1, b2, r8, hA9⟩ := hA9
  clear hT9 hC9 hE
  go_wp2_with fail
  go_ret
  exact ⟨rfl, b1, b2, r8, hA9.perm (List.perm_middle (l₁ := [_, _, _]))⟩
set_option maxHeartbeats 3200000 in
theorem cut_k (hwf : Wf (x, y, z)) (hg : Glo w0) (hm : S.m < maxLen) (hE : Env w0 (boxI l (ukC S.c x y z W C X k key to nx 0) :: LT S R) w) :
    Calls Tryz.prog 287 #[.pointer (some ⟨l, 0, none⟩), .iface 26 (.pointer (some ⟨S.p, 0, none⟩))] w fun o w' => o = .returned (.int .i64 0) ∧ ∃ G' b1 b2,
      (S.f (x, y, z) = W ∧ ∃ r, Env w0 (boxI l (ukC S.c x y z W C X k key to (cvP b1 b2) 0) :: boxI b1 [mvL 322 r] :: boxI b2 [mvE l 17] :: boxI r (rtv S.c (nxR r 0) C 0) :: LT { S with G := G', f := swf S.f (x, y, z) W (wordI false to S.ce), qc := swq S.qc true, m := S.m + 1 } R) w') ∨
      (S.f (x, y, z) ≠ W ∧ ∃ sb, Env w0 (boxI l (ukC S.c x y z W C X k key to (cvP b1 b2) 0) :: boxI b1 [mvL 132 sb] :: boxI b2 [mvL 305 l] :: boxI sb (srC S.c k key false (.pointer none)) :: LT { S with G := G', f := swf S.f (x, y, z) W (wordI false to S.ce), qc := swq S.qc false, m := S.m + 1 } R) w') := by
  have hmf := makeF
  have hah := ahead_swap
  have HWF := Lib.hid hwf
  have hqi : InU (wordI false to S.ce) := wordI_in _ _ _
  have hto := fun (v : World) (hv : Below w0.heap.size w0 v) (hb : Blk 0 v S.c (crv S.ck S.cs S.cb S.ch S.cl S.ce S.cr S.hs 0 S.q)) => to_c to 0 (hg.keep' hv) hb
  obtain ⟨q, hq⟩ : ∃ q, wordI false to S.ce = q := ⟨_, rfl⟩
  rw [hq] at hqi ⊢
  simp only [hq] at hto
  have HQI := Lib.hid hqi
  have HTO := Lib.hid hto
  clear hq hqi hto hg hwf
  obtain ⟨dd, hdd⟩ : ∃ dd, decide (S.f (x, y, z) = W) = dd := ⟨_, rfl⟩
  have HDD := Lib.hid hdd
  clear hdd
  go_enter Tryz.func287, Tryz.ntmps287
  go_wp2_with fail
  refine Ord.wp_chain [23] (fun v => Below w0.heap.size w0 v ∧ Blk 0 v l (ukC S.c x y z W C X k key to nx 0) ∧ Blk 0 v S.c (crv S.ck S.cs S.cb S.ch S.cl S.ce S.cr S.hs 0 S.q)) (fun k9 w' => ∃ G5, Env w0 (boxI l (ukC S.c x y z W C X k key to nx 0) :: LT (if k9 = 0 then S else { S with G := G5, f := swf S.f (x, y, z) W q, qc := swq S.qc dd, m := S.m + 1 }) R) w') (by kernel_rfl) (by kernel_rfl) (by kernel_rfl) ⟨hE.drew.below, hE.drew.get 0 rfl, hE.drew.get 1 rfl⟩ ⟨S.G, hE.drew⟩ (fun hT => ?_)
  have hT9 := Lib.hid hT
  clear hT
  repeat (first
    | (refine Ord.ch_value (v := ?_) hT9.out (by decide) (by rfl) ?_ ?_; rotate_left; (focus (intro w5 hS; have r := hS.2.1.rule; unfold ukC at r; go_simp <;> with_reducible rfl)); (try simp only [Act.put, List.setIfInBounds_toArray, List.set_cons_zero, List.set_cons_succ]))
    | (refine Ord.ch_off hT9.out (by decide) (by rfl) ?_; (try simp only [Act.put, List.setIfInBounds_toArray, List.set_cons_zero, List.set_cons_succ]))
    | (refine Ord.ch_call (v := ?_) (f := ?_) (args := ?_) hT9.out (by decide) (by rfl) ?_ ?_ ?_; rotate_left 3; (focus (intro w5 hS; have r := hS.2.1.rule; unfold ukC at r; go_simp; constructor <;> with_reducible rfl)); (focus (intro w5 hS; (first | (with_reducible refine (HTO.out _ hS.1 hS.2.2).mono ?_; rintro e w6 ⟨rfl, hb6⟩; constructor; with_reducible rfl; exact ⟨⟨hS.1.trans (hb6.mono hS.1.size), hS.2.1.under hb6, hS.2.2.under hb6⟩, fun k h => h.elim fun G5 h => ⟨G5, h.over hb6⟩⟩)))); (try simp only [Act.put, List.setIfInBounds_toArray, List.set_cons_zero, List.set_cons_succ])))
  refine Ord.ch_turn (v := .bool dd) 0 hT9.out rfl (by decide) (Or.inl rfl) (by rfl) ?_ ?_
  · rintro w5 hC5 ⟨G5, hA5⟩
    simp only [if_true] at hA5
    go_simp
    rw [method_swap]
    simp only [Result.andThen_ok]
    go_simp
    simp only [Ord.LandsIn]
    have hsw := swap_w x y z 0 W 0 q 0 false false HWF.out HQI.out hm 3 4 (by decide) hA5 rfl rfl
    rw [HDD.out] at hsw
    refine hsw.mono ?_
    rintro e w6 ⟨rfl, G6, hE6⟩
    exact ⟨rfl, ⟨hE6.below, hE6.get 0 rfl, hE6.get 1 rfl⟩, G6, hE6⟩
  (try simp only [Act.put, List.setIfInBounds_toArray, List.set_cons_zero, List.set_cons_succ])
  repeat (first
    | (refine Ord.ch_value (v := ?_) hT9.out (by decide) (by rfl) ?_ ?_; rotate_left; (focus (intro w5 hS; skip; go_simp <;> with_reducible rfl)); (try simp only [Act.put, List.setIfInBounds_toArray, List.set_cons_zero, List.set_cons_succ]))
    | (refine Ord.ch_off hT9.out (by decide) (by rfl) ?_; (try simp only [Act.put, List.setIfInBounds_toArray, List.set_cons_zero, List.set_cons_succ])))
  refine Ord.InText.nil fun w5 hS => ?_
  clear hT9
  obtain ⟨hC9, hA9⟩ := Ord.chain_end hS
  clear hS
  obtain ⟨G9, hA9⟩ := hA9
  simp only [List.length_cons, List.length_nil, Nat.zero_add, Nat.one_ne_zero, if_false] at hA9
  clear hC9 hE HTO
  cases dd
  · have hne : S.f (x, y, z) ≠ W := by simpa using HDD.out
    have HNE := Lib.hid hne
    clear hne HDD
    obtain ⟨S2, hS2⟩ : ∃ S2 : ST, { S with G := G9, f := swf S.f (x, y, z) W q, qc := swq S.qc false, m := S.m + 1 } = S2 := ⟨_, rfl⟩
    have hc2 : S2.c = S.c := by rw [← hS2]
    rw [hS2] at hA9
    have HS2 := Lib.hid hS2
    obtain ⟨L2, hL2⟩ : ∃ L2, LT S2 R = L2 := ⟨_, rfl⟩
    rw [hL2] at hA9
    have HL2 := Lib.hid hL2
    clear hS2 hc2 hL2
    go_wp2_with fail
    refine Ord3.wp_chain [?_, ?_, ?_, ?_, ?_, ?_, ?_, ?_, ?_, ?_, ?_, ?_, ?_, ?_, ?_, ?_, ?_, ?_, ?_, ?_, ?_] [15, 16, 19] (fun w' => ∃ nx9, Blk 0 w' l (ukC S.c x y z W C X k key to nx9 0)) (Ord3.Stage fun κs => [Env w0 (boxI l (ukC S.c x y z W C X k key to nx 0) :: L2), fun w' => ∃ r, κs.getD 0 undef = .pointer (some ⟨r, 0, none⟩) ∧ Env w0 (boxI r (srC S.c k key false (.pointer none)) :: boxI l (ukC S.c x y z W C X k key to nx 0) :: L2) w', fun w' => ∃ r, κs.getD 1 undef = mvL 132 r ∧ Env w0 (boxI r (srC S.c k key false (.pointer none)) :: boxI l (ukC S.c x y z W C X k key to nx 0) :: L2) w', fun w' => ∃ b1 b2 r, Env w0 (boxI b1 [mvL 132 r] :: boxI b2 [mvL 305 l] :: boxI r (srC S.c k key false (.pointer none)) :: boxI l (ukC S.c x y z W C X k key to (cvP b1 b2) 0) :: L2) w']) (by kernel_rfl) (by kernel_rfl) (by kernel_rfl) ⟨nx, hA9.drew.get 0 rfl⟩ ⟨_, rfl, hA9.drew⟩ (fun hT => ?_)
    rotate_left 21
    have hT9 := Lib.hid hT
    clear hT
    repeat (first
      | (focus (refine Ord3.in_value (v := ?_) hT9.out (by decide) ?_ (by rfl) ?_ ?_; rotate_left 2; (focus (intro w5 hS; obtain ⟨nx9, hS9⟩ := hS; have r1 := Blk.rule hS9; unfold ukC at r1; go_simp <;> with_reducible rfl)); rotate_right; (focus rfl); (try simp only [Act.put, List.setIfInBounds_toArray, List.set_cons_zero, List.set_cons_succ])))
      | (focus (refine Ord3.in_off hT9.out (by decide) ?_ (by rfl) ?_; (focus rfl); (try simp only [Act.put, List.setIfInBounds_toArray, List.set_cons_zero, List.set_cons_succ]))))
    refine Ord3.in_turn (fun u => ∃ q, u = .pointer (some ⟨q, 0, none⟩)) _ ⟨0, rfl⟩ hT9.out rfl (by decide) (by rfl) ?_ (Or.inl rfl) (by rfl) ?_ ?_
    · rfl
    · rintro w7 hC7 ⟨P7, hP7, hA7⟩
      cases hP7
      go_simp
      simp only [Ord3.Lands]
      refine (newSearch_l S.c k key false hA7).mono ?_
      rintro o w8 ⟨r8, rfl, hE8⟩
      exact ⟨_, rfl, ⟨r8, rfl⟩, ⟨nx, hE8.get 1 rfl⟩, _, rfl, r8, rfl, hE8⟩
    rintro _ ⟨r9, rfl⟩
    (try simp only [Act.put, List.setIfInBounds_toArray, List.set_cons_zero, List.set_cons_succ])
    refine Ord3.in_turn (fun u => ∃ q, u = mvL 132 q) _ ⟨0, rfl⟩ hT9.out rfl (by decide) (by rfl) ?_ (Or.inr ⟨_, 15, [], rfl, by kernel_rfl, by kernel_rfl, rfl⟩) (by rfl) ?_ ?_
    · rfl
    · rintro w7 hC7 ⟨P7, hP7, hA7⟩
      cases hP7
      obtain ⟨r8, he, hA7⟩ := hA7
      cases he
      go_simp
      simp only [Ord3.Lands]
      exact ⟨⟨_, rfl⟩, hC7, _, rfl, r9, rfl, hA7⟩
    rintro _ ⟨r9, rfl⟩
    (try simp only [Act.put, List.setIfInBounds_toArray, List.set_cons_zero, List.set_cons_succ])
    repeat (first
      | (focus (refine Ord3.in_value (v := ?_) hT9.out (by decide) ?_ (by rfl) ?_ ?_; rotate_left 2; (focus (intro w5 hS; obtain ⟨nx9, hS9⟩ := hS; have r1 := Blk.rule hS9; unfold ukC at r1; go_simp <;> with_reducible rfl)); rotate_right; (focus rfl); (try simp only [Act.put, List.setIfInBounds_toArray, List.set_cons_zero, List.set_cons_succ])))
      | (focus (refine Ord3.in_off hT9.out (by decide) ?_ (by rfl) ?_; (focus rfl); (try simp only [Act.put, List.setIfInBounds_toArray, List.set_cons_zero, List.set_cons_succ]))))
    refine Ord3.in_turn (fun u => u = .int .i64 0) _ rfl hT9.out rfl (by decide) (by rfl) ?_ (Or.inr ⟨_, 16, [], rfl, by kernel_rfl, by kernel_rfl, rfl⟩) (by rfl) ?_ ?_
    · rfl
    · rintro w7 hC7 ⟨P7, hP7, hA7⟩
      cases hP7
      obtain ⟨r8, he, hA7⟩ := hA7
      cases he
      go_simp
      simp only [Ord3.Lands]
      refine (play_r (o := 17) 1 _ _ _ _ _ _ (by simp [ukC]) hA7 rfl).mono ?_
      rintro o w8 ⟨rfl, b1, b2, hE8⟩
      exact ⟨_, rfl, rfl, ⟨_, hE8.get 3 rfl⟩, _, rfl, b1, b2, r9, hE8⟩
    rintro _ rfl
    (try simp only [Act.put, List.setIfInBounds_toArray, List.set_cons_zero, List.set_cons_succ])
    repeat (first
      | (focus (refine Ord3.in_value (v := ?_) hT9.out (by decide) ?_ (by rfl) ?_ ?_; rotate_left 2; (focus (intro w5 hS; skip; go_simp <;> with_reducible rfl)); rotate_right; (focus rfl); (try simp only [Act.put, List.setIfInBounds_toArray, List.set_cons_zero, List.set_cons_succ])))
      | (focus (refine Ord3.in_off hT9.out (by decide) ?_ (by rfl) ?_; (focus rfl); (try simp only [Act.put, List.setIfInBounds_toArray, List.set_cons_zero, List.set_cons_succ]))))
    refine Ord3.in_nil rfl ?_
    rintro w9 hC9 ⟨P9, hP9, hA9⟩
    cases hP9
    obtain ⟨b1, b2, r8, hA9⟩ := hA9
    clear hT9 hC9
    go_wp2_with fail
    go_ret
    have h3 := HL2.out
    subst h3
    have h2 := HS2.out
    subst h2
    exact ⟨rfl, G9, b1, b2, .inr ⟨HNE.out, r8, hA9.perm (List.perm_middle (l₁ := [_, _, _]))⟩⟩
  · have hne : S.f (x, y, z) = W := by simpa using HDD.out
    have HNE := Lib.hid hne
    clear hne HDD
    go_wp2_with fail
    refine (retire_k 1 hA9).mono ?_
    rintro o w7 ⟨rfl, b1, b2, r8, hE7⟩
    go_wp2_with fail
    go_ret
    exact ⟨rfl, G9, b1, b2, .inl ⟨HNE.out, r8, hE7⟩⟩
end
end Go.Proofs.YtdknbegcflldjaaGreatDoor

/- Lanes and searches: New, NewSearch, what they tell; the checkpoint; Step of a search over the model. -/
namespace Go.Proofs.YtdknbegcflldjaaGreatDoor
open Go.RowKit Go.Maps
set_option maxRecDepth 100000

section
variable {w : World} {a c : Nat} {lv key : Int} {vs : Bool} {nx : Value} {st x y z W C X wd : Int} {pf : Bool} {pv : Int}
theorem val_g (hb : Blk 0 w a (laneC c lv key vs nx st x y z W C X wd pf pv)) : Calls Tryz.prog 209 #[.pointer (some ⟨a, 0, none⟩)] w fun o w' => o = .returned (.int .u64 pv) ∧ w' = w := by
  have r1 := hb.rule
  unfold laneC at r1
  go_enter Tryz.func209, Tryz.ntmps209
  go_wp2
  go_ret
  exact ⟨rfl, rfl⟩
end
end Go.Proofs.YtdknbegcflldjaaGreatDoor

/- Hash maps: what an op does behind its search. -/
namespace Go.Proofs.YtdknbegcflldjaaGreatDoor
open Go.RowKit Go.Maps
set_option maxRecDepth 100000

section
variable {w0 w : World} {L R : List Item} {o sb a c : Nat} {S : ST} {kd key val lv rt : Int} {nx lnx sp : Value} {er st st9 x y z W C X wd vl pv : Int} {dn pf : Bool}
/-- A thing from the front to behind a thread's things. -/
theorem Env.sbackT {b : Item} (h : Env w0 (b :: LT S R) w) : Env w0 (LT S (b :: R)) w := h.perm (List.perm_middle (l₁ := [_, _, _, _])).symm
theorem lane_b {k : Int} {vs : Bool} {la : Option Addr} (h1 : Blk 0 w o (opT c kd key val lv rt nx st (.pointer (some ⟨sb, 0, none⟩)) er dn vl)) (h2 : Blk 0 w sb (srC c k key vs (.pointer la))) :
    Calls Tryz.prog 170 #[.pointer (some ⟨o, 0, none⟩)] w fun r w' => r = .returned (.pointer la) ∧ w' = w := by
  have r : ∀ j, w.cell? ⟨o, j, none⟩ = (opT c kd key val lv rt nx st (.pointer (some ⟨sb, 0, none⟩)) er dn vl)[j]? := Blk.rule h1
  unfold opT at r
  go_enter Tryz.func170, Tryz.ntmps170
  go_wp2_with fail
  refine (lane_g h2).mono ?_
  rintro e w1 ⟨rfl, rfl⟩
  go_wp2_with fail
  go_ret
  exact ⟨rfl, rfl⟩
theorem lane_t {k : Int} {vs : Bool} {la : Option Addr} (hE : Env w0 (boxI o (opT c kd key val lv rt nx st (.pointer (some ⟨sb, 0, none⟩)) er dn vl) :: boxI sb (srC c k key vs (.pointer la)) :: L) w) :
    Calls Tryz.prog 170 #[.pointer (some ⟨o, 0, none⟩)] w fun r w' => r = .returned (.pointer la) ∧ w' = w := by
  have r := hE.rule 0 rfl
  unfold opT at r
  go_enter Tryz.func170, Tryz.ntmps170
  go_wp2_with fail
  refine (lane_g (hE.get 1 rfl)).mono ?_
  rintro e w1 ⟨rfl, rfl⟩
  go_wp2_with fail
  go_ret
  exact ⟨rfl, rfl⟩
theorem holds_t (hE : Env w0 (boxI o (opT S.c kd key val lv rt nx st sp er dn vl) :: LT S R) w) :
    Calls Tryz.prog 210 #[.pointer (some ⟨o, 0, none⟩)] w fun r w' => r = .returned (.bool (S.hs != 0)) ∧ Below w.heap.size w w' := by
  have r := hE.rule 0 rfl
  unfold opT at r
  go_enter Tryz.func210, Tryz.ntmps210
  go_wp2_with fail
  refine (held_c (hE.get 1 rfl)).mono ?_
  rintro e w2 ⟨rfl, hb1⟩
  go_wp2_with fail
  go_ret
  exact ⟨rfl, hb1.alloc hb1.size _⟩
set_option maxHeartbeats 3200000 in
theorem takeLate_t (hh : S.hs = 0) (hd : decP S.ql S.ce S.cl = 0) (hE : Env w0 (boxI o (opT S.c kd key val lv rt nx 0 (.pointer (some ⟨sb, 0, none⟩)) er dn vl) :: LT S R) w) :
    Calls Tryz.prog 211 #[.pointer (some ⟨o, 0, none⟩)] w fun r w' => r = .returned (.int .i64 1) ∧ Env w0 (boxI o (opT S.c kd key val lv rt nx 1 (.pointer (some ⟨sb, 0, none⟩)) 7 false 0) :: LT S R) w' := by
  have hmf := makeF
  have HH := Lib.hid hh
  have HD := Lib.hid hd
  clear hh hd
  go_enter Tryz.func211, Tryz.ntmps211
  go_wp2_with fail
  refine Ord.wp_chain [16] (OpAny S.c kd key val lv rt o (.pointer (some ⟨sb, 0, none⟩))) (Stage [Env w0 (boxI o (opT S.c kd key val lv rt nx 0 (.pointer (some ⟨sb, 0, none⟩)) er dn vl) :: LT S R), Env w0 (boxI o (opT S.c kd key val lv rt nx 1 (.pointer (some ⟨sb, 0, none⟩)) 7 false 0) :: LT S R)]) (by kernel_rfl) (by kernel_rfl) (by kernel_rfl) ⟨nx, 0, er, dn, vl, hE.drew.get 0 rfl⟩ ⟨_, rfl, hE.drew⟩ (fun hT => ?_)
  have hT9 := Lib.hid hT
  clear hT
  repeat (first
    | (refine Ord.ch_value (v := ?_) hT9.out (by decide) (by rfl) ?_ ?_; rotate_left; (focus (intro w5 hS; obtain ⟨nx9, st9, er9, dn9, vl9, hS9⟩ := hS; have r := Blk.rule hS9; unfold opT at r; go_simp <;> with_reducible rfl)); (try simp only [Act.put, List.setIfInBounds_toArray, List.set_cons_zero, List.set_cons_succ]))
    | (refine Ord.ch_off hT9.out (by decide) (by rfl) ?_; (try simp only [Act.put, List.setIfInBounds_toArray, List.set_cons_zero, List.set_cons_succ])))
  refine Ord.ch_turn (v := .int .i64 1) 0 hT9.out rfl (by decide) (Or.inl rfl) (by rfl) ?_ ?_
  · rintro w5 hC5 ⟨P5, hP5, hA5⟩
    cases hP5
    go_simp
    simp only [Ord.LandsIn]
    refine (slotLate_n (S := S) (R := boxI o (opT S.c kd key val lv rt nx 0 (.pointer (some ⟨sb, 0, none⟩)) er dn vl) :: R) (kd := kd) (key := key) (val := val) (lv := lv) (o := o) (ro := 6) (FF := 84) (OV := 208) (fun _ _ => by kernel_rfl) HH.out HD.out (fun s2 v => s2 = 1 ∧ Env w0 (boxI o (opT S.c kd key val lv rt nx 1 (.pointer (some ⟨sb, 0, none⟩)) 7 false 0) :: LT S R) v) hA5.sbackT fun v hv => (over_t 7 false 0 hv.sfront).mono ?_).mono ?_
    · rintro e w6 ⟨rfl, hE6⟩
      exact ⟨1, rfl, rfl, hE6⟩
    · rintro e w6 ⟨s2, rfl, rfl, hE6⟩
      exact ⟨rfl, ⟨_, _, _, _, _, hE6.get 0 rfl⟩, _, rfl, hE6⟩
  (try simp only [Act.put, List.setIfInBounds_toArray, List.set_cons_zero, List.set_cons_succ])
  repeat (first
    | (refine Ord.ch_value (v := ?_) hT9.out (by decide) (by rfl) ?_ ?_; rotate_left; (focus (intro w5 hS; skip; go_simp <;> with_reducible rfl)); (try simp only [Act.put, List.setIfInBounds_toArray, List.set_cons_zero, List.set_cons_succ]))
    | (refine Ord.ch_off hT9.out (by decide) (by rfl) ?_; (try simp only [Act.put, List.setIfInBounds_toArray, List.set_cons_zero, List.set_cons_succ])))
  refine Ord.InText.nil fun w5 hS => ?_
  clear hT9
  obtain ⟨hC9, hA9⟩ := Ord.chain_end hS
  clear hS
  obtain ⟨P9, hP9, hA9⟩ := hA9
  cases hP9
  clear hC9 hE
  go_wp2_with fail
  go_ret
  exact ⟨rfl, hA9⟩
set_option maxHeartbeats 3200000 in
theorem takeAlloc_t (hh : S.hs = 0) (hd : decP S.ql S.ce S.cl ≠ 0) (hE : Env w0 (boxI o (opT S.c kd key val lv rt nx 0 (.pointer (some ⟨sb, 0, none⟩)) er dn vl) :: LT S R) w) :
    Calls Tryz.prog 211 #[.pointer (some ⟨o, 0, none⟩)] w fun r w' => r = .returned (.int .i64 0) ∧ ∃ b1 b2 l, Env w0 (boxI o (opT S.c kd key val lv rt (cvP b1 b2) 0 (.pointer (some ⟨sb, 0, none⟩)) er dn vl) :: boxI b1 [mvL 251 l] :: boxI b2 [cmV S.c kd key val lv o 6 84 208] :: boxI l (av S.c { nx := nxA l (decP S.ql S.ce S.cl), left := .slice none 0 0, k := kd, key := key, val := val, lv := lv, h := 0, n := 0, r := 0, s := 0 }) :: LT S R) w' := by
  have hmf := makeF
  have HH := Lib.hid hh
  have HD := Lib.hid hd
  clear hh hd
  go_enter Tryz.func211, Tryz.ntmps211
  go_wp2_with fail
  refine Ord.wp_chain [16] (OpAny S.c kd key val lv rt o (.pointer (some ⟨sb, 0, none⟩))) (Stage [Env w0 (boxI o (opT S.c kd key val lv rt nx 0 (.pointer (some ⟨sb, 0, none⟩)) er dn vl) :: LT S R), fun v => ∃ b1 b2 l, Env w0 (boxI o (opT S.c kd key val lv rt (cvP b1 b2) 0 (.pointer (some ⟨sb, 0, none⟩)) er dn vl) :: boxI b1 [mvL 251 l] :: boxI b2 [cmV S.c kd key val lv o 6 84 208] :: boxI l (av S.c { nx := nxA l (decP S.ql S.ce S.cl), left := .slice none 0 0, k := kd, key := key, val := val, lv := lv, h := 0, n := 0, r := 0, s := 0 }) :: LT S R) v]) (by kernel_rfl) (by kernel_rfl) (by kernel_rfl) ⟨nx, 0, er, dn, vl, hE.drew.get 0 rfl⟩ ⟨_, rfl, hE.drew⟩ (fun hT => ?_)
  have hT9 := Lib.hid hT
  clear hT
  repeat (first
    | (refine Ord.ch_value (v := ?_) hT9.out (by decide) (by rfl) ?_ ?_; rotate_left; (focus (intro w5 hS; obtain ⟨nx9, st9, er9, dn9, vl9, hS9⟩ := hS; have r := Blk.rule hS9; unfold opT at r; go_simp <;> with_reducible rfl)); (try simp only [Act.put, List.setIfInBounds_toArray, List.set_cons_zero, List.set_cons_succ]))
    | (refine Ord.ch_off hT9.out (by decide) (by rfl) ?_; (try simp only [Act.put, List.setIfInBounds_toArray, List.set_cons_zero, List.set_cons_succ])))
  refine Ord.ch_turn (v := .int .i64 0) 0 hT9.out rfl (by decide) (Or.inl rfl) (by rfl) ?_ ?_
  · rintro w5 hC5 ⟨P5, hP5, hA5⟩
    cases hP5
    go_simp
    simp only [Ord.LandsIn]
    refine (slotAlloc_n (S := S) (R := boxI o (opT S.c kd key val lv rt nx 0 (.pointer (some ⟨sb, 0, none⟩)) er dn vl) :: R) (kd := kd) (key := key) (val := val) (lv := lv) (o := o) (ro := 6) (FF := 84) (OV := 208) (m := 0) rfl (by simp [opT]) HH.out HD.out hA5.sbackT).mono ?_
    rintro e w6 ⟨rfl, b1, b2, l, hE6⟩
    have hE7 : Env w0 (boxI o (opT S.c kd key val lv rt (cvP b1 b2) 0 (.pointer (some ⟨sb, 0, none⟩)) er dn vl) :: boxI b1 [mvL 251 l] :: boxI b2 [cmV S.c kd key val lv o 6 84 208] :: boxI l (av S.c { nx := nxA l (decP S.ql S.ce S.cl), left := .slice none 0 0, k := kd, key := key, val := val, lv := lv, h := 0, n := 0, r := 0, s := 0 }) :: LT S R) w6 := hE6.perm (List.perm_middle (l₁ := [_, _, _, _, _, _, _]))
    exact ⟨rfl, ⟨_, _, _, _, _, hE7.get 0 rfl⟩, _, rfl, b1, b2, l, hE7⟩
  (try simp only [Act.put, List.setIfInBounds_toArray, List.set_cons_zero, List.set_cons_succ])
  repeat (first
    | (refine Ord.ch_value (v := ?_) hT9.out (by decide) (by rfl) ?_ ?_; rotate_left; (focus (intro w5 hS; skip; go_simp <;> with_reducible rfl)); (try simp only [Act.put, List.setIfInBounds_toArray, List.set_cons_zero, List.set_cons_succ]))
    | (refine Ord.ch_off hT9.out (by decide) (by rfl) ?_; (try simp only [Act.put, List.setIfInBounds_toArray, List.set_cons_zero, List.set_cons_succ])))
  refine Ord.InText.nil fun w5 hS => ?_
  clear hT9
  obtain ⟨hC9, hA9⟩ := Ord.chain_end hS
  clear hS
  obtain ⟨P9, hP9, hA9⟩ := hA9
  cases hP9
  obtain ⟨b1, b2, l, hA9⟩ := hA9
  clear hC9 hE
  go_wp2_with fail
  go_ret
  exact ⟨rfl, b1, b2, l, hA9⟩
set_option maxHeartbeats 3200000 in
theorem unlink_t (to : Int) (hE : Env w0 (boxI o (opT S.c kd key val lv rt nx 0 (.pointer (some ⟨sb, 0, none⟩)) er dn vl) :: boxI sb (srC S.c rt key true (.pointer (some ⟨a, 0, none⟩))) :: boxI a (laneC S.c 0 key true lnx st x y z W C X wd pf pv) :: LT S R) w) :
    Calls Tryz.prog 204 #[.pointer (some ⟨o, 0, none⟩), .agg #[.int .i64 to, .int .i64 0]] w fun r w' => r = .returned (.int .i64 0) ∧ ∃ b1 b2 u, Env w0 (boxI o (opT S.c kd key val lv rt (cvP b1 b2) 0 (.pointer (some ⟨sb, 0, none⟩)) er dn vl) :: boxI b1 [mvL 224 u] :: boxI b2 [mvL 244 o] :: boxI u (ukC S.c x y z W C X rt key to (mvL 260 u) 0) :: boxI sb (srC S.c rt key true (.pointer (some ⟨a, 0, none⟩))) :: boxI a (laneC S.c 0 key true lnx st x y z W C X wd pf pv) :: LT S R) w' := by
  have hmf := makeF
  have hE1 := hE.box w.heap.size rfl [.int .i64 to, .int .i64 0] 136
  clear hE
  go_enter Tryz.func204, Tryz.ntmps204
  go_wp2_with fail
  generalize w.alloc _ = w1 at *
  generalize w.heap.size = Y at *
  obtain ⟨L2, hL2⟩ : ∃ L2, LT S R = L2 := ⟨_, rfl⟩
  rw [hL2] at hE1
  have HL2 := Lib.hid hL2
  clear hL2
  refine Ord3.wp_chain [?_, ?_, ?_, ?_, ?_, ?_, ?_, ?_, ?_, ?_, ?_, ?_, ?_, ?_, ?_, ?_, ?_, ?_] [16, 17] (fun v => Blk 0 v o (opT S.c kd key val lv rt nx 0 (.pointer (some ⟨sb, 0, none⟩)) er dn vl) ∧ Blk 0 v sb (srC S.c rt key true (.pointer (some ⟨a, 0, none⟩))) ∧ Blk 0 v Y [.int .i64 to, .int .i64 0]) (Ord3.Stage fun κs => [Env w0 (boxI Y [.int .i64 to, .int .i64 0] :: boxI o (opT S.c kd key val lv rt nx 0 (.pointer (some ⟨sb, 0, none⟩)) er dn vl) :: boxI sb (srC S.c rt key true (.pointer (some ⟨a, 0, none⟩))) :: boxI a (laneC S.c 0 key true lnx st x y z W C X wd pf pv) :: L2), fun v => ∃ q, κs.getD 0 undef = .pointer (some ⟨q, 0, none⟩) ∧ Env w0 (boxI q (ukC S.c x y z W C X rt key to (mvL 260 q) 0) :: boxI Y [.int .i64 to, .int .i64 0] :: boxI o (opT S.c kd key val lv rt nx 0 (.pointer (some ⟨sb, 0, none⟩)) er dn vl) :: boxI sb (srC S.c rt key true (.pointer (some ⟨a, 0, none⟩))) :: boxI a (laneC S.c 0 key true lnx st x y z W C X wd pf pv) :: L2) v, fun v => ∃ q, κs.getD 1 undef = .pointer (some ⟨q, 0, none⟩) ∧ Env w0 (boxI q (ukC S.c x y z W C X rt key to (mvL 260 q) 0) :: boxI Y [.int .i64 to, .int .i64 0] :: boxI o (opT S.c kd key val lv rt nx 0 (.pointer (some ⟨sb, 0, none⟩)) er dn vl) :: boxI sb (srC S.c rt key true (.pointer (some ⟨a, 0, none⟩))) :: boxI a (laneC S.c 0 key true lnx st x y z W C X wd pf pv) :: L2) v]) (by kernel_rfl) (by kernel_rfl) (by kernel_rfl) ⟨hE1.drew.get 1 rfl, hE1.drew.get 2 rfl, hE1.drew.get 0 rfl⟩ ⟨_, rfl, hE1.drew⟩ (fun hT => ?_)
  rotate_left 18
  have hT9 := Lib.hid hT
  clear hT
  repeat (first
    | (focus (refine Ord3.in_value (v := ?_) hT9.out (by decide) ?_ (by rfl) ?_ ?_; rotate_left 2; (focus (intro w5 hS; have r1 := Blk.rule hS.1; unfold opT at r1; have r2 := Blk.rule hS.2.2; go_simp <;> with_reducible rfl)); rotate_right; (focus rfl); (try simp only [Act.put, List.setIfInBounds_toArray, List.set_cons_zero, List.set_cons_succ])))
    | (focus (refine Ord3.in_off hT9.out (by decide) ?_ (by rfl) ?_; (focus rfl); (try simp only [Act.put, List.setIfInBounds_toArray, List.set_cons_zero, List.set_cons_succ])))
    | (focus (refine Ord3.in_call (v := ?_) (f := ?_) (args := ?_) hT9.out (by decide) ?_ (by rfl) ?_ ?_ ?_; rotate_left 4; (focus (intro w5 hS; have r1 := Blk.rule hS.1; unfold opT at r1; have r2 := Blk.rule hS.2.2; go_simp; constructor <;> with_reducible rfl)); (focus (intro w5 hS; (first | (with_reducible refine (lane_b hS.1 hS.2.1).mono ?_; rintro e w6 ⟨rfl, rfl⟩; constructor; with_reducible rfl; exact ⟨hS, fun us h => h⟩)))); rotate_right; (focus rfl); (try simp only [Act.put, List.setIfInBounds_toArray, List.set_cons_zero, List.set_cons_succ]))))
  refine Ord3.in_turn (fun u => ∃ q, u = .pointer (some ⟨q, 0, none⟩)) _ ⟨0, rfl⟩ hT9.out rfl (by decide) (by rfl) ?_ (Or.inl rfl) (by rfl) ?_ ?_
  · rfl
  · rintro w7 hC7 ⟨P7, hP7, hA7⟩
    cases hP7
    go_simp
    simp only [Ord3.Lands]
    refine (newUnlink_k rt key to 3 rfl hA7).mono ?_
    rintro o8 w8 ⟨r8, rfl, hE8⟩
    exact ⟨_, rfl, ⟨r8, rfl⟩, ⟨hE8.get 2 rfl, hE8.get 3 rfl, hE8.get 1 rfl⟩, _, rfl, r8, rfl, hE8⟩
  rintro _ ⟨q9, rfl⟩
  (try simp only [Act.put, List.setIfInBounds_toArray, List.set_cons_zero, List.set_cons_succ])
  refine Ord3.in_turn (fun u => ∃ q, u = .pointer (some ⟨q, 0, none⟩)) _ ⟨0, rfl⟩ hT9.out rfl (by decide) (by rfl) ?_ (Or.inr ⟨_, 16, [], rfl, by kernel_rfl, by kernel_rfl, rfl⟩) (by rfl) ?_ ?_
  · rfl
  · rintro w7 hC7 ⟨P7, hP7, hA7⟩
    cases hP7
    obtain ⟨q8, he, hA7⟩ := hA7
    cases he
    go_simp
    simp only [Ord3.Lands]
    exact ⟨⟨_, rfl⟩, hC7, _, rfl, q9, rfl, hA7⟩
  rintro _ ⟨q9, rfl⟩
  (try simp only [Act.put, List.setIfInBounds_toArray, List.set_cons_zero, List.set_cons_succ])
  refine Ord3.in_nil rfl ?_
  rintro w9 hC9 ⟨P9, hP9, hA9⟩
  cases hP9
  obtain ⟨q8, he, hA9⟩ := hA9
  cases he
  clear hT9 hC9 hE1
  have r0 := hA9.rule 2 rfl
  unfold opT at r0
  go_wp2_with fail
  refine (play_r (o := 6) 2 _ _ _ _ _ _ (by simp [opT]) hA9 rfl).mono ?_
  rintro o8 w8 ⟨rfl, b1, b2, hE8⟩
  go_wp2_with fail
  go_ret
  refine ⟨rfl, b1, b2, q9, ?_⟩
  rw [← HL2.out] at hE8
  have h9 := hE8.sub (L' := boxI b1 [mvL 224 q9] :: boxI b2 [mvL 244 o] :: boxI q9 (ukC S.c x y z W C X rt key to (mvL 260 q9) 0) :: boxI o (opT S.c kd key val lv rt (cvP b1 b2) 0 (.pointer (some ⟨sb, 0, none⟩)) er dn vl) :: boxI sb (srC S.c rt key true (.pointer (some ⟨a, 0, none⟩))) :: boxI a (laneC S.c 0 key true lnx st x y z W C X wd pf pv) :: LT S R) (.cons_cons _ (.cons_cons _ (.cons_cons _ (.cons _ (List.Sublist.refl _)))))
  exact h9.perm (List.perm_middle (l₁ := [_, _, _]))
set_option maxHeartbeats 3200000 in
theorem foundRem_t (hX : InU X) (hg : Glo w0) (hE : Env w0 (boxI o (opT S.c 6 key val lv rt nx 0 (.pointer (some ⟨sb, 0, none⟩)) er dn vl) :: boxI sb (srC S.c rt key true (.pointer (some ⟨a, 0, none⟩))) :: boxI a (laneC S.c 0 key true lnx st x y z W C X wd pf pv) :: LT S R) w) :
    Calls Tryz.prog 172 #[.pointer (some ⟨o, 0, none⟩)] w fun r w' => r = .returned (.int .i64 0) ∧ ∃ b1 b2 u, Env w0 (boxI o (opT S.c 6 key val lv rt (cvP b1 b2) 0 (.pointer (some ⟨sb, 0, none⟩)) er dn vl) :: boxI b1 [mvL 224 u] :: boxI b2 [mvL 244 o] :: boxI u (ukC S.c x y z W C X rt key (slotI X) (mvL 260 u) 0) :: boxI sb (srC S.c rt key true (.pointer (some ⟨a, 0, none⟩))) :: boxI a (laneC S.c 0 key true lnx st x y z W C X wd pf pv) :: LT S R) w' := by
  have HLE := Lib.hid fun (v : World) (hv : Below w0.heap.size w0 v) => lead_c X 0 false v hX (hg.keep' hv)
  have r := hE.rule 0 rfl
  unfold opT at r
  clear hX hg
  go_enter Tryz.func172, Tryz.ntmps172
  go_wp2_with fail
  refine (lane_t hE).mono ?_
  rintro e w1 ⟨rfl, rfl⟩
  go_wp2_with fail
  refine (out_g (hE.get 2 rfl)).mono ?_
  rintro e w2 ⟨rfl, hb⟩
  replace hE := hE.over hb
  clear hb r
  go_wp2_with fail
  refine (HLE.out _ hE.below).mono ?_
  rintro e w3 ⟨rfl, hb⟩
  replace hE := hE.over hb
  clear hb
  go_wp2_with fail
  refine (unlink_t (slotI X) hE).mono ?_
  rintro e w4 ⟨rfl, b1, b2, u, hE2⟩
  go_wp2_with fail
  go_ret
  exact ⟨rfl, b1, b2, u, hE2⟩
set_option maxHeartbeats 3200000 in
theorem foundGet_t (hk4 : kd ≠ 4) (hk5 : kd ≠ 5) (hk6 : kd ≠ 6) (hE : Env w0 (boxI o (opT S.c kd key val lv rt nx 0 (.pointer (some ⟨sb, 0, none⟩)) er dn vl) :: boxI sb (srC S.c rt key true (.pointer (some ⟨a, 0, none⟩))) :: boxI a (laneC S.c 0 key true lnx st x y z W C X wd pf pv) :: LT S R) w) :
    Calls Tryz.prog 172 #[.pointer (some ⟨o, 0, none⟩)] w fun r w' => r = .returned (.int .i64 1) ∧ Env w0 (boxI o (opT S.c kd key val lv rt nx 1 (.pointer (some ⟨sb, 0, none⟩)) 0 true pv) :: LT S R) w' := by
  have h4 : (kd == 4) = false := by simpa using hk4
  have h5 : (kd == 5) = false := by simpa using hk5
  have h6 : (kd == 6) = false := by simpa using hk6
  have r := hE.rule 0 rfl
  unfold opT at r
  clear hk4 hk5 hk6
  go_enter Tryz.func172, Tryz.ntmps172
  go_wp2_with fail
  refine (lane_t hE).mono ?_
  rintro e w1 ⟨rfl, rfl⟩
  go_wp2_with fail
  refine (val_g (hE.get 2 rfl)).mono ?_
  rintro e w2 ⟨rfl, rfl⟩
  go_wp2_with fail
  refine (over_t 0 true pv hE).mono ?_
  rintro e w3 ⟨rfl, hE2⟩
  go_wp2_with fail
  go_ret
  exact ⟨rfl, hE2.sub (.cons_cons _ (.cons _ (.cons _ (List.Sublist.refl _))))⟩
set_option maxHeartbeats 3200000 in
theorem foundAdd_t (hl : S.ql.length + 1 ≤ 1048576) (hE : Env w0 (boxI o (opT S.c 5 key val lv rt nx 0 (.pointer (some ⟨sb, 0, none⟩)) er dn vl) :: boxI sb (srC S.c rt key true (.pointer (some ⟨a, 0, none⟩))) :: boxI a (laneC S.c 0 key true lnx st x y z W C X wd pf pv) :: LT S R) w) :
    Calls Tryz.prog 172 #[.pointer (some ⟨o, 0, none⟩)] w fun r w' => r = .returned (.int .i64 1) ∧ ∃ F' k', Env w0 (boxI o (opT S.c 5 key val lv rt nx 1 (.pointer (some ⟨sb, 0, none⟩)) 0 false pv) :: LT { S with ql := dropQ S.hs S.ql, hs := 0, F := F', kq := k' } R) w' := by
  have r := hE.rule 0 rfl
  unfold opT at r
  by_cases hh : S.hs = 0
  · have HH := Lib.hid hh
    clear hh
    go_enter Tryz.func172, Tryz.ntmps172
    go_wp2_with fail
    refine (dropNo_c HH.out (hE.get 3 rfl)).mono ?_
    rintro e w1 ⟨rfl, hb1⟩
    replace hE := hE.over hb1
    clear hb1 r
    go_wp2_with fail
    refine (lane_t hE).mono ?_
    rintro e w2 ⟨rfl, rfl⟩
    go_wp2_with fail
    refine (val_g (hE.get 2 rfl)).mono ?_
    rintro e w3 ⟨rfl, rfl⟩
    go_wp2_with fail
    refine (over_t 0 false pv hE).mono ?_
    rintro e w4 ⟨rfl, hE2⟩
    go_wp2_with fail
    go_ret
    have hh := HH.out
    rw [show dropQ S.hs S.ql = S.ql from if_pos hh]
    have h9 := hE2.sub (L' := boxI o (opT S.c 5 key val lv rt nx 1 (.pointer (some ⟨sb, 0, none⟩)) 0 false pv) :: LT S R) (.cons_cons _ (.cons _ (.cons _ (List.Sublist.refl _))))
    have hS0 : ({ S with hs := 0 } : ST) = S := by rw [← hh]
    rw [← hS0] at h9
    exact ⟨rfl, S.F, S.kq, h9⟩
  · have HH := Lib.hid hh
    have HL := Lib.hid hl
    clear hh hl
    go_enter Tryz.func172, Tryz.ntmps172
    go_wp2_with fail
    refine (dropYes_c HH.out 3 4 (by decide) hE rfl rfl HL.out).mono ?_
    rintro e w1 ⟨rfl, k', F', -, hE1⟩
    simp only [List.set_cons_zero, List.set_cons_succ] at hE1
    clear hE r
    go_wp2_with fail
    refine (lane_t hE1).mono ?_
    rintro e w2 ⟨rfl, rfl⟩
    go_wp2_with fail
    refine (val_g (hE1.get 2 rfl)).mono ?_
    rintro e w3 ⟨rfl, rfl⟩
    go_wp2_with fail
    refine (over_t 0 false pv hE1).mono ?_
    rintro e w4 ⟨rfl, hE2⟩
    go_wp2_with fail
    go_ret
    rw [show dropQ S.hs S.ql = S.ql ++ [(S.hs, 0, 0)] from if_neg HH.out]
    exact ⟨rfl, F', k', hE2.sub (.cons_cons _ (.cons _ (.cons _ (List.Sublist.refl _))))⟩
end
end Go.Proofs.YtdknbegcflldjaaGreatDoor

/- Hash maps: what an op does behind its search, in full. -/
namespace Go.Proofs.YtdknbegcflldjaaGreatDoor
open Go.RowKit Go.Maps
set_option maxRecDepth 100000

section
variable {w0 w : World} {L R : List Item} {o sb a c : Nat} {S : ST} {kd key val lv rt : Int} {nx lnx sp : Value} {er st st9 x y z W C X wd vl pv : Int} {dn pf : Bool}
set_option maxHeartbeats 3200000 in
theorem replaceLate_t (hh : S.hs = 0) (hd : decP S.ql S.ce S.cl = 0) (hE : Env w0 (boxI o (opT S.c 4 key val lv rt nx 0 (.pointer (some ⟨sb, 0, none⟩)) er dn vl) :: boxI sb (srC S.c rt key true (.pointer (some ⟨a, 0, none⟩))) :: boxI a (laneC S.c 0 key true lnx st x y z W C X wd pf pv) :: LT S R) w) :
    Calls Tryz.prog 203 #[.pointer (some ⟨o, 0, none⟩)] w fun r w' => r = .returned (.int .i64 1) ∧ Env w0 (boxI o (opT S.c 4 key val lv rt nx 1 (.pointer (some ⟨sb, 0, none⟩)) 7 false 0) :: LT S R) w' := by
  have hb : (S.hs != 0) = false := by simpa using hh
  have HT := Lib.hid fun (v : World) (hv : Env w0 (boxI o (opT S.c 4 key val lv rt nx 0 (.pointer (some ⟨sb, 0, none⟩)) er dn vl) :: LT S R) v) => takeLate_t hh hd hv
  have hE1 : Env w0 (boxI o (opT S.c 4 key val lv rt nx 0 (.pointer (some ⟨sb, 0, none⟩)) er dn vl) :: LT S R) w := (hE.sub (.cons_cons _ (.cons _ (.cons _ (List.Sublist.refl _)))))
  clear hE hh hd
  go_enter Tryz.func203, Tryz.ntmps203
  go_wp2_with fail
  refine (holds_t hE1).mono ?_
  rintro e w1 ⟨rfl, hb1⟩
  rw [hb]
  replace hE1 := hE1.over hb1
  clear hb1 hb
  go_wp2_with fail
  refine (HT.out _ hE1).mono ?_
  rintro e w2 ⟨rfl, hE2⟩
  go_wp2_with fail
  go_ret
  exact ⟨rfl, hE2⟩
set_option maxHeartbeats 3200000 in
theorem replaceAlloc_t (hh : S.hs = 0) (hd : decP S.ql S.ce S.cl ≠ 0) (hE : Env w0 (boxI o (opT S.c 4 key val lv rt nx 0 (.pointer (some ⟨sb, 0, none⟩)) er dn vl) :: boxI sb (srC S.c rt key true (.pointer (some ⟨a, 0, none⟩))) :: boxI a (laneC S.c 0 key true lnx st x y z W C X wd pf pv) :: LT S R) w) :
    Calls Tryz.prog 203 #[.pointer (some ⟨o, 0, none⟩)] w fun r w' => r = .returned (.int .i64 0) ∧ ∃ b1 b2 l, Env w0 (boxI o (opT S.c 4 key val lv rt (cvP b1 b2) 0 (.pointer (some ⟨sb, 0, none⟩)) er dn vl) :: boxI b1 [mvL 251 l] :: boxI b2 [cmV S.c 4 key val lv o 6 84 208] :: boxI l (av S.c { nx := nxA l (decP S.ql S.ce S.cl), left := .slice none 0 0, k := 4, key := key, val := val, lv := lv, h := 0, n := 0, r := 0, s := 0 }) :: LT S R) w' := by
  have hb : (S.hs != 0) = false := by simpa using hh
  have HT := Lib.hid fun (v : World) (hv : Env w0 (boxI o (opT S.c 4 key val lv rt nx 0 (.pointer (some ⟨sb, 0, none⟩)) er dn vl) :: LT S R) v) => takeAlloc_t hh hd hv
  have hE1 : Env w0 (boxI o (opT S.c 4 key val lv rt nx 0 (.pointer (some ⟨sb, 0, none⟩)) er dn vl) :: LT S R) w := (hE.sub (.cons_cons _ (.cons _ (.cons _ (List.Sublist.refl _)))))
  clear hE hh hd
  go_enter Tryz.func203, Tryz.ntmps203
  go_wp2_with fail
  refine (holds_t hE1).mono ?_
  rintro e w1 ⟨rfl, hb1⟩
  rw [hb]
  replace hE1 := hE1.over hb1
  clear hb1 hb
  go_wp2_with fail
  refine (HT.out _ hE1).mono ?_
  rintro e w2 ⟨rfl, b1, b2, l, hE2⟩
  go_wp2_with fail
  go_ret
  exact ⟨rfl, b1, b2, l, hE2⟩
set_option maxHeartbeats 3200000 in
theorem foundPutLate_t (hh : S.hs = 0) (hd : decP S.ql S.ce S.cl = 0) (hE : Env w0 (boxI o (opT S.c 4 key val lv rt nx 0 (.pointer (some ⟨sb, 0, none⟩)) er dn vl) :: boxI sb (srC S.c rt key true (.pointer (some ⟨a, 0, none⟩))) :: boxI a (laneC S.c 0 key true lnx st x y z W C X wd pf pv) :: LT S R) w) :
    Calls Tryz.prog 172 #[.pointer (some ⟨o, 0, none⟩)] w fun r w' => r = .returned (.int .i64 1) ∧ Env w0 (boxI o (opT S.c 4 key val lv rt nx 1 (.pointer (some ⟨sb, 0, none⟩)) 7 false 0) :: LT S R) w' := by
  have HT := Lib.hid (replaceLate_t hh hd hE)
  have r := hE.rule 0 rfl
  unfold opT at r
  clear hh hd
  go_enter Tryz.func172, Tryz.ntmps172
  go_wp2_with fail
  refine HT.out.mono ?_
  rintro e w2 ⟨rfl, hE2⟩
  go_wp2_with fail
  go_ret
  exact ⟨rfl, hE2⟩
set_option maxHeartbeats 3200000 in
theorem foundPutAlloc_t (hh : S.hs = 0) (hd : decP S.ql S.ce S.cl ≠ 0) (hE : Env w0 (boxI o (opT S.c 4 key val lv rt nx 0 (.pointer (some ⟨sb, 0, none⟩)) er dn vl) :: boxI sb (srC S.c rt key true (.pointer (some ⟨a, 0, none⟩))) :: boxI a (laneC S.c 0 key true lnx st x y z W C X wd pf pv) :: LT S R) w) :
    Calls Tryz.prog 172 #[.pointer (some ⟨o, 0, none⟩)] w fun r w' => r = .returned (.int .i64 0) ∧ ∃ b1 b2 l, Env w0 (boxI o (opT S.c 4 key val lv rt (cvP b1 b2) 0 (.pointer (some ⟨sb, 0, none⟩)) er dn vl) :: boxI b1 [mvL 251 l] :: boxI b2 [cmV S.c 4 key val lv o 6 84 208] :: boxI l (av S.c { nx := nxA l (decP S.ql S.ce S.cl), left := .slice none 0 0, k := 4, key := key, val := val, lv := lv, h := 0, n := 0, r := 0, s := 0 }) :: LT S R) w' := by
  have HT := Lib.hid (replaceAlloc_t hh hd hE)
  have r := hE.rule 0 rfl
  unfold opT at r
  clear hh hd
  go_enter Tryz.func172, Tryz.ntmps172
  go_wp2_with fail
  refine HT.out.mono ?_
  rintro e w2 ⟨rfl, b1, b2, l, hE2⟩
  go_wp2_with fail
  go_ret
  exact ⟨rfl, b1, b2, l, hE2⟩
set_option maxHeartbeats 3200000 in
theorem replaceHeld_t (hh : S.hs ≠ 0) (hE : Env w0 (boxI o (opT S.c 4 key val lv rt nx 0 (.pointer (some ⟨sb, 0, none⟩)) er dn vl) :: boxI sb (srC S.c rt key true (.pointer (some ⟨a, 0, none⟩))) :: boxI a (laneC S.c 0 key true lnx st x y z W C X wd pf pv) :: LT S R) w) :
    Calls Tryz.prog 203 #[.pointer (some ⟨o, 0, none⟩)] w fun r w' => r = .returned (.int .i64 0) ∧ Env w0 (boxI o (opT S.c 4 key val lv rt (mvL 243 o) 0 (.pointer (some ⟨sb, 0, none⟩)) er dn vl) :: boxI sb (srC S.c rt key true (.pointer (some ⟨a, 0, none⟩))) :: boxI a (laneC S.c 0 key true lnx st x y z W C X wd pf pv) :: LT S R) w' := by
  have hmf := makeF
  have hb : (S.hs != 0) = true := by simpa using hh
  have hE1 : Env w0 (boxI o (opT S.c 4 key val lv rt nx 0 (.pointer (some ⟨sb, 0, none⟩)) er dn vl) :: LT S R) w := (hE.sub (.cons_cons _ (.cons _ (.cons _ (List.Sublist.refl _)))))
  have HH := Lib.hid (holds_t hE1)
  clear hh hE1
  go_enter Tryz.func203, Tryz.ntmps203
  go_wp2_with fail
  refine HH.out.mono ?_
  rintro e w1 ⟨rfl, hb1⟩
  rw [hb]
  replace hE := hE.over hb1
  clear hb1 hb HH
  go_wp2_with fail
  refine (goOn_r (o := 6) 0 (.func 243) #[.pointer (some ⟨o, 0, none⟩)] #[] (by simp [opT]) hE rfl).mono ?_
  rintro e w2 ⟨rfl, hE2⟩
  go_wp2_with fail
  go_ret
  exact ⟨rfl, hE2⟩
set_option maxHeartbeats 3200000 in
theorem foundPutHeld_t (hh : S.hs ≠ 0) (hE : Env w0 (boxI o (opT S.c 4 key val lv rt nx 0 (.pointer (some ⟨sb, 0, none⟩)) er dn vl) :: boxI sb (srC S.c rt key true (.pointer (some ⟨a, 0, none⟩))) :: boxI a (laneC S.c 0 key true lnx st x y z W C X wd pf pv) :: LT S R) w) :
    Calls Tryz.prog 172 #[.pointer (some ⟨o, 0, none⟩)] w fun r w' => r = .returned (.int .i64 0) ∧ Env w0 (boxI o (opT S.c 4 key val lv rt (mvL 243 o) 0 (.pointer (some ⟨sb, 0, none⟩)) er dn vl) :: boxI sb (srC S.c rt key true (.pointer (some ⟨a, 0, none⟩))) :: boxI a (laneC S.c 0 key true lnx st x y z W C X wd pf pv) :: LT S R) w' := by
  have HT := Lib.hid (replaceHeld_t hh hE)
  have r := hE.rule 0 rfl
  unfold opT at r
  clear hh
  go_enter Tryz.func172, Tryz.ntmps172
  go_wp2_with fail
  refine HT.out.mono ?_
  rintro e w2 ⟨rfl, hE2⟩
  go_wp2_with fail
  go_ret
  exact ⟨rfl, hE2⟩
set_option maxHeartbeats 3200000 in
theorem missedNo_t (h4 : kd ≠ 4) (h5 : kd ≠ 5) (hE : Env w0 (boxI o (opT S.c kd key val lv rt nx 0 (.pointer (some ⟨sb, 0, none⟩)) er dn vl) :: boxI sb (srC S.c rt key true (.pointer (some ⟨a, 0, none⟩))) :: boxI a (laneC S.c 0 key true lnx st x y z W C X wd pf pv) :: LT S R) w) :
    Calls Tryz.prog 173 #[.pointer (some ⟨o, 0, none⟩)] w fun r w' => r = .returned (.int .i64 1) ∧ Env w0 (boxI o (opT S.c kd key val lv rt nx 1 (.pointer (some ⟨sb, 0, none⟩)) 0 false 0) :: LT S R) w' := by
  have b4 : (kd != 4) = true := by simpa using h4
  have b5 : (kd != 5) = true := by simpa using h5
  have r := hE.rule 0 rfl
  unfold opT at r
  clear h4 h5
  go_enter Tryz.func173, Tryz.ntmps173
  go_wp2_with fail
  refine (over_t 0 false 0 hE).mono ?_
  rintro e w3 ⟨rfl, hE2⟩
  go_wp2_with fail
  go_ret
  exact ⟨rfl, hE2.sub (.cons_cons _ (.cons _ (.cons _ (List.Sublist.refl _))))⟩
set_option maxHeartbeats 3200000 in
theorem missedLate_t (hk : kd = 4 ∨ kd = 5) (hh : S.hs = 0) (hd : decP S.ql S.ce S.cl = 0) (hE : Env w0 (boxI o (opT S.c kd key val lv rt nx 0 (.pointer (some ⟨sb, 0, none⟩)) er dn vl) :: boxI sb (srC S.c rt key true (.pointer (some ⟨a, 0, none⟩))) :: boxI a (laneC S.c 0 key true lnx st x y z W C X wd pf pv) :: LT S R) w) :
    Calls Tryz.prog 173 #[.pointer (some ⟨o, 0, none⟩)] w fun r w' => r = .returned (.int .i64 1) ∧ Env w0 (boxI o (opT S.c kd key val lv rt nx 1 (.pointer (some ⟨sb, 0, none⟩)) 7 false 0) :: LT S R) w' := by
  have hb : (S.hs != 0) = false := by simpa using hh
  have HT := Lib.hid fun (v : World) (hv : Env w0 (boxI o (opT S.c kd key val lv rt nx 0 (.pointer (some ⟨sb, 0, none⟩)) er dn vl) :: LT S R) v) => takeLate_t hh hd hv
  have hE1 : Env w0 (boxI o (opT S.c kd key val lv rt nx 0 (.pointer (some ⟨sb, 0, none⟩)) er dn vl) :: LT S R) w := (hE.sub (.cons_cons _ (.cons _ (.cons _ (List.Sublist.refl _)))))
  have r := hE1.rule 0 rfl
  unfold opT at r
  clear hE hh hd
  rcases hk with rfl | rfl
  all_goals
    go_enter Tryz.func173, Tryz.ntmps173
    go_wp2_with fail
    refine (holds_t hE1).mono ?_
    rintro e w1 ⟨rfl, hb1⟩
    rw [hb]
    replace hE1 := hE1.over hb1
    clear hb1 hb r
    go_wp2_with fail
    refine (HT.out _ hE1).mono ?_
    rintro e w2 ⟨rfl, hE2⟩
    go_wp2_with fail
    go_ret
    exact ⟨rfl, hE2⟩
set_option maxHeartbeats 3200000 in
theorem missedAlloc_t (hk : kd = 4 ∨ kd = 5) (hh : S.hs = 0) (hd : decP S.ql S.ce S.cl ≠ 0) (hE : Env w0 (boxI o (opT S.c kd key val lv rt nx 0 (.pointer (some ⟨sb, 0, none⟩)) er dn vl) :: boxI sb (srC S.c rt key true (.pointer (some ⟨a, 0, none⟩))) :: boxI a (laneC S.c 0 key true lnx st x y z W C X wd pf pv) :: LT S R) w) :
    Calls Tryz.prog 173 #[.pointer (some ⟨o, 0, none⟩)] w fun r w' => r = .returned (.int .i64 0) ∧ ∃ b1 b2 l, Env w0 (boxI o (opT S.c kd key val lv rt (cvP b1 b2) 0 (.pointer (some ⟨sb, 0, none⟩)) er dn vl) :: boxI b1 [mvL 251 l] :: boxI b2 [cmV S.c kd key val lv o 6 84 208] :: boxI l (av S.c { nx := nxA l (decP S.ql S.ce S.cl), left := .slice none 0 0, k := kd, key := key, val := val, lv := lv, h := 0, n := 0, r := 0, s := 0 }) :: LT S R) w' := by
  have hb : (S.hs != 0) = false := by simpa using hh
  have HT := Lib.hid fun (v : World) (hv : Env w0 (boxI o (opT S.c kd key val lv rt nx 0 (.pointer (some ⟨sb, 0, none⟩)) er dn vl) :: LT S R) v) => takeAlloc_t hh hd hv
  have hE1 : Env w0 (boxI o (opT S.c kd key val lv rt nx 0 (.pointer (some ⟨sb, 0, none⟩)) er dn vl) :: LT S R) w := (hE.sub (.cons_cons _ (.cons _ (.cons _ (List.Sublist.refl _)))))
  have r := hE1.rule 0 rfl
  unfold opT at r
  clear hE hh hd
  rcases hk with rfl | rfl
  all_goals
    go_enter Tryz.func173, Tryz.ntmps173
    go_wp2_with fail
    refine (holds_t hE1).mono ?_
    rintro e w1 ⟨rfl, hb1⟩
    rw [hb]
    replace hE1 := hE1.over hb1
    clear hb1 hb r
    go_wp2_with fail
    refine (HT.out _ hE1).mono ?_
    rintro e w2 ⟨rfl, b1, b2, l, hE2⟩
    go_wp2_with fail
    go_ret
    exact ⟨rfl, b1, b2, l, hE2⟩
theorem searchedYes_t (u : Int) (Q : Int → World → Prop) (hE : Env w0 (boxI o (opT S.c kd key val lv rt nx 0 (.pointer (some ⟨sb, 0, none⟩)) er dn vl) :: boxI sb (srC S.c rt key true (.pointer (some ⟨a, 0, none⟩))) :: boxI a (laneC S.c 0 key true lnx st x y z W C X wd true pv) :: LT S R) w) (hc : Calls Tryz.prog 172 #[.pointer (some ⟨o, 0, none⟩)] w fun e w' => ∃ s, e = .returned (.int .i64 s) ∧ Q s w') :
    Calls Tryz.prog 133 #[.pointer (some ⟨o, 0, none⟩), .int .i64 u] w fun e w' => ∃ s, e = .returned (.int .i64 s) ∧ Q s w' := by
  have HC := Lib.hid hc
  clear hc
  go_enter Tryz.func133, Tryz.ntmps133
  go_wp2_with fail
  refine (lane_t hE).mono ?_
  rintro e w1 ⟨rfl, rfl⟩
  go_wp2_with fail
  refine (found_g (hE.get 2 rfl)).mono ?_
  rintro e w1 ⟨rfl, rfl⟩
  go_wp2_with fail
  refine HC.out.mono ?_
  rintro e w2 ⟨s, rfl, hq⟩
  go_wp2_with fail
  go_ret
  exact ⟨s, rfl, hq⟩
theorem searchedNo_t (u : Int) (Q : Int → World → Prop) (hE : Env w0 (boxI o (opT S.c kd key val lv rt nx 0 (.pointer (some ⟨sb, 0, none⟩)) er dn vl) :: boxI sb (srC S.c rt key true (.pointer (some ⟨a, 0, none⟩))) :: boxI a (laneC S.c 0 key true lnx st x y z W C X wd false pv) :: LT S R) w) (hc : Calls Tryz.prog 173 #[.pointer (some ⟨o, 0, none⟩)] w fun e w' => ∃ s, e = .returned (.int .i64 s) ∧ Q s w') :
    Calls Tryz.prog 133 #[.pointer (some ⟨o, 0, none⟩), .int .i64 u] w fun e w' => ∃ s, e = .returned (.int .i64 s) ∧ Q s w' := by
  have HC := Lib.hid hc
  clear hc
  go_enter Tryz.func133, Tryz.ntmps133
  go_wp2_with fail
  refine (lane_t hE).mono ?_
  rintro e w1 ⟨rfl, rfl⟩
  go_wp2_with fail
  refine (found_g (hE.get 2 rfl)).mono ?_
  rintro e w1 ⟨rfl, rfl⟩
  go_wp2_with fail
  refine HC.out.mono ?_
  rintro e w2 ⟨s, rfl, hq⟩
  go_wp2_with fail
  go_ret
  exact ⟨s, rfl, hq⟩
set_option maxHeartbeats 3200000 in
theorem unlinkedDone_t (hE : Env w0 (boxI o (opT S.c kd key val lv rt nx 0 (.pointer (some ⟨sb, 0, none⟩)) er dn vl) :: boxI sb (srC S.c rt key true (.pointer (some ⟨a, 0, none⟩))) :: boxI a (laneC S.c 0 key true lnx st x y z W C X wd pf pv) :: LT S R) w) :
    Calls Tryz.prog 244 #[.pointer (some ⟨o, 0, none⟩), .int .i64 1] w fun r w' => r = .returned (.int .i64 1) ∧ Env w0 (boxI o (opT S.c kd key val lv rt nx 1 (.pointer (some ⟨sb, 0, none⟩)) 0 true pv) :: LT S R) w' := by
  go_enter Tryz.func244, Tryz.ntmps244
  go_wp2_with fail
  refine (lane_t hE).mono ?_
  rintro e w1 ⟨rfl, rfl⟩
  go_wp2_with fail
  refine (val_g (hE.get 2 rfl)).mono ?_
  rintro e w2 ⟨rfl, rfl⟩
  go_wp2_with fail
  refine (over_t 0 true pv hE).mono ?_
  rintro e w3 ⟨rfl, hE2⟩
  go_wp2_with fail
  go_ret
  exact ⟨rfl, hE2.sub (.cons_cons _ (.cons _ (.cons _ (List.Sublist.refl _))))⟩
set_option maxHeartbeats 3200000 in
theorem unlinkedFind_t (hE : Env w0 (boxI o (opT S.c kd key val lv rt nx 0 (.pointer (some ⟨sb, 0, none⟩)) er dn vl) :: LT S R) w) :
    Calls Tryz.prog 244 #[.pointer (some ⟨o, 0, none⟩), .int .i64 2] w fun r w' => r = .returned (.int .i64 0) ∧ ∃ b1 b2 sb2, Env w0 (boxI o (opT S.c kd key val lv rt (cvP b1 b2) 0 (.pointer (some ⟨sb2, 0, none⟩)) er dn vl) :: boxI b1 [mvL 132 sb2] :: boxI b2 [mvL 133 o] :: boxI sb2 (srC S.c rt key true (.pointer none)) :: LT S R) w' := by
  have HF := Lib.hid (find_t hE)
  clear hE
  go_enter Tryz.func244, Tryz.ntmps244
  go_wp2_with fail
  refine HF.out.mono ?_
  rintro e w1 ⟨rfl, b1, b2, sb2, hE2⟩
  go_wp2_with fail
  go_ret
  exact ⟨rfl, b1, b2, sb2, hE2⟩
end
end Go.Proofs.YtdknbegcflldjaaGreatDoor

/- Hash maps: a Link that is begun; steps; what is answered; of nil. -/
namespace Go.Proofs.YtdknbegcflldjaaGreatDoor
open Go.RowKit Go.Maps
set_option maxRecDepth 100000

section
variable {w0 w : World} {L R : List Item} {o sb a c : Nat} {S : ST} {kd key val lv rt : Int} {nx lnx sp : Value} {er st st9 x y z W C X wd vl pv : Int} {dn pf : Bool}
set_option maxHeartbeats 3200000 in
theorem missedLink_t (hk : kd = 4 ∨ kd = 5) (hh : S.hs ≠ 0) (hE : Env w0 (boxI o (opT S.c kd key val lv rt nx 0 (.pointer (some ⟨sb, 0, none⟩)) er dn vl) :: boxI sb (srC S.c rt key true (.pointer (some ⟨a, 0, none⟩))) :: boxI a (laneC S.c 0 key true lnx st x y z W C X wd false pv) :: LT S R) w) :
    Calls Tryz.prog 173 #[.pointer (some ⟨o, 0, none⟩)] w fun r w' => r = .returned (.int .i64 0) ∧ ∃ b1 b2 l, Env w0 (boxI o (opT S.c kd key val lv rt (cvP b1 b2) 0 (.pointer (some ⟨sb, 0, none⟩)) er dn vl) :: boxI b1 [mvL 213 l] :: boxI b2 [mvL 214 o] :: boxI l (lkC S.c x y z W C X (mvL 247 l) 0) :: LT S R) w' := by
  have hmf := makeF
  have hb : (S.hs != 0) = true := by simpa using hh
  have hE1 : Env w0 (boxI o (opT S.c kd key val lv rt nx 0 (.pointer (some ⟨sb, 0, none⟩)) er dn vl) :: LT S R) w := (hE.sub (.cons_cons _ (.cons _ (.cons _ (List.Sublist.refl _)))))
  have HH := Lib.hid (holds_t hE1)
  have r := hE1.rule 0 rfl
  unfold opT at r
  clear hh hE1
  have key9 : ∀ (w3 : World), Env w0 (boxI o (opT S.c kd key val lv rt nx 0 (.pointer (some ⟨sb, 0, none⟩)) er dn vl) :: boxI sb (srC S.c rt key true (.pointer (some ⟨a, 0, none⟩))) :: boxI a (laneC S.c 0 key true lnx st x y z W C X wd false pv) :: LT S R) w3 → True := fun _ _ => trivial
  clear key9
  rcases hk with rfl | rfl
  · go_enter Tryz.func173, Tryz.ntmps173
    go_wp2_with fail
    refine HH.out.mono ?_
    rintro e w1 ⟨rfl, hb1⟩
    rw [hb]
    replace hE := hE.over hb1
    clear hb1 hb r HH
    go_wp2_with fail
    obtain ⟨L2, hL2⟩ : ∃ L2, LT S R = L2 := ⟨_, rfl⟩
    rw [hL2] at hE
    have HL2 := Lib.hid hL2
    clear hL2
    refine Ord3.wp_chain [?_, ?_, ?_, ?_, ?_, ?_, ?_, ?_, ?_, ?_, ?_, ?_, ?_, ?_, ?_] [9, 10, 13] (fun w' => (∃ nx9, Blk 0 w' o (opT S.c 4 key val lv rt nx9 0 (.pointer (some ⟨sb, 0, none⟩)) er dn vl)) ∧ Blk 0 w' sb (srC S.c rt key true (.pointer (some ⟨a, 0, none⟩)))) (Ord3.Stage fun κs => [Env w0 (boxI o (opT S.c 4 key val lv rt nx 0 (.pointer (some ⟨sb, 0, none⟩)) er dn vl) :: boxI sb (srC S.c rt key true (.pointer (some ⟨a, 0, none⟩))) :: boxI a (laneC S.c 0 key true lnx st x y z W C X wd false pv) :: L2), fun w' => ∃ q, κs.getD 0 undef = .pointer (some ⟨q, 0, none⟩) ∧ Env w0 (boxI q (lkC S.c x y z W C X (mvL 247 q) 0) :: boxI o (opT S.c 4 key val lv rt nx 0 (.pointer (some ⟨sb, 0, none⟩)) er dn vl) :: boxI sb (srC S.c rt key true (.pointer (some ⟨a, 0, none⟩))) :: boxI a (laneC S.c 0 key true lnx st x y z W C X wd false pv) :: L2) w', fun w' => ∃ q, κs.getD 1 undef = mvL 213 q ∧ Env w0 (boxI q (lkC S.c x y z W C X (mvL 247 q) 0) :: boxI o (opT S.c 4 key val lv rt nx 0 (.pointer (some ⟨sb, 0, none⟩)) er dn vl) :: boxI sb (srC S.c rt key true (.pointer (some ⟨a, 0, none⟩))) :: boxI a (laneC S.c 0 key true lnx st x y z W C X wd false pv) :: L2) w', fun w' => ∃ b1 b2 q, Env w0 (boxI b1 [mvL 213 q] :: boxI b2 [mvL 214 o] :: boxI q (lkC S.c x y z W C X (mvL 247 q) 0) :: boxI o (opT S.c 4 key val lv rt (cvP b1 b2) 0 (.pointer (some ⟨sb, 0, none⟩)) er dn vl) :: boxI sb (srC S.c rt key true (.pointer (some ⟨a, 0, none⟩))) :: boxI a (laneC S.c 0 key true lnx st x y z W C X wd false pv) :: L2) w']) (by kernel_rfl) (by kernel_rfl) (by kernel_rfl) ⟨⟨nx, hE.drew.get 0 rfl⟩, hE.drew.get 1 rfl⟩ ⟨_, rfl, hE.drew⟩ (fun hT => ?_)
    rotate_left 15
    have hT9 := Lib.hid hT
    clear hT
    repeat (first
      | (focus (refine Ord3.in_value (v := ?_) hT9.out (by decide) ?_ (by rfl) ?_ ?_; rotate_left 2; (focus (intro w5 hS; obtain ⟨⟨nx9, hS9⟩, hS8⟩ := hS; have r1 := Blk.rule hS9; unfold opT at r1; go_simp <;> with_reducible rfl)); rotate_right; (focus rfl); (try simp only [Act.put, List.setIfInBounds_toArray, List.set_cons_zero, List.set_cons_succ])))
      | (focus (refine Ord3.in_off hT9.out (by decide) ?_ (by rfl) ?_; (focus rfl); (try simp only [Act.put, List.setIfInBounds_toArray, List.set_cons_zero, List.set_cons_succ])))
      | (focus (refine Ord3.in_call (v := ?_) (f := ?_) (args := ?_) hT9.out (by decide) ?_ (by rfl) ?_ ?_ ?_; rotate_left 4; (focus (intro w5 hS; obtain ⟨⟨nx9, hS9⟩, hS8⟩ := hS; have r1 := Blk.rule hS9; unfold opT at r1; go_simp; constructor <;> with_reducible rfl)); (focus (intro w5 hS; (first | (obtain ⟨⟨nx9, hS9⟩, hS8⟩ := hS; with_reducible refine (lane_b hS9 hS8).mono ?_; rintro e w6 ⟨rfl, rfl⟩; constructor; with_reducible rfl; exact ⟨⟨⟨nx9, hS9⟩, hS8⟩, fun us h => h⟩)))); rotate_right; (focus rfl); (try simp only [Act.put, List.setIfInBounds_toArray, List.set_cons_zero, List.set_cons_succ]))))
    refine Ord3.in_turn (fun u => ∃ q, u = .pointer (some ⟨q, 0, none⟩)) _ ⟨0, rfl⟩ hT9.out rfl (by decide) (by rfl) ?_ (Or.inl rfl) (by rfl) ?_ ?_
    · rfl
    · rintro w7 hC7 ⟨P7, hP7, hA7⟩
      cases hP7
      go_simp
      simp only [Ord3.Lands]
      refine (newLink_k 2 rfl hA7).mono ?_
      rintro o8 w8 ⟨r8, rfl, hE8⟩
      exact ⟨_, rfl, ⟨r8, rfl⟩, ⟨⟨nx, hE8.get 1 rfl⟩, hE8.get 2 rfl⟩, _, rfl, r8, rfl, hE8⟩
    rintro _ ⟨r9, rfl⟩
    (try simp only [Act.put, List.setIfInBounds_toArray, List.set_cons_zero, List.set_cons_succ])
    refine Ord3.in_turn (fun u => ∃ q, u = mvL 213 q) _ ⟨0, rfl⟩ hT9.out rfl (by decide) (by rfl) ?_ (Or.inr ⟨_, 9, [], rfl, by kernel_rfl, by kernel_rfl, rfl⟩) (by rfl) ?_ ?_
    · rfl
    · rintro w7 hC7 ⟨P7, hP7, hA7⟩
      cases hP7
      obtain ⟨r8, he, hA7⟩ := hA7
      cases he
      go_simp
      simp only [Ord3.Lands]
      exact ⟨⟨_, rfl⟩, hC7, _, rfl, r9, rfl, hA7⟩
    rintro _ ⟨r9, rfl⟩
    (try simp only [Act.put, List.setIfInBounds_toArray, List.set_cons_zero, List.set_cons_succ])
    repeat (first
      | (focus (refine Ord3.in_value (v := ?_) hT9.out (by decide) ?_ (by rfl) ?_ ?_; rotate_left 2; (focus (intro w5 hS; obtain ⟨⟨nx9, hS9⟩, hS8⟩ := hS; have r1 := Blk.rule hS9; unfold opT at r1; go_simp <;> with_reducible rfl)); rotate_right; (focus rfl); (try simp only [Act.put, List.setIfInBounds_toArray, List.set_cons_zero, List.set_cons_succ])))
      | (focus (refine Ord3.in_off hT9.out (by decide) ?_ (by rfl) ?_; (focus rfl); (try simp only [Act.put, List.setIfInBounds_toArray, List.set_cons_zero, List.set_cons_succ]))))
    refine Ord3.in_turn (fun u => u = .int .i64 0) _ rfl hT9.out rfl (by decide) (by rfl) ?_ (Or.inr ⟨_, 10, [], rfl, by kernel_rfl, by kernel_rfl, rfl⟩) (by rfl) ?_ ?_
    · rfl
    · rintro w7 hC7 ⟨P7, hP7, hA7⟩
      cases hP7
      obtain ⟨r8, he, hA7⟩ := hA7
      cases he
      go_simp
      simp only [Ord3.Lands]
      refine (play_r (o := 6) 1 _ _ _ _ _ _ (by simp [opT]) hA7 rfl).mono ?_
      rintro o8 w8 ⟨rfl, b1, b2, hE8⟩
      exact ⟨_, rfl, rfl, ⟨⟨_, hE8.get 3 rfl⟩, hE8.get 4 rfl⟩, _, rfl, b1, b2, r9, hE8⟩
    rintro _ rfl
    (try simp only [Act.put, List.setIfInBounds_toArray, List.set_cons_zero, List.set_cons_succ])
    repeat (first
      | (focus (refine Ord3.in_value (v := ?_) hT9.out (by decide) ?_ (by rfl) ?_ ?_; rotate_left 2; (focus (intro w5 hS; skip; go_simp <;> with_reducible rfl)); rotate_right; (focus rfl); (try simp only [Act.put, List.setIfInBounds_toArray, List.set_cons_zero, List.set_cons_succ])))
      | (focus (refine Ord3.in_off hT9.out (by decide) ?_ (by rfl) ?_; (focus rfl); (try simp only [Act.put, List.setIfInBounds_toArray, List.set_cons_zero, List.set_cons_succ]))))
    refine Ord3.in_nil rfl ?_
    rintro w9 hC9 ⟨P9, hP9, hA9⟩
    cases hP9
    obtain ⟨b1, b2, q, hA9⟩ := hA9
    clear hT9 hC9 hE
    go_wp2_with fail
    go_ret
    have h3 := HL2.out
    subst h3
    refine ⟨rfl, b1, b2, q, ?_⟩
    have h9 := hA9.sub (L' := boxI b1 [mvL 213 q] :: boxI b2 [mvL 214 o] :: boxI q (lkC S.c x y z W C X (mvL 247 q) 0) :: boxI o (opT S.c 4 key val lv rt (cvP b1 b2) 0 (.pointer (some ⟨sb, 0, none⟩)) er dn vl) :: LT S R) (.cons_cons _ (.cons_cons _ (.cons_cons _ (.cons_cons _ (.cons _ (.cons _ (List.Sublist.refl _)))))))
    exact h9.perm (List.perm_middle (l₁ := [_, _, _]))
  · go_enter Tryz.func173, Tryz.ntmps173
    go_wp2_with fail
    refine HH.out.mono ?_
    rintro e w1 ⟨rfl, hb1⟩
    rw [hb]
    replace hE := hE.over hb1
    clear hb1 hb r HH
    go_wp2_with fail
    obtain ⟨L2, hL2⟩ : ∃ L2, LT S R = L2 := ⟨_, rfl⟩
    rw [hL2] at hE
    have HL2 := Lib.hid hL2
    clear hL2
    refine Ord3.wp_chain [?_, ?_, ?_, ?_, ?_, ?_, ?_, ?_, ?_, ?_, ?_, ?_, ?_, ?_, ?_] [9, 10, 13] (fun w' => (∃ nx9, Blk 0 w' o (opT S.c 5 key val lv rt nx9 0 (.pointer (some ⟨sb, 0, none⟩)) er dn vl)) ∧ Blk 0 w' sb (srC S.c rt key true (.pointer (some ⟨a, 0, none⟩)))) (Ord3.Stage fun κs => [Env w0 (boxI o (opT S.c 5 key val lv rt nx 0 (.pointer (some ⟨sb, 0, none⟩)) er dn vl) :: boxI sb (srC S.c rt key true (.pointer (some ⟨a, 0, none⟩))) :: boxI a (laneC S.c 0 key true lnx st x y z W C X wd false pv) :: L2), fun w' => ∃ q, κs.getD 0 undef = .pointer (some ⟨q, 0, none⟩) ∧ Env w0 (boxI q (lkC S.c x y z W C X (mvL 247 q) 0) :: boxI o (opT S.c 5 key val lv rt nx 0 (.pointer (some ⟨sb, 0, none⟩)) er dn vl) :: boxI sb (srC S.c rt key true (.pointer (some ⟨a, 0, none⟩))) :: boxI a (laneC S.c 0 key true lnx st x y z W C X wd false pv) :: L2) w', fun w' => ∃ q, κs.getD 1 undef = mvL 213 q ∧ Env w0 (boxI q (lkC S.c x y z W C X (mvL 247 q) 0) :: boxI o (opT S.c 5 key val lv rt nx 0 (.pointer (some ⟨sb, 0, none⟩)) er dn vl) :: boxI sb (srC S.c rt key true (.pointer (some ⟨a, 0, none⟩))) :: boxI a (laneC S.c 0 key true lnx st x y z W C X wd false pv) :: L2) w', fun w' => ∃ b1 b2 q, Env w0 (boxI b1 [mvL 213 q] :: boxI b2 [mvL 214 o] :: boxI q (lkC S.c x y z W C X (mvL 247 q) 0) :: boxI o (opT S.c 5 key val lv rt (cvP b1 b2) 0 (.pointer (some ⟨sb, 0, none⟩)) er dn vl) :: boxI sb (srC S.c rt key true (.pointer (some ⟨a, 0, none⟩))) :: boxI a (laneC S.c 0 key true lnx st x y z W C X wd false pv) :: L2) w']) (by kernel_rfl) (by kernel_rfl) (by kernel_rfl) ⟨⟨nx, hE.drew.get 0 rfl⟩, hE.drew.get 1 rfl⟩ ⟨_, rfl, hE.drew⟩ (fun hT => ?_)
    rotate_left 15
    have hT9 := Lib.hid hT
    clear hT
    repeat (first
      | (focus (refine Ord3.in_value (v := ?_) hT9.out (by decide) ?_ (by rfl) ?_ ?_; rotate_left 2; (focus (intro w5 hS; obtain ⟨⟨nx9, hS9⟩, hS8⟩ := hS; have r1 := Blk.rule hS9; unfold opT at r1; go_simp <;> with_reducible rfl)); rotate_right; (focus rfl); (try simp only [Act.put, List.setIfInBounds_toArray, List.set_cons_zero, List.set_cons_succ])))
      | (focus (refine Ord3.in_off hT9.out (by decide) ?_ (by rfl) ?_; (focus rfl); (try simp only [Act.put, List.setIfInBounds_toArray, List.set_cons_zero, List.set_cons_succ])))
      | (focus (refine Ord3.in_call (v := ?_) (f := ?_) (args := ?_) hT9.out (by decide) ?_ (by rfl) ?_ ?_ ?_; rotate_left 4; (focus (intro w5 hS; obtain ⟨⟨nx9, hS9⟩, hS8⟩ := hS; have r1 := Blk.rule hS9; unfold opT at r1; go_simp; constructor <;> with_reducible rfl)); (focus (intro w5 hS; (first | (obtain ⟨⟨nx9, hS9⟩, hS8⟩ := hS; with_reducible refine (lane_b hS9 hS8).mono ?_; rintro e w6 ⟨rfl, rfl⟩; constructor; with_reducible rfl; exact ⟨⟨⟨nx9, hS9⟩, hS8⟩, fun us h => h⟩)))); rotate_right; (focus rfl); (try simp only [Act.put, List.setIfInBounds_toArray, List.set_cons_zero, List.set_cons_succ]))))
    refine Ord3.in_turn (fun u => ∃ q, u = .pointer (some ⟨q, 0, none⟩)) _ ⟨0, rfl⟩ hT9.out rfl (by decide) (by rfl) ?_ (Or.inl rfl) (by rfl) ?_ ?_
    · rfl
    · rintro w7 hC7 ⟨P7, hP7, hA7⟩
      cases hP7
      go_simp
      simp only [Ord3.Lands]
      refine (newLink_k 2 rfl hA7).mono ?_
      rintro o8 w8 ⟨r8, rfl, hE8⟩
      exact ⟨_, rfl, ⟨r8, rfl⟩, ⟨⟨nx, hE8.get 1 rfl⟩, hE8.get 2 rfl⟩, _, rfl, r8, rfl, hE8⟩
    rintro _ ⟨r9, rfl⟩
    (try simp only [Act.put, List.setIfInBounds_toArray, List.set_cons_zero, List.set_cons_succ])
    refine Ord3.in_turn (fun u => ∃ q, u = mvL 213 q) _ ⟨0, rfl⟩ hT9.out rfl (by decide) (by rfl) ?_ (Or.inr ⟨_, 9, [], rfl, by kernel_rfl, by kernel_rfl, rfl⟩) (by rfl) ?_ ?_
    · rfl
    · rintro w7 hC7 ⟨P7, hP7, hA7⟩
      cases hP7
      obtain ⟨r8, he, hA7⟩ := hA7
      cases he
      go_simp
      simp only [Ord3.Lands]
      exact ⟨⟨_, rfl⟩, hC7, _, rfl, r9, rfl, hA7⟩
    rintro _ ⟨r9, rfl⟩
    (try simp only [Act.put, List.setIfInBounds_toArray, List.set_cons_zero, List.set_cons_succ])
    repeat (first
      | (focus (refine Ord3.in_value (v := ?_) hT9.out (by decide) ?_ (by rfl) ?_ ?_; rotate_left 2; (focus (intro w5 hS; obtain ⟨⟨nx9, hS9⟩, hS8⟩ := hS; have r1 := Blk.rule hS9; unfold opT at r1; go_simp <;> with_reducible rfl)); rotate_right; (focus rfl); (try simp only [Act.put, List.setIfInBounds_toArray, List.set_cons_zero, List.set_cons_succ])))
      | (focus (refine Ord3.in_off hT9.out (by decide) ?_ (by rfl) ?_; (focus rfl); (try simp only [Act.put, List.setIfInBounds_toArray, List.set_cons_zero, List.set_cons_succ]))))
    refine Ord3.in_turn (fun u => u = .int .i64 0) _ rfl hT9.out rfl (by decide) (by rfl) ?_ (Or.inr ⟨_, 10, [], rfl, by kernel_rfl, by kernel_rfl, rfl⟩) (by rfl) ?_ ?_
    · rfl
    · rintro w7 hC7 ⟨P7, hP7, hA7⟩
      cases hP7
      obtain ⟨r8, he, hA7⟩ := hA7
      cases he
      go_simp
      simp only [Ord3.Lands]
      refine (play_r (o := 6) 1 _ _ _ _ _ _ (by simp [opT]) hA7 rfl).mono ?_
      rintro o8 w8 ⟨rfl, b1, b2, hE8⟩
      exact ⟨_, rfl, rfl, ⟨⟨_, hE8.get 3 rfl⟩, hE8.get 4 rfl⟩, _, rfl, b1, b2, r9, hE8⟩
    rintro _ rfl
    (try simp only [Act.put, List.setIfInBounds_toArray, List.set_cons_zero, List.set_cons_succ])
    repeat (first
      | (focus (refine Ord3.in_value (v := ?_) hT9.out (by decide) ?_ (by rfl) ?_ ?_; rotate_left 2; (focus (intro w5 hS; skip; go_simp <;> with_reducible rfl)); rotate_right; (focus rfl); (try simp only [Act.put, List.setIfInBounds_toArray, List.set_cons_zero, List.set_cons_succ])))
      | (focus (refine Ord3.in_off hT9.out (by decide) ?_ (by rfl) ?_; (focus rfl); (try simp only [Act.put, List.setIfInBounds_toArray, List.set_cons_zero, List.set_cons_succ]))))
    refine Ord3.in_nil rfl ?_
    rintro w9 hC9 ⟨P9, hP9, hA9⟩
    cases hP9
    obtain ⟨b1, b2, q, hA9⟩ := hA9
    clear hT9 hC9 hE
    go_wp2_with fail
    go_ret
    have h3 := HL2.out
    subst h3
    refine ⟨rfl, b1, b2, q, ?_⟩
    have h9 := hA9.sub (L' := boxI b1 [mvL 213 q] :: boxI b2 [mvL 214 o] :: boxI q (lkC S.c x y z W C X (mvL 247 q) 0) :: boxI o (opT S.c 5 key val lv rt (cvP b1 b2) 0 (.pointer (some ⟨sb, 0, none⟩)) er dn vl) :: LT S R) (.cons_cons _ (.cons_cons _ (.cons_cons _ (.cons_cons _ (.cons _ (.cons _ (List.Sublist.refl _)))))))
    exact h9.perm (List.perm_middle (l₁ := [_, _, _]))
set_option maxHeartbeats 800000 in
/-- An op's step: what it plays makes a step; behind its end, what comes. -/
theorem step_tV (F p Y : Nat) (y9 u : Value) {b1 b2 : Nat} (hx : ∀ (ar : Array Value) (v : World), (callFunc F ar).run Tryz.prog v = .ok (.enter F ar) v) (hy : ∀ (ar : Array Value) (v : World), (callFunc Y ar).run Tryz.prog v = .ok (.enter Y ar) v) (Q : Int → World → Prop)
    (hE : Env w0 (boxI o (opT c kd key val lv rt (cvP b1 b2) 0 sp er dn vl) :: boxI b1 [mvL F p] :: boxI b2 [.func (.func Y) #[y9] #[]] :: L) w)
    (hc : Calls Tryz.prog F #[.pointer (some ⟨p, 0, none⟩), u] w fun e w1 => ∃ s, e = .returned (.int .i64 s) ∧ (s = 0 → Q 0 w1) ∧ (s ≠ 0 → w1.cell? ⟨b2, 0, none⟩ = some (.func (.func Y) #[y9] #[]) ∧ Calls Tryz.prog Y #[y9, .int .i64 s] w1 fun e2 w2 => ∃ s2, e2 = .returned (.int .i64 s2) ∧ Q s2 w2)) :
    Calls Tryz.prog 33 #[.pointer (some ⟨o, 0, none⟩), u] w fun e w' => ∃ s, e = .returned (.int .i64 s) ∧ Q s w' := by
  have HST := Lib.hid (stepP_r (o := 6) F hx (.pointer (some ⟨p, 0, none⟩)) u y9 Y hy b1 b2 Q (hE.rule 0 rfl 6) (hE.rule 0 rfl 7) (hE.rule 1 rfl 0) hc)
  clear hc hE
  go_enter Tryz.func33, Tryz.ntmps33
  go_wp2_with fail
  refine HST.out.mono ?_
  rintro e w1 ⟨s, rfl, hQ⟩
  go_wp2_with fail
  go_ret
  exact ⟨s, rfl, hQ⟩
set_option maxHeartbeats 800000 in
/-- .. whose next row is a method of its own. -/
theorem stepMv_t (F : Nat) (u : Value) (hx : ∀ (ar : Array Value) (v : World), (callFunc F ar).run Tryz.prog v = .ok (.enter F ar) v) (Q : Int → World → Prop)
    (hE : Env w0 (boxI o (opT c kd key val lv rt (mvL F o) 0 sp er dn vl) :: L) w)
    (hc : Calls Tryz.prog F #[.pointer (some ⟨o, 0, none⟩), u] w fun e w' => ∃ s, e = .returned (.int .i64 s) ∧ Q s w') :
    Calls Tryz.prog 33 #[.pointer (some ⟨o, 0, none⟩), u] w fun e w' => ∃ s, e = .returned (.int .i64 s) ∧ Q s w' := by
  have HST := Lib.hid (stepMv_r (o := 6) F hx (.pointer (some ⟨o, 0, none⟩)) u (fun o w' => ∃ s, o = .returned (.int .i64 s) ∧ Q s w') (hE.rule 0 rfl 6) (hE.rule 0 rfl 7) (hc.mono fun e w' ⟨s, he, hq⟩ => ⟨s, he, s, rfl, hq⟩))
  clear hc hE
  go_enter Tryz.func33, Tryz.ntmps33
  go_wp2_with fail
  refine HST.out.mono ?_
  rintro e w1 ⟨s, rfl, hQ⟩
  go_wp2_with fail
  go_ret
  exact ⟨s, rfl, hQ⟩
end
theorem stepNil_t (u : Value) (w : World) : Calls Tryz.prog 33 #[.pointer none, u] w fun o w' => o = .returned (.int .i64 1) ∧ w' = w := by
  go_enter Tryz.func33, Tryz.ntmps33
  go_wp2
  go_ret
  exact ⟨rfl, rfl⟩
set_option maxHeartbeats 800000 in
theorem answerNil_t (w : World) : Calls Tryz.prog 34 #[.pointer none] w fun o w' => o = .returned (.agg #[.int .i64 0, .bool false, .int .u64 0]) ∧ Below w.heap.size w w' := by
  go_enter Tryz.func34, Tryz.ntmps34
  go_wp2
  exact bodyPost_ret (v := .agg #[.int .i64 0, .bool false, .int .u64 0]) (by simp [results, Tryz.results34, go_sem]) rfl ⟨rfl, (Below.refl _ _).alloc (Nat.le_refl _) _⟩
set_option maxHeartbeats 800000 in
theorem answer_t {w : World} {o c : Nat} {kd key val lv rt st er vl : Int} {nx sp : Value} {dn : Bool} (hb : Blk 0 w o (opT c kd key val lv rt nx st sp er dn vl)) : Calls Tryz.prog 34 #[.pointer (some ⟨o, 0, none⟩)] w fun p w' => p = .returned (.agg #[.int .i64 er, .bool dn, .int .u64 vl]) ∧ Below w.heap.size w w' := by
  have r1 := cell_more hb.1 hb.rule
  unfold opT at r1
  go_enter Tryz.func34, Tryz.ntmps34
  go_wp2
  exact bodyPost_ret (v := .agg #[.int .i64 er, .bool dn, .int .u64 vl]) (by simp [results, Tryz.results34, go_sem]) rfl ⟨rfl, (Below.refl _ _).alloc (Nat.le_refl _) _⟩
end Go.Proofs.YtdknbegcflldjaaGreatDoor

/- Hash maps: the mark that takes an old slot out leads to the held one; ops that are made. -/
namespace Go.Proofs.YtdknbegcflldjaaGreatDoor
open Go.RowKit Go.Maps
set_option maxRecDepth 100000

section
variable {w0 w : World} {R L : List Item} {l : Nat} {S : ST} {nx : Value} {x y z W C X k key to : Int}
set_option maxHeartbeats 3200000 in
theorem markHeld_k (hX : InU X) (hmk : markB X = false) (hs0 : S.hs ≠ 0) (hC : In64 C) (hg : Glo w0) (hm : S.m < maxLen) (hE : Env w0 (boxI l (ukC S.c x y z W C X k key S.hs nx 0) :: LT S R) w) :
    Calls Tryz.prog 260 #[.pointer (some ⟨l, 0, none⟩), .iface 26 (.pointer (some ⟨S.p, 0, none⟩))] w fun o w' => o = .returned (.int .i64 (if S.f (5, C, 7) = X then 0 else 2)) ∧ ∃ G' nx', (S.f (5, C, 7) = X → nx' = mvL 287 l) ∧ Env w0 (boxI l (ukC S.c x y z W C X k key S.hs nx' (if S.f (5, C, 7) = X then 0 else 2)) :: LT { S with hs := if S.f (5, C, 7) = X then 0 else S.hs, G := G', f := swf S.f (5, C, 7) X (wordI true S.hs S.ce), qc := swq S.qc (decide (S.f (5, C, 7) = X)), m := S.m + 1 } R) w' := by
  have hmf := makeF
  have hah := ahead_swap
  have hb : (S.hs != 0) = true := by simpa using hs0
  have HH0 := Lib.hid hs0
  have HWF : Hid (Wf (5, C, 7)) := Lib.hid (by unfold Wf; exact ⟨by show In64 5; unfold In64; omega, hC, by show In64 7; unfold In64; omega⟩)
  have hqi : InU (wordI true S.hs S.ce) := wordI_in _ _ _
  have hto := fun (v : World) (hv : Below w0.heap.size w0 v) (hb : Blk 0 v S.c (crv S.ck S.cs S.cb S.ch S.cl S.ce S.cr S.hs 0 S.q)) => markNew_c X 0 false S.hs 0 hX hmk (hg.keep' hv) hb
  obtain ⟨q, hq⟩ : ∃ q, wordI true S.hs S.ce = q := ⟨_, rfl⟩
  rw [hq] at hqi ⊢
  simp only [hq] at hto
  have HQI := Lib.hid hqi
  have HTO := Lib.hid hto
  clear hq hqi hto hg hs0 hmk hC
  obtain ⟨dd, hdd⟩ : ∃ dd, decide (S.f (5, C, 7) = X) = dd := ⟨_, rfl⟩
  have hds : (if S.f (5, C, 7) = X then (0 : Int) else 2) = if dd then 0 else 2 := by rw [← hdd]; by_cases h : S.f (5, C, 7) = X <;> simp [h]
  have hdp : S.f (5, C, 7) = X ↔ dd = true := by rw [← hdd]; simp
  rw [hds, hdd]
  simp only [hdp]
  clear hds hdp
  have HDD := Lib.hid hdd
  clear hdd hX
  go_enter Tryz.func260, Tryz.ntmps260
  go_wp2_with fail
  refine Ord.wp_chain [29] (fun v => Below w0.heap.size w0 v ∧ Blk 0 v l (ukC S.c x y z W C X k key S.hs nx 0) ∧ Blk 0 v S.c (crv S.ck S.cs S.cb S.ch S.cl S.ce S.cr S.hs 0 S.q)) (fun k9 w' => ∃ G5, Env w0 (boxI l (ukC S.c x y z W C X k key S.hs nx 0) :: LT (if k9 = 0 then S else { S with G := G5, f := swf S.f (5, C, 7) X q, qc := swq S.qc dd, m := S.m + 1 }) R) w') (by kernel_rfl) (by kernel_rfl) (by kernel_rfl) ⟨hE.drew.below, hE.drew.get 0 rfl, hE.drew.get 1 rfl⟩ ⟨S.G, hE.drew⟩ (fun hT => ?_)
  have hT9 := Lib.hid hT
  clear hT
  repeat (first
    | (refine Ord.ch_value (v := ?_) hT9.out (by decide) (by rfl) ?_ ?_; rotate_left; (focus (intro w5 hS; have r := hS.2.1.rule; unfold ukC at r; go_simp <;> with_reducible rfl)); (try simp only [Act.put, List.setIfInBounds_toArray, List.set_cons_zero, List.set_cons_succ]))
    | (refine Ord.ch_off hT9.out (by decide) (by rfl) ?_; (try simp only [Act.put, List.setIfInBounds_toArray, List.set_cons_zero, List.set_cons_succ]))
    | (refine Ord.ch_call (v := ?_) (f := ?_) (args := ?_) hT9.out (by decide) (by rfl) ?_ ?_ ?_; rotate_left 3; (focus (intro w5 hS; have r := hS.2.1.rule; unfold ukC at r; go_simp; constructor <;> with_reducible rfl)); (focus (intro w5 hS; (first | (with_reducible refine (linkOf_any _ _ _).mono ?_; rintro e w6 ⟨rfl, hb6⟩; constructor; with_reducible rfl; exact ⟨⟨hS.1.trans (hb6.mono hS.1.size), hS.2.1.under hb6, hS.2.2.under hb6⟩, fun k h => h.elim fun G5 h => ⟨G5, h.over hb6⟩⟩) | (with_reducible refine (HTO.out _ hS.1 hS.2.2).mono ?_; rintro e w6 ⟨rfl, hb6⟩; constructor; with_reducible rfl; exact ⟨⟨hS.1.trans (hb6.mono hS.1.size), hS.2.1.under hb6, hS.2.2.under hb6⟩, fun k h => h.elim fun G5 h => ⟨G5, h.over hb6⟩⟩)))); (try simp only [Act.put, List.setIfInBounds_toArray, List.set_cons_zero, List.set_cons_succ])))
  refine Ord.ch_turn (v := .bool dd) 0 hT9.out rfl (by decide) (Or.inl rfl) (by rfl) ?_ ?_
  · rintro w5 hC5 ⟨G5, hA5⟩
    simp only [if_true] at hA5
    go_simp
    rw [method_swap]
    simp only [Result.andThen_ok]
    go_simp
    simp only [Ord.LandsIn]
    have hsw := swap_w 5 C 7 0 X 0 q 0 false false HWF.out HQI.out hm 3 4 (by decide) hA5 rfl rfl
    rw [HDD.out] at hsw
    refine hsw.mono ?_
    rintro e w6 ⟨rfl, G6, hE6⟩
    exact ⟨rfl, ⟨hE6.below, hE6.get 0 rfl, hE6.get 1 rfl⟩, G6, hE6⟩
  (try simp only [Act.put, List.setIfInBounds_toArray, List.set_cons_zero, List.set_cons_succ])
  repeat (first
    | (refine Ord.ch_value (v := ?_) hT9.out (by decide) (by rfl) ?_ ?_; rotate_left; (focus (intro w5 hS; skip; go_simp <;> with_reducible rfl)); (try simp only [Act.put, List.setIfInBounds_toArray, List.set_cons_zero, List.set_cons_succ]))
    | (refine Ord.ch_off hT9.out (by decide) (by rfl) ?_; (try simp only [Act.put, List.setIfInBounds_toArray, List.set_cons_zero, List.set_cons_succ])))
  refine Ord.InText.nil fun w5 hS => ?_
  clear hT9
  obtain ⟨hC9, hA9⟩ := Ord.chain_end hS
  clear hS
  obtain ⟨G9, hA9⟩ := hA9
  simp only [List.length_cons, List.length_nil, Nat.zero_add, Nat.one_ne_zero, if_false] at hA9
  clear hC9 hE HTO HDD
  have r := hA9.rule 0 rfl
  unfold ukC at r
  cases dd
  · go_wp2_with fail
    refine (end_r (o := 17) 0 2 (by simp [ukC]) hA9 rfl).mono ?_
    rintro o w5 ⟨rfl, hE5⟩
    go_wp2_with fail
    go_ret
    first | exact ⟨rfl, G9, nx, fun h => absurd h (by decide), hE5⟩ | exact ⟨rfl, G9, nx, hE5⟩
  · go_wp2_with fail
    refine (held_c (hA9.get 1 rfl)).mono ?_
    rintro o w4 ⟨rfl, hb1⟩
    rw [hb]
    have hE2 := (hA9.over hb1).box w4.heap.size rfl [.int .i64 S.hs, .int .i64 0] 136
    clear hb1 hA9 r hb
    go_wp2_with fail
    generalize w4.alloc _ = w6 at *
    generalize w4.heap.size = Y at *
    obtain ⟨S2, hS2⟩ : ∃ S2 : ST, { S with G := G9, f := swf S.f (5, C, 7) X q, qc := swq S.qc true, m := S.m + 1 } = S2 := ⟨_, rfl⟩
    rw [hS2] at hE2
    have HS2 := Lib.hid hS2
    clear hS2
    refine wp_text (S := (Env w0 (boxI Y [.int .i64 S.hs, .int .i64 0] :: boxI l (ukC S.c x y z W C X k key S.hs nx 0) :: LT S2 R))) (by kernel_rfl) (by kernel_rfl) hE2.drew (fun hT => ?_)
    have hT9 := Lib.hid hT
    clear hT
    repeat (first
      | (refine text_value (v := ?_) hT9.out (by rfl) ?_ ?_; rotate_left; (focus (intro w5 hS; have r := hS.rule 1 rfl; have r1 := hS.rule 0 rfl; unfold ukC at r; go_simp <;> with_reducible rfl)); (try simp only [Act.put, List.setIfInBounds_toArray, List.set_cons_zero, List.set_cons_succ]))
      | (refine text_off hT9.out (by rfl) ?_; (try simp only [Act.put, List.setIfInBounds_toArray, List.set_cons_zero, List.set_cons_succ]))
      | (refine text_call (v := ?_) (f := ?_) (args := ?_) hT9.out (by rfl) ?_ ?_ ?_; rotate_left 3; (focus (intro w5 hS; have r := hS.rule 1 rfl; have r1 := hS.rule 0 rfl; unfold ukC at r; go_simp; constructor <;> with_reducible rfl)); (focus (intro w5 hS; (first | fail))); (try simp only [Act.put, List.setIfInBounds_toArray, List.set_cons_zero, List.set_cons_succ])))
    refine InText.nil fun w5 hS5 => ?_
    clear hT9
    clear hE2
    have hc2 : S.c = S2.c := by rw [← HS2.out]
    rw [hc2] at hS5
    clear hc2
    have hh2 : S2.hs ≠ 0 := by rw [← HS2.out]; exact HH0.out
    replace hS5 := hS5.sub (.cons _ (List.Sublist.refl _))
    have r := hS5.rule 0 rfl
    unfold ukC at r
    have HH2 := Lib.hid hh2
    clear hh2
    go_wp2_with fail
    refine (takeYes_c HH2.out 1 hS5 rfl).mono ?_
    rintro o w7 ⟨rfl, hE7⟩
    simp only [List.set_cons_zero, List.set_cons_succ] at hE7
    clear hS5 r
    have r := hE7.rule 0 rfl
    unfold ukC at r
    go_wp2_with fail
    refine (goOn_r (o := 17) 0 _ _ _ (by simp [ukC]) hE7 rfl).mono ?_
    rintro o w8 ⟨rfl, hE8⟩
    go_wp2_with fail
    go_ret
    have h2 := HS2.out
    subst h2
    first | exact ⟨rfl, G9, hE8⟩ | exact ⟨rfl, G9, _, fun _ => rfl, hE8⟩ | exact ⟨rfl, G9, _, rfl, hE8⟩
end
end Go.Proofs.YtdknbegcflldjaaGreatDoor

/- Hash maps: the row u1. -/
namespace Go.Proofs.YtdknbegcflldjaaGreatDoor
open Go.RowKit Go.Maps
set_option maxRecDepth 100000

section
variable {w0 w : World} {R : List Item} {o sb a : Nat} {S : ST} {key val lv rt : Int} {nx lnx : Value} {er st x y z W C X wd vl pv : Int} {dn pf : Bool}
set_option maxHeartbeats 6400000 in
theorem store_t (hh : S.hs ≠ 0) (hhs : In64 S.hs) (hX : InU X) (hg : Glo w0) (hm : S.m < maxLen) (hE : Env w0 (boxI o (opT S.c 4 key val lv rt nx 0 (.pointer (some ⟨sb, 0, none⟩)) er dn vl) :: boxI sb (srC S.c rt key true (.pointer (some ⟨a, 0, none⟩))) :: boxI a (laneC S.c 0 key true lnx st x y z W C X wd pf pv) :: LT S R) w) :
    Calls Tryz.prog 243 #[.pointer (some ⟨o, 0, none⟩), .iface 26 (.pointer (some ⟨S.p, 0, none⟩))] w fun r w' => r = .returned (.int .i64 0) ∧ ∃ G' b1 b2 u, Env w0 (boxI o (opT S.c 4 key val lv rt (cvP b1 b2) 0 (.pointer (some ⟨sb, 0, none⟩)) er dn vl) :: boxI b1 [mvL 224 u] :: boxI b2 [mvL 244 o] :: boxI u (ukC S.c x y z W C X rt key S.hs (mvL 260 u) 0) :: boxI sb (srC S.c rt key true (.pointer (some ⟨a, 0, none⟩))) :: boxI a (laneC S.c 0 key true lnx st x y z W C X wd pf pv) :: LT { S with G := G', f := upd S.f (5, S.hs, 7) (wordI false (slotI X) S.ce), qc := { S.qc with s := wrap64 (S.qc.s + 1) }, m := S.m + 1 } R) w' := by
  have hmf := makeF
  have hah := ahead_store
  have HWF : Hid (Wf (5, S.hs, 7)) := Lib.hid (by unfold Wf; exact ⟨by show In64 5; unfold In64; omega, hhs, by show In64 7; unfold In64; omega⟩)
  have HLE := Lib.hid fun (v : World) (hv : Below w0.heap.size w0 v) => lead_c X 0 false v hX (hg.keep' hv)
  have hqi : InU (wordI false (slotI X) S.ce) := wordI_in _ _ _
  have hto := fun (v : World) (hv : Below w0.heap.size w0 v) (hb : Blk 0 v S.c (crv S.ck S.cs S.cb S.ch S.cl S.ce S.cr S.hs 0 S.q)) => to_c (slotI X) 0 (hg.keep' hv) hb
  have HLK : Hid (∀ v, Calls Tryz.prog 55 #[.int .i64 S.hs, .int .i64 0] v fun e w' => e = .returned (.agg #[.int .i64 5, .int .i64 S.hs, .int .i64 7]) ∧ Below v.heap.size v w') := Lib.hid fun v => by
    have := link_any S.hs 0 v
    rwa [show wrap64 (7 + 0) = 7 by rw [w64 _ (by omega)]; rfl] at this
  obtain ⟨s, hs⟩ : ∃ s, slotI X = s := ⟨_, rfl⟩
  rw [hs] at hqi ⊢
  simp only [hs] at HLE hto
  clear hs
  obtain ⟨q, hq⟩ : ∃ q, wordI false s S.ce = q := ⟨_, rfl⟩
  rw [hq] at hqi ⊢
  simp only [hq] at hto
  have HQI := Lib.hid hqi
  have HTO := Lib.hid hto
  have r := hE.rule 0 rfl
  unfold opT at r
  clear hq hqi hto hhs hX hg hh
  go_enter Tryz.func243, Tryz.ntmps243
  go_wp2_with fail
  refine (held_c (hE.get 3 rfl)).mono ?_
  rintro o1 w1 ⟨rfl, hb1⟩
  have hE2 := (hE.over hb1).box w1.heap.size rfl [.int .i64 S.hs, .int .i64 0] 136
  clear hb1 hE r
  go_wp2_with fail
  generalize w1.alloc _ = w2 at *
  generalize w1.heap.size = Z at *
  obtain ⟨L2, hL2⟩ : ∃ L2, boxI o (opT S.c 4 key val lv rt nx 0 (.pointer (some ⟨sb, 0, none⟩)) er dn vl) :: boxI sb (srC S.c rt key true (.pointer (some ⟨a, 0, none⟩))) :: boxI a (laneC S.c 0 key true lnx st x y z W C X wd pf pv) :: LT S R = L2 := ⟨_, rfl⟩
  rw [hL2] at hE2
  have HL2 := Lib.hid hL2
  clear hL2
  refine Ord3.wp_chain [?_, ?_, ?_, ?_, ?_, ?_, ?_, ?_] [6, 7] (fun v => Blk 0 v Z [.int .i64 S.hs, .int .i64 0]) (Ord3.Stage fun κs => [Env w0 (boxI Z [.int .i64 S.hs, .int .i64 0] :: L2), fun v => ∃ q, κs.getD 0 undef = .pointer (some ⟨q, 0, none⟩) ∧ Env w0 (boxI q [.int .i64 0, .int .i64 0, .int .i64 0, .int .i64 0] :: boxI Z [.int .i64 S.hs, .int .i64 0] :: L2) v, fun v => ∃ q, κs.getD 0 undef = .pointer (some ⟨q, 0, none⟩) ∧ Env w0 (boxI q [.int .i64 5, .int .i64 S.hs, .int .i64 7, .int .i64 0] :: boxI Z [.int .i64 S.hs, .int .i64 0] :: L2) v]) (by kernel_rfl) (by kernel_rfl) (by kernel_rfl) (hE2.drew.get 0 rfl) ⟨_, rfl, hE2.drew⟩ (fun hT => ?_)
  rotate_left 8
  have hT9 := Lib.hid hT
  clear hT
  repeat (first
    | (focus (refine Ord3.in_value (v := ?_) hT9.out (by decide) ?_ (by rfl) ?_ ?_; rotate_left 2; (focus (intro w5 hS; have r1 := Blk.rule hS; go_simp <;> with_reducible rfl)); rotate_right; (focus rfl); (try simp only [Act.put, List.setIfInBounds_toArray, List.set_cons_zero, List.set_cons_succ])))
    | (focus (refine Ord3.in_off hT9.out (by decide) ?_ (by rfl) ?_; (focus rfl); (try simp only [Act.put, List.setIfInBounds_toArray, List.set_cons_zero, List.set_cons_succ])))
    | (focus (refine Ord3.in_call (v := ?_) (f := ?_) (args := ?_) hT9.out (by decide) ?_ (by rfl) ?_ ?_ ?_; rotate_left 4; (focus (intro w5 hS; have r1 := Blk.rule hS; go_simp; constructor <;> with_reducible rfl)); (focus (intro w5 hS; (first | (with_reducible refine (HLK.out _).mono ?_; rintro e w6 ⟨rfl, hb6⟩; constructor; with_reducible rfl; exact ⟨hS.under hb6, fun us h => Ord3.Stage.three h (fun h => h.over hb6) (fun h => h.elim fun q h => ⟨q, h.1, h.2.over hb6⟩) (fun h => h.elim fun q h => ⟨q, h.1, h.2.over hb6⟩)⟩)))); rotate_right; (focus rfl); (try simp only [Act.put, List.setIfInBounds_toArray, List.set_cons_zero, List.set_cons_succ]))))
  refine Ord3.in_turn (fun u => ∃ q, u = .pointer (some ⟨q, 0, none⟩)) _ ⟨0, rfl⟩ hT9.out rfl (by decide) (by rfl) ?_ (Or.inl rfl) (by rfl) ?_ ?_
  · rfl
  · rintro w7 hC7 ⟨P7, hP7, hA7⟩
    cases hP7
    have hE8 := hA7.box w7.heap.size rfl [.int .i64 0, .int .i64 0, .int .i64 0, .int .i64 0] 185
    go_simp
    simp only [Ord3.Lands]
    exact ⟨⟨_, rfl⟩, hE8.get 1 rfl, _, rfl, _, rfl, hE8⟩
  rintro _ ⟨q9, rfl⟩
  (try simp only [Act.put, List.setIfInBounds_toArray, List.set_cons_zero, List.set_cons_succ])
  refine Ord3.in_turn (fun u => u = undef) undef rfl hT9.out rfl (by decide) (by rfl) ?_ (Or.inr ⟨_, 6, [], rfl, by kernel_rfl, by kernel_rfl, rfl⟩) (by rfl) ?_ ?_
  · rfl
  · rintro w7 hC7 ⟨P7, hP7, hA7⟩
    cases hP7
    obtain ⟨q8, he, hA7⟩ := hA7
    cases he
    have r := hA7.rule 0 rfl
    have f0 := hA7.thaw 0 rfl 0 (by simp)
    have f1 := hA7.thaw 0 rfl 1 (by simp)
    have f2 := hA7.thaw 0 rfl 2 (by simp)
    have f3 := hA7.thaw 0 rfl 3 (by simp)
    go_simp
    simp only [Ord3.Lands]
    have hP := (((hA7.put 0 rfl (j := 0) (by simp) (.int .i64 5)).put 0 rfl (j := 1) (by simp) (.int .i64 S.hs)).put 0 rfl (j := 2) (by simp) (.int .i64 7)).put 0 rfl (j := 3) (by simp) (.int .i64 0)
    exact ⟨trivial, hP.get 1 rfl, _, rfl, q9, rfl, hP⟩
  rintro _ rfl
  (try simp only [Act.put, List.setIfInBounds_toArray, List.set_cons_zero, List.set_cons_succ])
  refine Ord3.in_nil rfl ?_
  rintro w9 hC9 ⟨P9, hP9, hA9⟩
  cases hP9
  obtain ⟨q8, he, hA9⟩ := hA9
  cases he
  clear hT9 hC9 hE2 HLK
  rw [← HL2.out] at hA9
  clear HL2
  go_wp2_with fail
  refine Ord.wp_chain [14] (fun v => Below w0.heap.size w0 v ∧ Blk 0 v o (opT S.c 4 key val lv rt nx 0 (.pointer (some ⟨sb, 0, none⟩)) er dn vl) ∧ Blk 0 v sb (srC S.c rt key true (.pointer (some ⟨a, 0, none⟩))) ∧ Blk 0 v a (laneC S.c 0 key true lnx st x y z W C X wd pf pv) ∧ Blk 0 v S.c (crv S.ck S.cs S.cb S.ch S.cl S.ce S.cr S.hs 0 S.q) ∧ Blk 0 v q9 [.int .i64 5, .int .i64 S.hs, .int .i64 7, .int .i64 0]) (fun k w' => ∃ G5, Env w0 (boxI q9 [.int .i64 5, .int .i64 S.hs, .int .i64 7, .int .i64 0] :: boxI Z [.int .i64 S.hs, .int .i64 0] :: boxI o (opT S.c 4 key val lv rt nx 0 (.pointer (some ⟨sb, 0, none⟩)) er dn vl) :: boxI sb (srC S.c rt key true (.pointer (some ⟨a, 0, none⟩))) :: boxI a (laneC S.c 0 key true lnx st x y z W C X wd pf pv) :: LT (if k = 0 then S else { S with G := G5, f := upd S.f (5, S.hs, 7) q, qc := { S.qc with s := wrap64 (S.qc.s + 1) }, m := S.m + 1 }) R) w') (by kernel_rfl) (by kernel_rfl) (by kernel_rfl) ⟨hA9.drew.below, hA9.drew.get 2 rfl, hA9.drew.get 3 rfl, hA9.drew.get 4 rfl, hA9.drew.get 5 rfl, hA9.drew.get 0 rfl⟩ ⟨S.G, hA9.drew⟩ (fun hT => ?_)
  have hT9 := Lib.hid hT
  clear hT
  repeat (first
    | (refine Ord.ch_value (v := ?_) hT9.out (by decide) (by rfl) ?_ ?_; rotate_left; (focus (intro w5 hS; have r := hS.2.1.rule; have r1 := hS.2.2.2.2.2.rule; unfold opT at r; go_simp <;> with_reducible rfl)); (try simp only [Act.put, List.setIfInBounds_toArray, List.set_cons_zero, List.set_cons_succ]))
    | (refine Ord.ch_off hT9.out (by decide) (by rfl) ?_; (try simp only [Act.put, List.setIfInBounds_toArray, List.set_cons_zero, List.set_cons_succ]))
    | (refine Ord.ch_call (v := ?_) (f := ?_) (args := ?_) hT9.out (by decide) (by rfl) ?_ ?_ ?_; rotate_left 3; (focus (intro w5 hS; have r := hS.2.1.rule; have r1 := hS.2.2.2.2.2.rule; unfold opT at r; go_simp; constructor <;> with_reducible rfl)); (focus (intro w5 hS; (first | (with_reducible refine (lane_b hS.2.1 hS.2.2.1).mono ?_; rintro e w6 ⟨rfl, rfl⟩; constructor; with_reducible rfl; exact ⟨hS, fun _ h => h⟩) | (with_reducible refine (out_g hS.2.2.2.1).mono ?_; rintro e w6 ⟨rfl, hb6⟩; constructor; with_reducible rfl; exact ⟨⟨hS.1.trans (hb6.mono hS.1.size), hS.2.1.under hb6, hS.2.2.1.under hb6, hS.2.2.2.1.under hb6, hS.2.2.2.2.1.under hb6, hS.2.2.2.2.2.under hb6⟩, fun k h => h.elim fun G5 h => ⟨G5, h.over hb6⟩⟩) | (with_reducible refine (HLE.out _ hS.1).mono ?_; rintro e w6 ⟨rfl, hb6⟩; constructor; with_reducible rfl; exact ⟨⟨hS.1.trans (hb6.mono hS.1.size), hS.2.1.under hb6, hS.2.2.1.under hb6, hS.2.2.2.1.under hb6, hS.2.2.2.2.1.under hb6, hS.2.2.2.2.2.under hb6⟩, fun k h => h.elim fun G5 h => ⟨G5, h.over hb6⟩⟩) | (with_reducible refine (HTO.out _ hS.1 hS.2.2.2.2.1).mono ?_; rintro e w6 ⟨rfl, hb6⟩; constructor; with_reducible rfl; exact ⟨⟨hS.1.trans (hb6.mono hS.1.size), hS.2.1.under hb6, hS.2.2.1.under hb6, hS.2.2.2.1.under hb6, hS.2.2.2.2.1.under hb6, hS.2.2.2.2.2.under hb6⟩, fun k h => h.elim fun G5 h => ⟨G5, h.over hb6⟩⟩)))); (try simp only [Act.put, List.setIfInBounds_toArray, List.set_cons_zero, List.set_cons_succ])))
  refine Ord.ch_turn (v := .tuple #[]) 0 hT9.out rfl (by decide) (Or.inl rfl) (by rfl) ?_ ?_
  · rintro w5 hC5 ⟨G5, hA5⟩
    simp only [if_true] at hA5
    go_simp
    rw [method_store]
    simp only [Result.andThen_ok]
    go_simp
    simp only [Ord.LandsIn]
    refine (store_w 5 S.hs 7 0 q 0 false HWF.out HQI.out hm 7 8 (by decide) hA5 rfl rfl).mono ?_
    rintro e w6 ⟨rfl, G6, hE6⟩
    exact ⟨rfl, ⟨hE6.below, hE6.get 2 rfl, hE6.get 3 rfl, hE6.get 4 rfl, hE6.get 5 rfl, hE6.get 0 rfl⟩, G6, hE6⟩
  (try simp only [Act.put, List.setIfInBounds_toArray, List.set_cons_zero, List.set_cons_succ])
  repeat (first
    | (refine Ord.ch_value (v := ?_) hT9.out (by decide) (by rfl) ?_ ?_; rotate_left; (focus (intro w5 hS; skip; go_simp <;> with_reducible rfl)); (try simp only [Act.put, List.setIfInBounds_toArray, List.set_cons_zero, List.set_cons_succ]))
    | (refine Ord.ch_off hT9.out (by decide) (by rfl) ?_; (try simp only [Act.put, List.setIfInBounds_toArray, List.set_cons_zero, List.set_cons_succ])))
  refine Ord.InText.nil fun w5 hS => ?_
  clear hT9
  obtain ⟨hC9, hB9⟩ := Ord.chain_end hS
  clear hS
  obtain ⟨G9, hB9⟩ := hB9
  simp only [List.length_cons, List.length_nil, Nat.zero_add, Nat.one_ne_zero, if_false] at hB9
  clear hC9 hA9 HTO HLE
  have r2 := hB9.rule 1 rfl
  obtain ⟨S2, hS2⟩ : ∃ S2 : ST, { S with G := G9, f := upd S.f (5, S.hs, 7) q, qc := { S.qc with s := wrap64 (S.qc.s + 1) }, m := S.m + 1 } = S2 := ⟨_, rfl⟩
  rw [hS2] at hB9
  have hc2 : S.c = S2.c := by rw [← hS2]
  rw [hc2] at hB9
  have HS2 := Lib.hid hS2
  clear hS2
  have hB8 := hB9.sub (.cons _ (.cons _ (List.Sublist.refl _)))
  clear hB9
  have HC2 := Lib.hid hc2
  clear hc2
  go_wp2_with fail
  refine (unlink_t S.hs hB8).mono ?_
  rintro e w4 ⟨rfl, b1, b2, u, hE5⟩
  go_wp2_with fail
  go_ret
  rw [← HC2.out, ← HS2.out] at hE5
  exact ⟨rfl, G9, b1, b2, u, hE5⟩
end
end Go.Proofs.YtdknbegcflldjaaGreatDoor
