/- What is proved on the way to the statement, part 15 of 17: contracts of the functions, among other things in memory. -/
import Derived.Test.YtdknbegcflldjaaGreatDoorE14

/- Hash maps: an op's step, of the program, over the model: its search. -/
namespace Go.Proofs.YtdknbegcflldjaaGreatDoor
open Go.RowKit Go.Maps
set_option maxRecDepth 100000

section
variable {w0 w : World} {L : List Item} {l c : Nat} {b1 b2 : Nat} {x y z W C X k key to : Int}
set_option maxHeartbeats 800000 in
theorem step_u (F p : Nat) (u : Value) (q : Value) (Y : Nat) (hx : ∀ (ar : Array Value) (v : World), (callFunc F ar).run Tryz.prog v = .ok (.enter F ar) v) (hy : ∀ (ar : Array Value) (v : World), (callFunc Y ar).run Tryz.prog v = .ok (.enter Y ar) v) (Q : Int → World → Prop)
    (hE : Env w0 (boxI l (ukC c x y z W C X k key to (cvP b1 b2) 0) :: boxI b1 [mvL F p] :: L) w)
    (hc : Calls Tryz.prog F #[.pointer (some ⟨p, 0, none⟩), u] w fun e w1 => ∃ s, e = .returned (.int .i64 s) ∧ (s = 0 → Q 0 w1) ∧ (s ≠ 0 → w1.cell? ⟨b2, 0, none⟩ = some (.func (.func Y) #[q] #[]) ∧ Calls Tryz.prog Y #[q, .int .i64 s] w1 fun e2 w2 => ∃ s2, e2 = .returned (.int .i64 s2) ∧ Q s2 w2)) :
    Calls Tryz.prog 224 #[.pointer (some ⟨l, 0, none⟩), u] w fun e w' => ∃ s, e = .returned (.int .i64 s) ∧ Q s w' := by
  have HST := Lib.hid (stepP_r (o := 17) F hx (.pointer (some ⟨p, 0, none⟩)) u q Y hy b1 b2 Q (hE.rule 0 rfl 17) (hE.rule 0 rfl 18) (hE.rule 1 rfl 0) hc)
  clear hc hE
  go_enter Tryz.func224, Tryz.ntmps224
  go_wp2_with fail
  refine HST.out.mono ?_
  rintro e w1 ⟨s, rfl, hQ⟩
  go_wp2_with fail
  go_ret
  exact ⟨s, rfl, hQ⟩
set_option maxHeartbeats 800000 in
/-- A step of an Unlink, of a Link, whose next row is a method of its own. -/
theorem stepMv_u (F : Nat) (u : Value) (hx : ∀ (ar : Array Value) (v : World), (callFunc F ar).run Tryz.prog v = .ok (.enter F ar) v) (Q : Ending → World → Prop)
    (hE : Env w0 (boxI l (ukC c x y z W C X k key to (mvL F l) 0) :: L) w)
    (hc : Calls Tryz.prog F #[.pointer (some ⟨l, 0, none⟩), u] w fun e w' => ∃ s, e = .returned (.int .i64 s) ∧ Q (.returned (.int .i64 s)) w') :
    Calls Tryz.prog 224 #[.pointer (some ⟨l, 0, none⟩), u] w Q := by
  have HST := Lib.hid (stepMv_r (o := 17) F hx (.pointer (some ⟨l, 0, none⟩)) u (fun o w' => ∃ s, o = .returned (.int .i64 s) ∧ Q (.returned (.int .i64 s)) w') (hE.rule 0 rfl 17) (hE.rule 0 rfl 18) (hc.mono fun e w' ⟨s, he, hq⟩ => ⟨s, he, s, rfl, hq⟩))
  clear hc hE
  go_enter Tryz.func224, Tryz.ntmps224
  go_wp2_with fail
  refine HST.out.mono ?_
  rintro e w1 ⟨s, rfl, hQ⟩
  go_wp2_with fail
  exact hQ
set_option maxHeartbeats 800000 in
theorem stepMv_k (F : Nat) (u : Value) (hx : ∀ (ar : Array Value) (v : World), (callFunc F ar).run Tryz.prog v = .ok (.enter F ar) v) (Q : Ending → World → Prop)
    (hE : Env w0 (boxI l (lkC c x y z W C X (mvL F l) 0) :: L) w)
    (hc : Calls Tryz.prog F #[.pointer (some ⟨l, 0, none⟩), u] w fun e w' => ∃ s, e = .returned (.int .i64 s) ∧ Q (.returned (.int .i64 s)) w') :
    Calls Tryz.prog 213 #[.pointer (some ⟨l, 0, none⟩), u] w Q := by
  have HST := Lib.hid (stepMv_r (o := 13) F hx (.pointer (some ⟨l, 0, none⟩)) u (fun o w' => ∃ s, o = .returned (.int .i64 s) ∧ Q (.returned (.int .i64 s)) w') (hE.rule 0 rfl 13) (hE.rule 0 rfl 14) (hc.mono fun e w' ⟨s, he, hq⟩ => ⟨s, he, s, rfl, hq⟩))
  clear hc hE
  go_enter Tryz.func213, Tryz.ntmps213
  go_wp2_with fail
  refine HST.out.mono ?_
  rintro e w1 ⟨s, rfl, hQ⟩
  go_wp2_with fail
  exact hQ
end
/-- An op's search, and that search's lane, at its end. -/
abbrev srT (c sb a : Nat) (rt key : Int) : Item := boxI sb (srC c rt key true (.pointer (some ⟨a, 0, none⟩)))
abbrev lnT (c a : Nat) (key : Int) (lnx : Value) (wd : Int) (L : Lm) : Item := boxI a (laneC c 0 key true lnx 1 L.p.1 L.p.2.1 L.p.2.2 L.W L.C L.X wd L.fd L.V)
/-- What an op plays, and what that has: the step, what comes behind its end, its things. -/
def PSub (C : Cf) (c o : Nat) (d : Dd) (K : Kt) (sp : Value) (F Y : Value) (sub : List Item) : Prop :=
  (K.pc = 1 ∧ ∃ sb, sp = .pointer (some ⟨sb, 0, none⟩) ∧ F = mvL 132 sb ∧ Y = mvL 133 o ∧ SIt c sb (rtM C d) d.key true K.on K.L 0 sub) ∨
  (K.pc = 2 ∧ ∃ a left s gl, F = mvL 251 a ∧ Y = cmV c d.ok d.key d.val d.lv o 6 84 208 ∧ LeftIs C d K.T left s gl ∧ sub = boxI a (avD c a d K.T left s) :: gl) ∨
  (K.pc = 3 ∧ ∃ l, F = mvL 213 l ∧ Y = mvL 214 o ∧ sub = [boxI l (lkC c K.L.p.1 K.L.p.2.1 K.L.p.2.2 K.L.W K.L.C K.L.X (mvL (if K.laid then 277 else 247) l) 0)]) ∨
  ((K.pc = 4 ∨ K.pc = 5) ∧ ∃ l sb a lnx wd, sp = .pointer (some ⟨sb, 0, none⟩) ∧ F = mvL 224 l ∧ Y = mvL 244 o ∧ sub = [boxI l (ukC c K.L.p.1 K.L.p.2.1 K.L.p.2.2 K.L.W K.L.C K.L.X (rtM C d) d.key K.to (mvL (if K.pc = 4 then 260 else 287) l) 0), srT c sb a (rtM C d) d.key, lnT c a d.key lnx wd K.L]) ∨
  (K.pc = 6 ∧ ∃ l sb a lnx wd b3 b4 s2 sub2, sp = .pointer (some ⟨sb, 0, none⟩) ∧ F = mvL 224 l ∧ Y = mvL 244 o ∧ SIt c s2 (rtM C d) d.key false K.on2 K.L2 0 sub2 ∧ sub = boxI l (ukC c K.L.p.1 K.L.p.2.1 K.L.p.2.2 K.L.W K.L.C K.L.X (rtM C d) d.key K.to (cvP b3 b4) 0) :: srT c sb a (rtM C d) d.key :: lnT c a d.key lnx wd K.L :: boxI b3 [mvL 132 s2] :: boxI b4 [mvL 305 l] :: sub2) ∨
  (K.pc = 7 ∧ ∃ l sb a lnx wd b3 b4 r, sp = .pointer (some ⟨sb, 0, none⟩) ∧ F = mvL 224 l ∧ Y = mvL 244 o ∧ sub = [boxI l (ukC c K.L.p.1 K.L.p.2.1 K.L.p.2.2 K.L.W K.L.C K.L.X (rtM C d) d.key K.to (cvP b3 b4) 0), srT c sb a (rtM C d) d.key, lnT c a d.key lnx wd K.L, boxI b3 [mvL 322 r], boxI b4 [mvE l 17], boxI r (rtv c (nxR r K.T.rpc) K.T.rs K.T.re)])
def PM (C : Cf) (c : Nat) (d : Dd) (K : Kt) (o : Nat) (ps : List Item) : Prop :=
  (∃ b1 b2 F Y sp sub, ps = boxI o (opT c d.ok d.key d.val d.lv (rtM C d) (cvP b1 b2) 0 sp 0 false 0) :: boxI b1 [F] :: boxI b2 [Y] :: sub ∧ PSub C c o d K sp F Y sub) ∨
  (K.pc = 9 ∧ d.ok = 4 ∧ ∃ sb a lnx wd, ps = [boxI o (opT c d.ok d.key d.val d.lv (rtM C d) (mvL 243 o) 0 (.pointer (some ⟨sb, 0, none⟩)) 0 false 0), srT c sb a (rtM C d) d.key, lnT c a d.key lnx wd K.L])
/-- How an op's step leaves things. -/
def OutP (w0 : World) (R : List Item) (C : Cf) (X : Tm) (V : Wm) (d : Dd) (o n : Nat) (qc : Cnt) (q : Int × Kt × Mem) (s : Int) (w' : World) : Prop :=
  s = q.1 ∧ ∃ F' k' G' qc' n' ps', Nx n qc n' qc' ∧ (q.1 = 0 → PM C X.c d q.2.1 o ps') ∧ (q.1 ≠ 0 → ∃ nx sp, ps' = [boxI o (opT X.c d.ok d.key d.val d.lv (rtM C d) nx q.1 sp q.2.1.err q.2.1.dn q.2.1.vl)]) ∧ Env w0 (ps' ++ LT (SPK C { X with F := F', kq := k' } V q.2.1 q.2.2 G' qc' n') R) w'

theorem OutP.fin {w0 w : World} {R : List Item} {C : Cf} {X : Tm} {V : Wm} {d : Dd} {o n n' : Nat} {K : Kt} {f : Mem} {G : Nat → Prop} {qc qc0 : Cnt} {F : Nat → Prop} {k : Nat} {nx sp : Value} {s : Int} (hs : s ≠ 0) (hn : Nx n qc0 n' qc) (hE : Env w0 (boxI o (opT X.c d.ok d.key d.val d.lv (rtM C d) nx s sp K.err K.dn K.vl) :: LT (SPK C { X with F := F, kq := k } V K f G qc n') R) w) : OutP w0 R C X V d o n qc0 (s, K, f) s w :=
  ⟨rfl, F, k, G, qc, n', [_], hn, fun h => absurd h hs, fun _ => ⟨nx, sp, rfl⟩, hE⟩
theorem OutP.go {w0 w : World} {R sub : List Item} {C : Cf} {X : Tm} {V : Wm} {d : Dd} {o n n' b1 b2 : Nat} {K : Kt} {f : Mem} {G : Nat → Prop} {qc qc0 : Cnt} {F : Nat → Prop} {k : Nat} {sp F9 Y : Value} (hn : Nx n qc0 n' qc) (hp : PSub C X.c o d K sp F9 Y sub) (hE : Env w0 (boxI o (opT X.c d.ok d.key d.val d.lv (rtM C d) (cvP b1 b2) 0 sp 0 false 0) :: boxI b1 [F9] :: boxI b2 [Y] :: (sub ++ LT (SPK C { X with F := F, kq := k } V K f G qc n') R)) w) : OutP w0 R C X V d o n qc0 (0, K, f) 0 w :=
  ⟨rfl, F, k, G, qc, n', boxI o _ :: boxI b1 _ :: boxI b2 _ :: sub, hn, fun _ => .inl ⟨b1, b2, F9, Y, sp, sub, rfl, hp⟩, fun h => absurd rfl h, hE⟩
theorem OutP.row {w0 w : World} {R : List Item} {C : Cf} {X : Tm} {V : Wm} {d : Dd} {o n n' sb a : Nat} {lnx : Value} {wd : Int} {K : Kt} {f : Mem} {G : Nat → Prop} {qc qc0 : Cnt} {F : Nat → Prop} {k : Nat} (hn : Nx n qc0 n' qc) (hp : K.pc = 9) (hd : d.ok = 4) (hE : Env w0 (boxI o (opT X.c d.ok d.key d.val d.lv (rtM C d) (mvL 243 o) 0 (.pointer (some ⟨sb, 0, none⟩)) 0 false 0) :: srT X.c sb a (rtM C d) d.key :: lnT X.c a d.key lnx wd K.L :: LT (SPK C { X with F := F, kq := k } V K f G qc n') R) w) : OutP w0 R C X V d o n qc0 (0, K, f) 0 w :=
  ⟨rfl, F, k, G, qc, n', [_, _, _], hn, fun _ => .inr ⟨hp, hd, sb, a, lnx, wd, rfl⟩, fun h => absurd rfl h, hE⟩
theorem search_state (k key : Int) (vs : Bool) (T : Sm) (f : Mem) : (searchM k key vs T f).1 = 0 ∨ ((searchM k key vs T f).1 = 1 ∧ (searchM k key vs T f).2.1.on = true) := by
  unfold searchM
  by_cases h : T.on = true
  · rw [if_pos h]
    dsimp only
    by_cases h1 : (laneM 0 key vs T.e T.L f).1 = 1
    · rw [if_pos h1]
      exact .inr ⟨rfl, by rw [h1]; decide⟩
    · rw [if_neg h1]
      exact .inl rfl
  · rw [if_neg h]
    exact .inl rfl
theorem rest_perm (a b c : Item) (S : ST) (sub R : List Item) : (a :: b :: c :: (sub ++ LT S R)).Perm (sub ++ LT S (a :: b :: c :: R)) := perm_of fun z => by
  simp only [LT, List.count_append, List.count_cons]
  omega
section
variable {w0 w : World} {R sub : List Item} {C : Cf} {X : Tm} {V : Wm} {K : Kt} {d : Dd} {f : Mem} {G : Nat → Prop} {qc : Cnt} {n o sb b1 b2 : Nat}
set_option maxHeartbeats 6400000 in
/-- What comes behind the end of an op's search. -/
theorem found_p (K' : Kt) (hX : InU K'.L.X) (hd1 : K'.err = 0 ∧ K'.dn = false ∧ K'.vl = 0) (hl : K'.T.ql.length + 1 ≤ 1000000) (hg : Glo w0) (a : Nat) (lnx : Value) (wd : Int) {w1 : World} {n1 : Nat} {qc0 : Cnt} (hn1 : Nx n qc0 n1 qc)
    (hE : Env w0 (boxI o (opT X.c d.ok d.key d.val d.lv (rtM C d) (cvP b1 b2) 0 (.pointer (some ⟨sb, 0, none⟩)) 0 false 0) :: srT X.c sb a (rtM C d) d.key :: lnT X.c a d.key lnx wd K'.L :: LT (SPK C X V K' f G qc n1) R) w1) (u : Int) :
    Calls Tryz.prog 133 #[.pointer (some ⟨o, 0, none⟩), .int .i64 u] w1 fun e2 w2 => ∃ s2, e2 = .returned (.int .i64 s2) ∧ OutP w0 R C X V d o n qc0 ((foundM C d K').1, (foundM C d K').2, f) s2 w2 := by
  obtain ⟨hd1, hd2, hd3⟩ := hd1
  obtain ⟨kk, ok, key, val, lv⟩ := d
  obtain ⟨T', pc', on', L', laid', on2', L2', err', dn', r', to', vl'⟩ := K'
  dsimp only at hd1 hd2 hd3 hX hl
  subst hd1
  subst hd2
  subst hd3
  generalize hrt : rtM C ⟨kk, ok, key, val, lv⟩ = rt at *
  cases hfd : L'.fd
  · have hE9 : Env w0 (boxI o (opT X.c ok key val lv rt (cvP b1 b2) 0 (.pointer (some ⟨sb, 0, none⟩)) 0 false 0) :: boxI sb (srC X.c rt key true (.pointer (some ⟨a, 0, none⟩))) :: boxI a (laneC X.c 0 key true lnx 1 L'.p.1 L'.p.2.1 L'.p.2.2 L'.W L'.C L'.X wd false L'.V) :: LT (SPK C X V ⟨T', pc', on', L', laid', on2', L2', 0, false, r', to', 0⟩ f G qc n1) R) w1 := by dsimp only [lnT] at hE; rw [hfd] at hE; exact hE
    clear hE
    refine searchedNo_t (S := SPK C X V ⟨T', pc', on', L', laid', on2', L2', 0, false, r', to', 0⟩ f G qc n1) u _ hE9 ?_
    by_cases h45 : ok = 4 ∨ ok = 5
    · by_cases hh : T'.hs = 0
      · by_cases hdp : decP T'.ql T'.e C.l = 0
        · have hM : foundM C ⟨kk, ok, key, val, lv⟩ ⟨T', pc', on', L', laid', on2', L2', 0, false, r', to', 0⟩ = (1, ⟨T', pc', on', L', laid', on2', L2', 7, false, r', to', 0⟩) := by simp [foundM, takeM, hfd, h45, hh, hdp]
          rw [hM]
          refine (missedLate_t (S := SPK C X V ⟨T', pc', on', L', laid', on2', L2', 0, false, r', to', 0⟩ f G qc n1) h45 hh hdp hE9).mono ?_
          rintro e w2 ⟨rfl, hE2⟩
          subst hrt
          exact ⟨1, rfl, OutP.fin (F := X.F) (k := X.kq) (show (1 : Int) ≠ 0 by decide) hn1 hE2⟩
        · have hM : foundM C ⟨kk, ok, key, val, lv⟩ ⟨T', pc', on', L', laid', on2', L2', 0, false, r', to', 0⟩ = (0, ⟨{ T' with pc := 2, apc := decP T'.ql T'.e C.l, ah := 0, an := 0, ar := 0 }, 2, on', L', laid', on2', L2', 0, false, r', to', 0⟩) := by simp [foundM, takeM, hfd, h45, hh, hdp]
          rw [hM]
          refine (missedAlloc_t (S := SPK C X V ⟨T', pc', on', L', laid', on2', L2', 0, false, r', to', 0⟩ f G qc n1) h45 hh hdp hE9).mono ?_
          rintro e w2 ⟨rfl, c1, c2, l, hE2⟩
          have hlow : decP T'.ql T'.e C.l ≤ 10 := by rcases decP_in T'.ql T'.e C.l with h9 | h9 | h9 | h9 <;> omega
          subst hrt
          exact ⟨0, rfl, OutP.go (F := X.F) (k := X.kq) (sub := [_]) hn1 (.inr (.inl ⟨rfl, l, .slice none 0 0, 0, [], rfl, rfl, LeftIs.low hlow, rfl⟩)) hE2⟩
      · have hM : foundM C ⟨kk, ok, key, val, lv⟩ ⟨T', pc', on', L', laid', on2', L2', 0, false, r', to', 0⟩ = (0, ⟨T', 3, on', L', false, on2', L2', 0, false, r', to', 0⟩) := by simp [foundM, hfd, h45, hh]
        rw [hM]
        refine (missedLink_t (S := SPK C X V ⟨T', pc', on', L', laid', on2', L2', 0, false, r', to', 0⟩ f G qc n1) h45 hh hE9).mono ?_
        rintro e w2 ⟨rfl, c1, c2, l, hE2⟩
        subst hrt
        exact ⟨0, rfl, OutP.go (F := X.F) (k := X.kq) (sub := [_]) hn1 (.inr (.inr (.inl ⟨rfl, l, rfl, rfl, rfl⟩))) hE2⟩
    · have h4 : ok ≠ 4 := fun h => h45 (.inl h)
      have h5 : ok ≠ 5 := fun h => h45 (.inr h)
      have hM : foundM C ⟨kk, ok, key, val, lv⟩ ⟨T', pc', on', L', laid', on2', L2', 0, false, r', to', 0⟩ = (1, ⟨T', pc', on', L', laid', on2', L2', 0, false, r', to', 0⟩) := by simp [foundM, hfd, h4, h5]
      rw [hM]
      refine (missedNo_t (S := SPK C X V ⟨T', pc', on', L', laid', on2', L2', 0, false, r', to', 0⟩ f G qc n1) h4 h5 hE9).mono ?_
      rintro e w2 ⟨rfl, hE2⟩
      subst hrt
      exact ⟨1, rfl, OutP.fin (F := X.F) (k := X.kq) (show (1 : Int) ≠ 0 by decide) hn1 hE2⟩
  · have hE9 : Env w0 (boxI o (opT X.c ok key val lv rt (cvP b1 b2) 0 (.pointer (some ⟨sb, 0, none⟩)) 0 false 0) :: boxI sb (srC X.c rt key true (.pointer (some ⟨a, 0, none⟩))) :: boxI a (laneC X.c 0 key true lnx 1 L'.p.1 L'.p.2.1 L'.p.2.2 L'.W L'.C L'.X wd true L'.V) :: LT (SPK C X V ⟨T', pc', on', L', laid', on2', L2', 0, false, r', to', 0⟩ f G qc n1) R) w1 := by dsimp only [lnT] at hE; rw [hfd] at hE; exact hE
    clear hE
    have hln : lnT X.c a key lnx wd L' = boxI a (laneC X.c 0 key true lnx 1 L'.p.1 L'.p.2.1 L'.p.2.2 L'.W L'.C L'.X wd true L'.V) := by dsimp only [lnT]; rw [hfd]
    refine searchedYes_t (S := SPK C X V ⟨T', pc', on', L', laid', on2', L2', 0, false, r', to', 0⟩ f G qc n1) u _ hE9 ?_
    by_cases h4 : ok = 4
    · subst h4
      by_cases hh : T'.hs = 0
      · by_cases hdp : decP T'.ql T'.e C.l = 0
        · have hM : foundM C ⟨kk, 4, key, val, lv⟩ ⟨T', pc', on', L', laid', on2', L2', 0, false, r', to', 0⟩ = (1, ⟨T', pc', on', L', laid', on2', L2', 7, false, r', to', 0⟩) := by simp [foundM, takeM, hfd, hh, hdp]
          rw [hM]
          refine (foundPutLate_t (S := SPK C X V ⟨T', pc', on', L', laid', on2', L2', 0, false, r', to', 0⟩ f G qc n1) hh hdp hE9).mono ?_
          rintro e w2 ⟨rfl, hE2⟩
          subst hrt
          exact ⟨1, rfl, OutP.fin (F := X.F) (k := X.kq) (show (1 : Int) ≠ 0 by decide) hn1 hE2⟩
        · have hM : foundM C ⟨kk, 4, key, val, lv⟩ ⟨T', pc', on', L', laid', on2', L2', 0, false, r', to', 0⟩ = (0, ⟨{ T' with pc := 2, apc := decP T'.ql T'.e C.l, ah := 0, an := 0, ar := 0 }, 2, on', L', laid', on2', L2', 0, false, r', to', 0⟩) := by simp [foundM, takeM, hfd, hh, hdp]
          rw [hM]
          refine (foundPutAlloc_t (S := SPK C X V ⟨T', pc', on', L', laid', on2', L2', 0, false, r', to', 0⟩ f G qc n1) hh hdp hE9).mono ?_
          rintro e w2 ⟨rfl, c1, c2, l, hE2⟩
          have hlow : decP T'.ql T'.e C.l ≤ 10 := by rcases decP_in T'.ql T'.e C.l with h9 | h9 | h9 | h9 <;> omega
          subst hrt
          exact ⟨0, rfl, OutP.go (F := X.F) (k := X.kq) (sub := [_]) hn1 (.inr (.inl ⟨rfl, l, .slice none 0 0, 0, [], rfl, rfl, LeftIs.low hlow, rfl⟩)) hE2⟩
      · have hM : foundM C ⟨kk, 4, key, val, lv⟩ ⟨T', pc', on', L', laid', on2', L2', 0, false, r', to', 0⟩ = (0, ⟨T', 9, on', L', laid', on2', L2', 0, false, r', to', 0⟩) := by simp [foundM, hfd, hh]
        rw [hM]
        refine (foundPutHeld_t (S := SPK C X V ⟨T', pc', on', L', laid', on2', L2', 0, false, r', to', 0⟩ f G qc n1) hh hE9).mono ?_
        rintro e w2 ⟨rfl, hE2⟩
        subst hrt
        rw [show (SPK C X V ⟨T', pc', on', L', laid', on2', L2', 0, false, r', to', 0⟩ f G qc n1).c = X.c from rfl, ← hln] at hE2
        exact ⟨0, rfl, OutP.row (F := X.F) (k := X.kq) hn1 rfl rfl hE2⟩
    · by_cases h6 : ok = 6
      · subst h6
        have hM : foundM C ⟨kk, 6, key, val, lv⟩ ⟨T', pc', on', L', laid', on2', L2', 0, false, r', to', 0⟩ = (0, ⟨T', 4, on', L', laid', on2', L2', 0, false, r', slotI L'.X, 0⟩) := by simp [foundM, hfd]
        rw [hM]
        refine (foundRem_t (S := SPK C X V ⟨T', pc', on', L', laid', on2', L2', 0, false, r', to', 0⟩ f G qc n1) hX hg hE9).mono ?_
        rintro e w2 ⟨rfl, c1, c2, l, hE2⟩
        subst hrt
        rw [show (SPK C X V ⟨T', pc', on', L', laid', on2', L2', 0, false, r', to', 0⟩ f G qc n1).c = X.c from rfl, ← hln] at hE2
        exact ⟨0, rfl, OutP.go (F := X.F) (k := X.kq) (sub := [_, _, _]) hn1 (.inr (.inr (.inr (.inl ⟨.inl rfl, l, sb, a, lnx, wd, rfl, rfl, rfl, rfl⟩)))) hE2⟩
      · by_cases h5 : ok = 5
        · subst h5
          have hM : foundM C ⟨kk, 5, key, val, lv⟩ ⟨T', pc', on', L', laid', on2', L2', 0, false, r', to', 0⟩ = (1, ⟨{ T' with ql := dropQ T'.hs T'.ql, hs := 0 }, pc', on', L', laid', on2', L2', 0, false, r', to', L'.V⟩) := by simp [foundM, hfd]
          rw [hM]
          refine (foundAdd_t (S := SPK C X V ⟨T', pc', on', L', laid', on2', L2', 0, false, r', to', 0⟩ f G qc n1) (Nat.le_trans hl (by decide)) hE9).mono ?_
          rintro e w2 ⟨rfl, F', k', hE2⟩
          subst hrt
          exact ⟨1, rfl, OutP.fin (F := F') (k := k') (show (1 : Int) ≠ 0 by decide) hn1 hE2⟩
        · have hM : foundM C ⟨kk, ok, key, val, lv⟩ ⟨T', pc', on', L', laid', on2', L2', 0, false, r', to', 0⟩ = (1, ⟨T', pc', on', L', laid', on2', L2', 0, true, r', to', L'.V⟩) := by simp [foundM, hfd, h4, h5, h6]
          rw [hM]
          refine (foundGet_t (S := SPK C X V ⟨T', pc', on', L', laid', on2', L2', 0, false, r', to', 0⟩ f G qc n1) h4 h5 h6 hE9).mono ?_
          rintro e w2 ⟨rfl, hE2⟩
          subst hrt
          exact ⟨1, rfl, OutP.fin (F := X.F) (k := X.kq) (show (1 : Int) ≠ 0 by decide) hn1 hE2⟩
set_option maxHeartbeats 3200000 in
theorem op1_p (hpc : K.pc = 1) (hon : K.on = true → LaneOk C K.L) (hsp : (searchM (rtM C d) d.key true ⟨K.on, K.L, K.T.e, K.r⟩ f).1 = 1 → InU (searchM (rtM C d) d.key true ⟨K.on, K.L, K.T.e, K.r⟩ f).2.1.L.X) (hda : K.err = 0 ∧ K.dn = false ∧ K.vl = 0) (hl : K.T.ql.length + 1 ≤ 1000000) (hg : Glo w0) (hn : n < maxLen) (hS : SIt X.c sb (rtM C d) d.key true K.on K.L 0 sub)
    (hE : Env w0 (boxI o (opT X.c d.ok d.key d.val d.lv (rtM C d) (cvP b1 b2) 0 (.pointer (some ⟨sb, 0, none⟩)) 0 false 0) :: boxI b1 [mvL 132 sb] :: boxI b2 [mvL 133 o] :: (sub ++ LT (SPK C X V K f G qc n) R)) w) :
    Calls Tryz.prog 33 #[.pointer (some ⟨o, 0, none⟩), .iface 26 (.pointer (some ⟨V.p, 0, none⟩))] w fun e w' => ∃ s, e = .returned (.int .i64 s) ∧ OutP w0 R C X V d o n qc (opM C d K f) s w' := by
  have hM : opM C d K f = if (searchM (rtM C d) d.key true ⟨K.on, K.L, K.T.e, K.r⟩ f).1 = 1 then ((foundM C d { K with on := (searchM (rtM C d) d.key true ⟨K.on, K.L, K.T.e, K.r⟩ f).2.1.on, L := (searchM (rtM C d) d.key true ⟨K.on, K.L, K.T.e, K.r⟩ f).2.1.L, r := (searchM (rtM C d) d.key true ⟨K.on, K.L, K.T.e, K.r⟩ f).2.1.r, T := { K.T with e := (searchM (rtM C d) d.key true ⟨K.on, K.L, K.T.e, K.r⟩ f).2.1.e } }).1, (foundM C d { K with on := (searchM (rtM C d) d.key true ⟨K.on, K.L, K.T.e, K.r⟩ f).2.1.on, L := (searchM (rtM C d) d.key true ⟨K.on, K.L, K.T.e, K.r⟩ f).2.1.L, r := (searchM (rtM C d) d.key true ⟨K.on, K.L, K.T.e, K.r⟩ f).2.1.r, T := { K.T with e := (searchM (rtM C d) d.key true ⟨K.on, K.L, K.T.e, K.r⟩ f).2.1.e } }).2, (searchM (rtM C d) d.key true ⟨K.on, K.L, K.T.e, K.r⟩ f).2.2) else (0, { K with on := (searchM (rtM C d) d.key true ⟨K.on, K.L, K.T.e, K.r⟩ f).2.1.on, L := (searchM (rtM C d) d.key true ⟨K.on, K.L, K.T.e, K.r⟩ f).2.1.L, r := (searchM (rtM C d) d.key true ⟨K.on, K.L, K.T.e, K.r⟩ f).2.1.r, T := { K.T with e := (searchM (rtM C d) d.key true ⟨K.on, K.L, K.T.e, K.r⟩ f).2.1.e } }, (searchM (rtM C d) d.key true ⟨K.on, K.L, K.T.e, K.r⟩ f).2.2) := by
    unfold opM
    rw [if_pos hpc]
  rw [hM]
  refine step_tV 132 sb 133 (.pointer (some ⟨o, 0, none⟩)) _ (fun _ _ => by kernel_rfl) (fun _ _ => by kernel_rfl) _ hE ?_
  refine (search_I (C := C) (X := X) (V := V) (T := K.T) (r := K.r) hon hg hn hS (hE.perm (rest_perm _ _ _ _ _ _))).mono ?_
  rintro e w1 ⟨rfl, G', qc', n', sub', hn', hS', hE'⟩
  have hst := search_state (rtM C d) d.key true ⟨K.on, K.L, K.T.e, K.r⟩ f
  generalize searchM (rtM C d) d.key true ⟨K.on, K.L, K.T.e, K.r⟩ f = q at *
  obtain ⟨q1, ⟨on', L', e', r'⟩, f'⟩ := q
  dsimp only at hst hS' hE' hsp ⊢
  have hE2 := hE'.perm (rest_perm _ _ _ _ _ _).symm
  refine ⟨q1, rfl, fun h0 => ?_, fun h0 => ?_⟩
  · subst h0
    rw [if_neg (by decide)]
    exact OutP.go (F := X.F) (k := X.kq) hn' (.inl ⟨hpc, sb, rfl, rfl, rfl, hS'⟩) hE2
  · rcases hst with h9 | ⟨h9, h8⟩
    · exact absurd h9 h0
    · subst h9
      subst h8
      rw [if_pos rfl]
      rcases hS' with ⟨h7, -⟩ | ⟨-, a, nx, wd, B1, B2, -, rfl⟩
      · exact absurd h7 (by decide)
      · refine ⟨hE2.rule 2 rfl 0, ?_⟩
        have hE3 := hE2.sub (L' := boxI o (opT X.c d.ok d.key d.val d.lv (rtM C d) (cvP b1 b2) 0 (.pointer (some ⟨sb, 0, none⟩)) 0 false 0) :: boxI sb (srC X.c (rtM C d) d.key true (.pointer (some ⟨a, 0, none⟩))) :: boxI a (laneV X.c 0 d.key true nx 1 wd (pfS 1 L') (pvS 1 L') L') :: LT (SP C { X with cr := r' } V { K.T with e := e' } f' G' qc' n') R) (.cons_cons _ (.cons _ (.cons _ (.cons_cons _ (.cons_cons _ (.cons _ (.cons _ (List.Sublist.refl _))))))))
        exact found_p (C := C) (X := X) (V := V) (d := d) (f := f') (G := G') (qc := qc') (n := n) { K with on := true, L := L', r := r', T := { K.T with e := e' } } (hsp rfl) hda hl hg a nx wd hn' hE3 1
end
end Go.Proofs.YtdknbegcflldjaaGreatDoor

/- Hash maps, by plain mathematics: what memory and each thread keep. -/
namespace Go.Proofs.YtdknbegcflldjaaGreatDoor
open Go.RowKit Go.Maps
set_option maxRecDepth 100000

/-- What holds of a thread; d: the op that was begun last. -/
structure KOk (C : Cf) (ds : List Dd) (B : Nat) (d : Dd) (K : Kt) : Prop where
  (t : OkT C ds B K.T)
  (tp : K.T.pc = if K.pc = 2 then 2 else if K.pc = 7 then 3 else if K.pc = 8 then 4 else 0)
  (pc : K.pc ≤ 9)
  (da : 1 ≤ K.pc → K.pc ≠ 8 → K.err = 0 ∧ K.dn = false ∧ K.vl = 0)
  (s1 : K.pc = 1 → K.on = true → LaneOk C K.L)
  (s2 : K.pc = 6 → K.on2 = true → LaneOk C K.L2)
  (sp : 3 ≤ K.pc → K.pc ≠ 8 → SpotOk C K.L)
  (un : 4 ≤ K.pc → K.pc ≠ 8 → markB K.L.X = false ∧ 1 ≤ K.L.C)
  (to : 4 ≤ K.pc → K.pc ≤ 7 → K.to ≤ C.s)
  (ins : K.pc = 2 ∨ K.pc = 3 → d.ok = 4 ∨ d.ok = 5)
  (pu : K.pc = 9 → d.ok = 4)
  (lk : K.pc = 3 ∨ K.pc = 9 → K.T.hs ≠ 0)
  (ho : K.T.hs ≠ 0 → (K.pc = 1 ∨ K.pc = 2 ∨ K.pc = 3 ∨ K.pc = 9 ∨ (K.pc = 4 ∧ K.to = K.T.hs)) ∧ (d.ok = 4 ∨ d.ok = 5))
  (kk : K.pc = 2 → K.T.apc ≤ 10 ∨ K.T.apc - 10 < (WD C d K.T).length)
  (nd : K.pc ≠ 0 → 1 ≤ K.T.nd)

section
variable {C : Cf} {ds : List Dd} {B : Nat} {T : Th} {d : Dd} {K : Kt} {f : Mem}
theorem OkT.idle (h : OkT C ds B T) {x : Int} {y : Bool} (hx : 0 ≤ x ∧ x ≤ B) : OkT C ds B { T with pc := 0, done := x, full := y } :=
  { e := h.e, w := h.w, hs := h.hs, rs := h.rs, ql := h.ql, nd := h.nd, len := h.len, done := hx, pc := .inl rfl, p1 := fun h => no h rfl, nd1 := fun h => absurd rfl h, apc := fun h => no h rfl, low := fun h => no h rfl, adv := fun h => no h rfl, born := fun h => no h rfl, pool := fun h => no h rfl, an := h.an, rpc := fun h => no h rfl, rsp := fun h => no h rfl, re := h.re, gpc := h.gpc, give := fun h => no h rfl, ghu := h.ghu, gh := h.gh, gv := fun h => no h rfl }
theorem OkT.idle0 (h : OkT C ds B T) : OkT C ds B { T with pc := 0 } := h.idle h.done
theorem OkT.epoch (h : OkT C ds B T) (h0 : T.pc = 0) {x : Int} (hx : 0 ≤ x ∧ x ≤ C.l) : OkT C ds B { T with e := x } :=
  { e := hx, w := h.w, hs := h.hs, rs := h.rs, ql := h.ql, nd := h.nd, len := h.len, done := h.done, pc := h.pc, p1 := h.p1, nd1 := h.nd1, apc := h.apc, low := h.low, adv := fun h9 => no (h0.symm.trans h9) rfl, born := h.born, pool := h.pool, an := h.an, rpc := h.rpc, rsp := h.rsp, re := h.re, gpc := h.gpc, give := h.give, ghu := h.ghu, gh := h.gh, gv := h.gv }
/-- The same thread, but for what no step asks. -/
theorem OkT.same {T1 : Th} (h : OkT C ds B T) (hp : T.pc = T1.pc) {x : Nat} {y : Int} {z : Bool} (he : T = { T1 with pc := x, done := y, full := z }) (hd : 0 ≤ T1.done ∧ T1.done ≤ B) : OkT C ds B T1 := by
  subst he
  have hx : x = T1.pc := hp
  subst hx
  exact { e := h.e, w := h.w, hs := h.hs, rs := h.rs, ql := h.ql, nd := h.nd, len := h.len, done := hd, pc := h.pc, p1 := h.p1, nd1 := h.nd1, apc := h.apc, low := h.low, adv := h.adv, born := h.born, pool := h.pool, an := h.an, rpc := h.rpc, rsp := h.rsp, re := h.re, gpc := h.gpc, give := h.give, ghu := h.ghu, gh := h.gh, gv := h.gv }
theorem epI_in0 {x l : Int} (h0 : 0 ≤ x) (h : x ≤ l) (hl : 0 ≤ l) : 0 ≤ epI x ∧ epI x ≤ l := by
  unfold epI
  split <;> omega
/-- A search turns no word but those that lead from slot to slot. -/
theorem search_mem (k key : Int) (vs : Bool) {on : Bool} {L : Lm} {e r : Int} (h : on = true → (∃ r, L.p = (4, 0, r)) ∨ ∃ c, L.p = (5, c, 7)) (f : Mem) : (searchM k key vs ⟨on, L, e, r⟩ f).2.2 = f ∨ ∃ p v, ((∃ r, p = (4, 0, r)) ∨ ∃ c, p = (5, c, 7)) ∧ (searchM k key vs ⟨on, L, e, r⟩ f).2.2 = upd f p v ∧ v = wordI false (slotI L.X) e := by
  cases on
  · exact .inl rfl
  · have hM : (searchM k key vs ⟨true, L, e, r⟩ f).2.2 = (laneM 0 key vs e L f).2.2 := by unfold searchM; rw [if_pos rfl]
    rw [hM]
    unfold laneM
    repeat' split
    all_goals first
      | exact .inl rfl
      | (rename_i h9; refine .inr ⟨L.p, wordI false (slotI L.X) e, h rfl, ?_, rfl⟩; show swf f L.p L.W _ = _; unfold swf; rw [if_pos h9])
      | (rename_i h9; refine .inl ?_; show swf f L.p L.W _ = _; unfold swf; rw [if_neg h9])
theorem LnkF.upd {p : Plc} {v : Int} (h : LnkF C f) (hv : slotI v ≤ C.s) : LnkF C (upd f p v) := by
  refine ⟨fun r => ?_, fun i => ?_⟩
  · by_cases hp : p = (4, 0, r)
    · subst hp; rw [upd_same]; exact hv
    · rw [upd_other f v (fun e => hp e.symm)]; exact h.root r
  · by_cases hp : p = (5, i, 7)
    · subst hp; rw [upd_same]; exact hv
    · rw [upd_other f v (fun e => hp e.symm)]; exact h.link i
theorem LnkF.updo {p : Plc} {v : Int} (h : LnkF C f) (h1 : ∀ r, p ≠ (4, 0, r)) (h2 : ∀ i, p ≠ (5, i, 7)) : LnkF C (Go.Proofs.YtdknbegcflldjaaGreatDoor.upd f p v) := by
  refine ⟨fun r => ?_, fun i => ?_⟩
  · rw [upd_other f v (fun e => h1 r e.symm)]; exact h.root r
  · rw [upd_other f v (fun e => h2 i e.symm)]; exact h.link i
theorem LnkF.swf {p : Plc} {o v : Int} (h : LnkF C f) (hv : slotI v ≤ C.s) : LnkF C (swf f p o v) := by
  unfold Go.Proofs.YtdknbegcflldjaaGreatDoor.swf
  split
  · exact h.upd hv
  · exact h
theorem OkF.updL {p : Plc} {v : Int} (h : OkF C f) (hp : (∃ r, p = (4, 0, r)) ∨ ∃ c, p = (5, c, 7)) (hu : ∀ x, InU (Go.Proofs.YtdknbegcflldjaaGreatDoor.upd f p v x)) : OkF C (Go.Proofs.YtdknbegcflldjaaGreatDoor.upd f p v) := by
  have h1 : p ≠ (2, 0, 0) := by rcases hp with ⟨r, rfl⟩ | ⟨c, rfl⟩ <;> simp
  have h2 : ∀ i, p ≠ (5, i, 2) := by intro i; rcases hp with ⟨r, rfl⟩ | ⟨c, rfl⟩ <;> simp
  have h3 : p ≠ (1, 0, 0) := by rcases hp with ⟨r, rfl⟩ | ⟨c, rfl⟩ <;> simp
  refine ⟨hu, ?_, fun i => ?_, ?_⟩
  · rw [upd_other f v (fun e => h1 e.symm)]; exact h.pool
  · rw [upd_other f v (fun e => h2 i e.symm)]; exact h.chain i
  · rw [upd_other f v (fun e => h3 e.symm)]; exact h.ep
theorem OkF.swfL {p : Plc} {o v : Int} (h : OkF C f) (hp : (∃ r, p = (4, 0, r)) ∨ ∃ c, p = (5, c, 7)) (hu : ∀ x, InU (Go.Proofs.YtdknbegcflldjaaGreatDoor.swf f p o v x)) : OkF C (Go.Proofs.YtdknbegcflldjaaGreatDoor.swf f p o v) := by
  unfold Go.Proofs.YtdknbegcflldjaaGreatDoor.swf at hu ⊢
  split
  · rename_i h9
    rw [if_pos h9] at hu
    exact h.updL hp hu
  · exact h
end
end Go.Proofs.YtdknbegcflldjaaGreatDoor

/- Hash maps, by plain mathematics: what begins and ends within an op is kept. -/
namespace Go.Proofs.YtdknbegcflldjaaGreatDoor
open Go.RowKit Go.Maps
set_option maxRecDepth 100000

theorem part_ne7 (ck e key val lv : Int) (k : Nat) : ((wordsA ck e key val lv).getD k (0, 0)).1 ≠ 7 := by
  rw [List.getD_eq_getElem?_getD]
  rcases h : (wordsA ck e key val lv)[k]? with _ | ⟨a, b⟩
  · simp
  · have hm : (a, b) ∈ wordsA ck e key val lv := List.mem_of_getElem? h
    simp only [Option.getD_some]
    unfold wordsA at hm
    split at hm
    · simp at hm
      rcases hm with ⟨rfl, rfl⟩ | ⟨rfl, rfl⟩ | ⟨rfl, rfl⟩ | ⟨rfl, rfl⟩ <;> decide
    · split at hm
      · simp at hm
        rcases hm with ⟨rfl, rfl⟩ | ⟨rfl, rfl⟩ | ⟨rfl, rfl⟩ | ⟨rfl, rfl⟩ | ⟨rfl, rfl⟩ <;> decide
      · simp at hm
        rcases hm with ⟨rfl, rfl⟩ | ⟨rfl, rfl⟩ | ⟨rfl, rfl⟩ <;> decide
section
variable {C : Cf} {ds : List Dd} {B : Nat} {T : Th} {d : Dd} {K : Kt} {f : Mem}
theorem LnkF.swfo {p : Plc} {o v : Int} (h : LnkF C f) (h1 : ∀ r, p ≠ (4, 0, r)) (h2 : ∀ i, p ≠ (5, i, 7)) : LnkF C (Go.Proofs.YtdknbegcflldjaaGreatDoor.swf f p o v) := by
  unfold Go.Proofs.YtdknbegcflldjaaGreatDoor.swf
  split
  · exact h.updo h1 h2
  · exact h
theorem allocM_lnk (h : LnkF C f) : LnkF C (allocM C d T f).2.2 := by
  unfold allocM
  dsimp only
  repeat' split
  all_goals first
    | exact h
    | exact h.updo (by simp) (fun i h9 => part_ne7 _ _ _ _ _ _ (congrArg (fun p : Plc => p.2.2) h9))
    | exact h.updo (by simp) (by simp)
    | exact h.swfo (by simp) (by simp)
theorem retireM_lnk (h : LnkF C f) : LnkF C (retireM T f).2.2 := by
  unfold retireM
  split
  · exact h
  · exact h.updo (by simp) (by simp)
theorem giveM_lnk (h : LnkF C f) : LnkF C (giveM C T f).2.2 := by
  unfold giveM
  repeat' split
  all_goals first
    | exact h
    | exact h.updo (by simp) (by simp)
    | exact h.swfo (by simp) (by simp)
/-- Where an Alloc goes on, its words aren't all written. -/
theorem allocM_kk (h : T.apc ≤ 10 ∨ T.apc - 10 < (WD C d T).length) (h0 : (allocM C d T f).1 = 0) : (allocM C d T f).2.1.apc ≤ 10 ∨ (allocM C d T f).2.1.apc - 10 < (WD C d (allocM C d T f).2.1).length := by
  have hl := WD_len C d T
  have hd := fun q => decP_in q T.e C.l
  have he : WD C d (allocM C d T f).2.1 = WD C d T := by unfold WD; rw [(allocM_keep C d T f).1]
  rw [he]
  revert h0
  unfold allocM
  dsimp only
  repeat' split
  all_goals intro h0
  all_goals dsimp only at h0 ⊢
  all_goals first
    | omega
    | (left; rcases hd (T.ql ++ [(f (3, 0, 0) + 1, 0, 0)]) with h9 | h9 | h9 | h9 <;> omega)
    | (left; rcases hd (T.ql ++ [(slotI T.ah, epI T.ar, 0)]) with h9 | h9 | h9 | h9 <;> omega)
    | (right; have h8 : (WD C d T).length = (wordsA C.k T.e d.key d.val (IntKind.u64.wrap d.lv)).length := rfl; unfold lastS at h0; split at h0 <;> omega)
/-- An Alloc that comes to nothing holds nothing. -/
theorem allocM_hs (h : T.apc ≤ 10 → T.hs = 0) (h0 : (allocM C d T f).1 = 3 ∨ (allocM C d T f).1 = 4 ∨ (allocM C d T f).1 = 2) : (allocM C d T f).2.1.hs = 0 := by
  revert h0
  unfold allocM
  dsimp only
  repeat' split
  all_goals intro h0
  all_goals dsimp only at h0 ⊢
  all_goals first
    | exact h (by omega)
    | (exfalso; unfold lastS at h0; split at h0 <;> omega)
theorem retireM_keep : (retireM T f).2.1.hs = T.hs ∧ (retireM T f).2.1.nd = T.nd ∧ (retireM T f).2.1.done = T.done ∧ (retireM T f).2.1.full = T.full ∧ (retireM T f).2.1.pc = T.pc ∧ ((retireM T f).1 = 0 ∨ (retireM T f).1 = 1) := by
  unfold retireM
  split <;> simp
theorem giveM_keep : (giveM C T f).2.1.hs = T.hs ∧ (giveM C T f).2.1.nd = T.nd ∧ (giveM C T f).2.1.done = T.done ∧ (giveM C T f).2.1.full = T.full ∧ (giveM C T f).2.1.pc = T.pc := by
  unfold giveM
  repeat' split
  all_goals simp
theorem OkT.noH (h : OkT C ds B T) (h0 : T.pc = 0) (hC : COk C) : OkT C ds B { T with hs := 0 } :=
  { h with hs := (by have := hC.s; show (0 : Int) ≤ 0 ∧ (0 : Int) ≤ C.s; omega), p1 := fun _ => rfl, low := fun _ _ => rfl }
theorem OkT.drop (h : OkT C ds B T) (h0 : T.pc = 0) (hC : COk C) : OkT C ds (B + 1) { T with ql := dropQ T.hs T.ql, hs := 0 } := by
  have hm := h.more
  have h64 := h.hs
  refine { hm with hs := (by have := hC.s; show (0 : Int) ≤ 0 ∧ (0 : Int) ≤ C.s; omega), p1 := fun _ => rfl, low := fun _ _ => rfl, ql := ?_, len := ?_, born := fun h9 => no (h0.symm.trans h9) rfl, give := fun h9 => no (h0.symm.trans h9) rfl }
  · show ∀ x ∈ dropQ T.hs T.ql, _
    unfold dropQ
    split
    · exact h.ql
    · exact ql_add h.ql (by omega) h64.2
  · have := h.len
    show (dropQ T.hs T.ql).length + (ds.length - T.nd) ≤ B + 1
    unfold dropQ
    split
    · omega
    · simp; omega
/-- An Alloc is begun. -/
theorem OkT.alloc (h : OkT C ds B T) (hh : T.hs = 0) (hn : 1 ≤ T.nd) (hC : COk C) (hD : decP T.ql T.e C.l ≠ 0) : OkT C ds B { T with pc := 2, apc := decP T.ql T.e C.l, ah := 0, an := 0, ar := 0 } := by
  have hz : slotI 0 = 0 := by decide
  have hu0 : InU 0 := by unfold InU; omega
  have hs := hC.s
  refine { h with w := ⟨hu0, hu0, hu0⟩, an := (by show slotI 0 ≤ C.s; omega), pc := .inr (.inr (.inl rfl)), nd1 := fun _ => hn, p1 := fun h => no h rfl, rpc := fun h => no h rfl, rsp := fun h => no h rfl, give := fun h => no h rfl, gv := fun h => no h rfl, apc := fun _ => ?_, low := fun _ _ => hh, adv := fun _ h => decP_adv h, born := fun _ h => decP_born h, pool := fun _ ha hb => ?_ }
  · show decP T.ql T.e C.l = 1 ∨ decP T.ql T.e C.l = 2 ∨ decP T.ql T.e C.l = 3 ∨ decP T.ql T.e C.l = 4 ∨ decP T.ql T.e C.l = 5 ∨ decP T.ql T.e C.l = 6 ∨ 10 ≤ decP T.ql T.e C.l
    rcases decP_in T.ql T.e C.l with h | h | h | h <;> omega
  · have ha' : 4 ≤ decP T.ql T.e C.l := ha
    have hb' : decP T.ql T.e C.l ≤ 6 := hb
    rcases decP_in T.ql T.e C.l with h | h | h | h <;> omega
/-- A Retire is begun. -/
theorem OkT.retire (h : OkT C ds B T) (hn : 1 ≤ T.nd) (hC : COk C) {c : Int} (h1 : 1 ≤ c) (h2 : c ≤ C.s) : OkT C ds B { T with pc := 3, rs := c, rpc := 0, re := 0 } :=
  { h with rs := ⟨Int.le_trans (by decide) h1, h2⟩, re := (by have := hC.l; show (0 : Int) ≤ 0 ∧ (0 : Int) ≤ C.l; omega), pc := .inr (.inr (.inr (.inl rfl))), nd1 := fun _ => hn, p1 := fun h => no h rfl, apc := fun h => no h rfl, low := fun h => no h rfl, adv := fun h => no h rfl, born := fun h => no h rfl, pool := fun h => no h rfl, rpc := fun _ => .inl rfl, rsp := fun _ => h1, give := fun h => no h rfl, gv := fun h => no h rfl }
/-- An op is begun, a Give, or one that searches. -/
theorem OkT.begin4 (h : OkT C ds B T) (hlt : T.nd < ds.length) (hC : COk C) : OkT C ds B { T with pc := 4, nd := T.nd + 1, gpc := 0, gh := 0, gg := 0 } := by
  have hl := h.len
  have hs := hC.s
  exact { h with nd := hlt, len := (by show T.ql.length + (ds.length - (T.nd + 1)) ≤ B; omega), pc := .inr (.inr (.inr (.inr rfl))), nd1 := fun _ => Nat.le_add_left 1 T.nd, p1 := fun h => no h rfl, apc := fun h => no h rfl, low := fun h => no h rfl, adv := fun h => no h rfl, born := fun h => no h rfl, pool := fun h => no h rfl, rpc := fun h => no h rfl, rsp := fun h => no h rfl, gpc := Nat.zero_le 3, ghu := (by show InU 0; unfold InU; omega), gh := (by show slotI 0 ≤ C.s; rw [show slotI 0 = 0 from by decide]; omega), give := fun _ h => (Nat.not_succ_le_zero _ h).elim, gv := fun _ h => (Nat.not_succ_le_zero _ h).elim }
theorem OkT.begin0 (h : OkT C ds B T) (hlt : T.nd < ds.length) : OkT C ds B { T with nd := T.nd + 1 } := by
  have hl := h.len
  exact { h with nd := hlt, len := (by show T.ql.length + (ds.length - (T.nd + 1)) ≤ B; omega), nd1 := fun _ => Nat.le_add_left 1 T.nd }
/-- A thread between its ops; one whose search is begun. -/
theorem KOk.fin {on laid on2 dn : Bool} {L L2 : Lm} {err r to vl : Int} (h : OkT C ds B T) (h0 : T.pc = 0) (hh : T.hs = 0) : KOk C ds B d ⟨T, 0, on, L, laid, on2, L2, err, dn, r, to, vl⟩ where
  t := h
  tp := h0
  pc := Nat.zero_le 9
  da := fun h9 => absurd h9 (by show ¬ 1 ≤ 0; decide)
  s1 := fun h9 => no h9 rfl
  s2 := fun h9 => no h9 rfl
  sp := fun h9 => absurd h9 (by show ¬ 3 ≤ 0; decide)
  un := fun h9 => absurd h9 (by show ¬ 4 ≤ 0; decide)
  to := fun h9 => absurd h9 (by show ¬ 4 ≤ 0; decide)
  ins := fun h9 => by rcases h9 with h9 | h9 <;> exact no h9 rfl
  pu := fun h9 => no h9 rfl
  lk := fun h9 => by rcases h9 with h9 | h9 <;> exact no h9 rfl
  ho := fun h9 => absurd hh h9
  kk := fun h9 => no h9 rfl
  nd := fun h9 => absurd rfl h9
theorem KOk.find {laid on2 : Bool} {L2 : Lm} {r to : Int} (h : OkT C ds B T) (h0 : T.pc = 0) (hh : T.hs ≠ 0 → d.ok = 4 ∨ d.ok = 5) (hn : 1 ≤ T.nd) (on : Bool) (L : Lm) (hL : on = true → LaneOk C L) : KOk C ds B d ⟨T, 1, on, L, laid, on2, L2, 0, false, r, to, 0⟩ where
  t := h
  tp := h0
  pc := by show 1 ≤ 9; decide
  da := fun _ _ => ⟨rfl, rfl, rfl⟩
  s1 := fun _ h => hL h
  s2 := fun h9 => no h9 rfl
  sp := fun h9 => absurd h9 (by show ¬ 3 ≤ 1; decide)
  un := fun h9 => absurd h9 (by show ¬ 4 ≤ 1; decide)
  to := fun h9 => absurd h9 (by show ¬ 4 ≤ 1; decide)
  ins := fun h9 => by rcases h9 with h9 | h9 <;> exact no h9 rfl
  pu := fun h9 => no h9 rfl
  lk := fun h9 => by rcases h9 with h9 | h9 <;> exact no h9 rfl
  ho := fun h9 => ⟨.inl rfl, hh h9⟩
  kk := fun h9 => no h9 rfl
  nd := fun _ => hn
end
end Go.Proofs.YtdknbegcflldjaaGreatDoor

/- Hash maps, by plain mathematics: an op's step keeps what a thread keeps. -/
namespace Go.Proofs.YtdknbegcflldjaaGreatDoor
open Go.RowKit Go.Maps
set_option maxRecDepth 100000

/-- What an op's step keeps. -/
structure KOut (C : Cf) (ds : List Dd) (B : Nat) (d : Dd) (K : Kt) (r : Int × Kt × Mem) : Prop where
  (f : OkF C r.2.2)
  (l : LnkF C r.2.2)
  (nd : r.2.1.T.nd = K.T.nd)
  (k : KOk C ds B d { r.2.1 with pc := if r.1 = 0 then r.2.1.pc else 0 })
section
variable {C : Cf} {ds : List Dd} {B : Nat} {T : Th} {d : Dd} {K : Kt} {f : Mem}
/-- What a search's step keeps of memory. -/
theorem search_memok (hF : OkF C f) (hS : LnkF C f) (hC : COk C) (k key : Int) (vs : Bool) {on : Bool} {L : Lm} {e r : Int} (h : on = true → LaneOk C L) (hu : ∀ x, InU ((searchM k key vs ⟨on, L, e, r⟩ f).2.2 x)) : OkF C (searchM k key vs ⟨on, L, e, r⟩ f).2.2 ∧ LnkF C (searchM k key vs ⟨on, L, e, r⟩ f).2.2 := by
  have hs0 : 0 ≤ C.s := by have := hC.s; omega
  by_cases ho : on = true
  · rcases search_mem k key vs (on := on) (L := L) (e := e) (r := r) (fun h9 => (h h9).at9) f with h9 | ⟨p, v, hp, h9, hv⟩
    · rw [h9]; exact ⟨hF, hS⟩
    · rw [h9] at hu ⊢
      exact ⟨hF.updL hp hu, hS.upd (by rw [hv]; exact slot_word_le hs0 (h ho).sx)⟩
  · have h9 : (searchM k key vs ⟨on, L, e, r⟩ f).2.2 = f := by unfold searchM; rw [if_neg ho]
    rw [h9]; exact ⟨hF, hS⟩
theorem search_e (hF : OkF C f) (hC : COk C) (k key : Int) (vs : Bool) {on : Bool} {L : Lm} {e r : Int} (he : 0 ≤ e ∧ e ≤ C.l) : 0 ≤ (searchM k key vs ⟨on, L, e, r⟩ f).2.1.e ∧ (searchM k key vs ⟨on, L, e, r⟩ f).2.1.e ≤ C.l := by
  have h9 := epI_of (hF.u (1, 0, 0)) hF.ep hC.l.2
  unfold searchM
  split
  · exact he
  · show 0 ≤ epI (f (1, 0, 0)) ∧ epI (f (1, 0, 0)) ≤ C.l
    rw [h9.1]
    exact ⟨h9.2, hF.ep⟩
theorem KOk.t0 (h : KOk C ds B d K) (hp : K.pc ≠ 2 ∧ K.pc ≠ 7 ∧ K.pc ≠ 8) : K.T.pc = 0 := by
  have h9 := h.tp
  rw [if_neg hp.1, if_neg hp.2.1, if_neg hp.2.2] at h9
  exact h9
theorem KOk.hs0 (h : KOk C ds B d K) (hp : (5 ≤ K.pc ∧ K.pc ≤ 8) ∨ K.pc = 0) : K.T.hs = 0 := by
  by_cases h9 : K.T.hs = 0
  · exact h9
  · have := (h.ho h9).1
    omega
theorem KOk.again {B2 : Nat} (h : KOk C ds B d K) (hT : OkT C ds B2 T) (h0 : T.pc = 0) (hh : T.hs ≠ 0 → d.ok = 4 ∨ d.ok = 5) (hn : 1 ≤ T.nd) (h1 : 1 ≤ K.pc) (h8 : K.pc ≠ 8) : KOk C ds B2 d (findM C d { K with T := T }) := by
  have hda := h.da h1 h8
  have hx : findM C d { K with T := T } = ⟨T, 1, false, L0 (4, 0, rtM C d), K.laid, K.on2, K.L2, 0, false, K.r, K.to, 0⟩ := by
    obtain ⟨t1, t2, t3, t4, t5, t6, t7, t8, t9, u1, u2, u3⟩ := K
    obtain ⟨h4, h5, h6⟩ := hda
    dsimp only at h4 h5 h6
    subst h4 h5 h6
    rfl
  rw [hx]
  exact KOk.find hT h0 hh hn false _ (fun h => absurd h (by decide))
theorem KOk.more (h : KOk C ds B d K) : KOk C ds (B + 1) d K := { h with t := h.t.more }
theorem take_keep (hC : COk C) (h : KOk C ds B d { K with on := false }) (h1 : K.pc = 1) (hi : d.ok = 4 ∨ d.ok = 5) (hh : K.T.hs = 0) : (takeM C K).2.T.nd = K.T.nd ∧ KOk C ds (B + 1) d { (takeM C K).2 with pc := if (takeM C K).1 = 0 then (takeM C K).2.pc else 0 } := by
  have h0 : K.T.pc = 0 := h.t0 ⟨by show K.pc ≠ 2; omega, by show K.pc ≠ 7; omega, by show K.pc ≠ 8; omega⟩
  have hn : 1 ≤ K.T.nd := h.nd (by show K.pc ≠ 0; omega)
  have hda : K.err = 0 ∧ K.dn = false ∧ K.vl = 0 := h.da (by show 1 ≤ K.pc; omega) (by show K.pc ≠ 8; omega)
  unfold takeM
  by_cases hD : decP K.T.ql K.T.e C.l = 0
  · rw [if_pos hD]
    exact ⟨rfl, KOk.fin h.t.more h0 hh⟩
  · rw [if_neg hD]
    exact ⟨rfl, { t := (h.t.alloc hh hn hC hD).more, tp := rfl, pc := (by show 2 ≤ 9; decide), da := fun _ _ => hda, s1 := fun h9 => no h9 rfl, s2 := fun h9 => no h9 rfl, sp := fun h9 => absurd h9 (by show ¬ 3 ≤ 2; decide), un := fun h9 => absurd h9 (by show ¬ 4 ≤ 2; decide), to := fun h9 => absurd h9 (by show ¬ 4 ≤ 2; decide), ins := fun _ => hi, pu := fun h9 => no h9 rfl, lk := fun h9 => by rcases h9 with h9 | h9 <;> exact no h9 rfl, ho := fun h9 => absurd hh h9, kk := fun _ => .inl (by show decP K.T.ql K.T.e C.l ≤ 10; rcases decP_in K.T.ql K.T.e C.l with h | h | h | h <;> omega), nd := fun _ => hn }⟩
theorem found_keep (hC : COk C) (h : KOk C ds B d { K with on := false }) (h1 : K.pc = 1) (hL : SpotOk C K.L) : (foundM C d K).2.T.nd = K.T.nd ∧ KOk C ds (B + 1) d { (foundM C d K).2 with pc := if (foundM C d K).1 = 0 then (foundM C d K).2.pc else 0 } := by
  have h0 : K.T.pc = 0 := h.t0 ⟨by show K.pc ≠ 2; omega, by show K.pc ≠ 7; omega, by show K.pc ≠ 8; omega⟩
  have hn : 1 ≤ K.T.nd := h.nd (by show K.pc ≠ 0; omega)
  have hda : K.err = 0 ∧ K.dn = false ∧ K.vl = 0 := h.da (by show 1 ≤ K.pc; omega) (by show K.pc ≠ 8; omega)
  have hhs : ¬ (d.ok = 4 ∨ d.ok = 5) → K.T.hs = 0 := fun hn => by
    by_cases h9 : K.T.hs = 0
    · exact h9
    · exact absurd (h.ho h9).2 hn
  unfold foundM
  by_cases hf : K.L.fd = true
  · rw [if_pos hf]
    have hfd := hL.fd hf
    by_cases h4 : d.ok = 4
    · rw [if_pos h4]
      by_cases hh : K.T.hs = 0
      · rw [if_pos hh]
        exact take_keep hC h h1 (.inl h4) hh
      · rw [if_neg hh]
        exact ⟨rfl, { t := h.t.more, tp := h0, pc := Nat.le_refl 9, da := fun _ _ => hda, s1 := fun h9 => no h9 rfl, s2 := fun h9 => no h9 rfl, sp := fun _ _ => hL, un := fun _ _ => ⟨hfd.2, hfd.1⟩, to := fun _ h9 => absurd h9 (by show ¬ 9 ≤ 7; decide), ins := fun h9 => by rcases h9 with h9 | h9 <;> exact no h9 rfl, pu := fun _ => h4, lk := fun _ => hh, ho := fun _ => ⟨.inr (.inr (.inr (.inl rfl))), .inl h4⟩, kk := fun h9 => no h9 rfl, nd := fun _ => hn }⟩
    · rw [if_neg h4]
      by_cases h6 : d.ok = 6
      · rw [if_pos h6]
        have hh := hhs (by omega)
        exact ⟨rfl, { t := h.t.more, tp := h0, pc := (by show 4 ≤ 9; decide), da := fun _ _ => hda, s1 := fun h9 => no h9 rfl, s2 := fun h9 => no h9 rfl, sp := fun _ _ => hL, un := fun _ _ => ⟨hfd.2, hfd.1⟩, to := fun _ _ => hL.sx, ins := fun h9 => by rcases h9 with h9 | h9 <;> exact no h9 rfl, pu := fun h9 => no h9 rfl, lk := fun h9 => by rcases h9 with h9 | h9 <;> exact no h9 rfl, ho := fun h9 => absurd hh h9, kk := fun h9 => no h9 rfl, nd := fun _ => hn }⟩
      · rw [if_neg h6]
        by_cases h5 : d.ok = 5
        · rw [if_pos h5]
          exact ⟨rfl, KOk.fin (h.t.drop h0 hC) h0 rfl⟩
        · rw [if_neg h5]
          exact ⟨rfl, KOk.fin h.t.more h0 (hhs (by omega))⟩
  · rw [if_neg hf]
    by_cases h45 : d.ok = 4 ∨ d.ok = 5
    · rw [if_pos h45]
      by_cases hh : K.T.hs = 0
      · rw [if_pos hh]
        exact take_keep hC h h1 h45 hh
      · rw [if_neg hh]
        exact ⟨rfl, { t := h.t.more, tp := h0, pc := (by show 3 ≤ 9; decide), da := fun _ _ => hda, s1 := fun h9 => no h9 rfl, s2 := fun h9 => no h9 rfl, sp := fun _ _ => hL, un := fun h9 => absurd h9 (by show ¬ 4 ≤ 3; decide), to := fun h9 => absurd h9 (by show ¬ 4 ≤ 3; decide), ins := fun _ => h45, pu := fun h9 => no h9 rfl, lk := fun _ => hh, ho := fun _ => ⟨.inr (.inr (.inl rfl)), h45⟩, kk := fun h9 => no h9 rfl, nd := fun _ => hn }⟩
    · rw [if_neg h45]
      exact ⟨rfl, KOk.fin h.t.more h0 (hhs h45)⟩
theorem op1_keep (hC : COk C) (hR : In64 (rtM C d)) (hF : OkF C f) (hS : LnkF C f) (h : KOk C ds B d K) (h1 : K.pc = 1) (hu : ∀ x, InU ((opM C d K f).2.2 x)) : KOut C ds (B + 1) d K (opM C d K f) := by
  have h0 := h.t0 (by omega)
  have hn := h.nd (by omega)
  have hda := h.da (by omega) (by omega)
  have hho : K.T.hs ≠ 0 → d.ok = 4 ∨ d.ok = 5 := fun h9 => (h.ho h9).2
  have hk := search_keep (k := rtM C d) (vs := true) (key := d.key) (e := K.T.e) (r := K.r) hR (h.s1 h1) hF.u hS (by have := hC.s; omega)
  have he := search_e hF hC (rtM C d) d.key true (on := K.on) (L := K.L) (r := K.r) h.t.e
  have hm := search_memok hF hS hC (rtM C d) d.key true (e := K.T.e) (r := K.r) (h.s1 h1)
  unfold opM at hu ⊢
  rw [if_pos h1] at hu ⊢
  generalize hq : searchM (rtM C d) d.key true ⟨K.on, K.L, K.T.e, K.r⟩ f = q at *
  dsimp only at hu ⊢
  have hT := h.t.epoch h0 he
  by_cases hq1 : q.1 = 1
  · rw [if_pos hq1] at hu ⊢
    have hK : KOk C ds B d ⟨{ K.T with e := q.2.1.e }, K.pc, false, q.2.1.L, K.laid, K.on2, K.L2, K.err, K.dn, q.2.1.r, K.to, K.vl⟩ := by
      rw [h1, hda.1, hda.2.1, hda.2.2]
      exact KOk.find hT h0 hho hn false _ (fun h => absurd h (by decide))
    have hf := found_keep (K := { K with on := q.2.1.on, L := q.2.1.L, r := q.2.1.r, T := { K.T with e := q.2.1.e } }) hC hK h1 (hk.2 hq1)
    exact ⟨(hm hu).1, (hm hu).2, hf.1, hf.2⟩
  · rw [if_neg hq1] at hu ⊢
    have hq0 : q.1 = 0 := by
      have := search_state (rtM C d) d.key true ⟨K.on, K.L, K.T.e, K.r⟩ f
      rw [hq] at this
      omega
    refine ⟨(hm hu).1, (hm hu).2, rfl, ?_⟩
    show KOk C ds (B + 1) d ⟨{ K.T with e := q.2.1.e }, K.pc, q.2.1.on, q.2.1.L, K.laid, K.on2, K.L2, K.err, K.dn, q.2.1.r, K.to, K.vl⟩
    rw [h1, hda.1, hda.2.1, hda.2.2]
    exact KOk.find hT.more h0 hho hn _ _ (fun h => hk.1 hq0 h)
theorem op2_keep (hC : COk C) (hF : OkF C f) (hS : LnkF C f) (h : KOk C ds B d K) (h1 : K.pc = 2) (hu : ∀ x, InU ((opM C d K f).2.2 x)) : KOut C ds (B + 1) d K (opM C d K f) := by
  have h2 : K.T.pc = 2 := by have := h.tp; rw [if_pos h1] at this; exact this
  have hn := h.nd (by omega)
  have hda := h.da (by omega) (by omega)
  have hi := h.ins (.inl h1)
  have hact := al_cases C d K.T f h2
  have hA := act2_ok (d := d) hC hF h.t h2
  have hkk := allocM_kk (f := f) (h.kk h1)
  have hhs := allocM_hs (C := C) (d := d) (f := f) (h.t.low h2)
  have hl := allocM_lnk (d := d) (T := K.T) hS
  have kp := allocM_keep C d K.T f
  have st := allocM_state C d K.T f
  rw [hact] at hA
  unfold opM at hu ⊢
  rw [if_neg (by omega), if_pos h1] at hu ⊢
  generalize allocM C d K.T f = q at *
  dsimp only at hu hA ⊢
  have hdone : 0 ≤ q.2.1.done ∧ q.2.1.done ≤ ((B + 1 : Nat) : Int) := by
    have := h.t.done
    rw [kp.2.2.2.2.2.2.2.2.2.1]
    omega
  have hok : (∀ x, InU (q.2.2 x)) → OkT C ds (B + 1) { q.2.1 with pc := 0 } := fun h9 => (hA h9).2.idle hdone
  rcases st with s | s | s | s | s
  · rw [if_pos s] at hu ⊢
    have ha := hA hu
    have hT : OkT C ds (B + 1) q.2.1 := by
      have h9 := ha.2
      rw [s] at h9
      exact h9.same (by show 2 = q.2.1.pc; rw [kp.2.2.1]; exact h2.symm) rfl hdone
    refine ⟨ha.1, hl, kp.2.1, ?_⟩
    show KOk C ds (B + 1) d { K with T := q.2.1 }
    exact { t := hT, tp := (by show q.2.1.pc = if K.pc = 2 then 2 else _; rw [if_pos h1, kp.2.2.1]; exact h2), pc := h.pc, da := fun _ _ => hda, s1 := fun h9 => absurd (h1.symm.trans h9) (by decide), s2 := fun h9 => absurd (h1.symm.trans h9) (by decide), sp := fun h9 => absurd (show 3 ≤ K.pc from h9) (by omega), un := fun h9 => absurd (show 4 ≤ K.pc from h9) (by omega), to := fun h9 => absurd (show 4 ≤ K.pc from h9) (by omega), ins := fun _ => hi, pu := fun h9 => absurd (h1.symm.trans h9) (by decide), lk := fun h9 => by rcases h9 with h9 | h9 <;> exact absurd (h1.symm.trans h9) (by decide), ho := fun _ => ⟨.inr (.inl h1), hi⟩, kk := fun _ => hkk s, nd := fun _ => (by show 1 ≤ q.2.1.nd; rw [kp.2.1]; exact hn) }
  · rw [if_neg (by omega), if_neg (by omega), if_neg (by omega)] at hu ⊢
    exact ⟨(hA hu).1, hl, kp.2.1, h.again (hok hu) rfl (fun _ => hi) (by show 1 ≤ q.2.1.nd; rw [kp.2.1]; exact hn) (by omega) (by omega)⟩
  · rw [if_neg (by omega), if_neg (by omega), if_neg (by omega)] at hu ⊢
    exact ⟨(hA hu).1, hl, kp.2.1, h.again (hok hu) rfl (fun _ => hi) (by show 1 ≤ q.2.1.nd; rw [kp.2.1]; exact hn) (by omega) (by omega)⟩
  · rw [if_neg (by omega), if_pos s] at hu ⊢
    exact ⟨(hA hu).1, hl, kp.2.1, KOk.fin (hok hu) rfl (hhs (.inl s))⟩
  · rw [if_neg (by omega), if_neg (by omega), if_pos s] at hu ⊢
    exact ⟨(hA hu).1, hl, kp.2.1, KOk.fin (hok hu) rfl (hhs (.inr (.inl s)))⟩
end
end Go.Proofs.YtdknbegcflldjaaGreatDoor

/- Hash maps, by plain mathematics: a Link's, an Unlink's, a Retire's and a Give's step keep what a thread keeps; so a thread's step does. -/
namespace Go.Proofs.YtdknbegcflldjaaGreatDoor
open Go.RowKit Go.Maps
set_option maxRecDepth 100000

section
variable {C : Cf} {ds : List Dd} {B : Nat} {T : Th} {d : Dd} {K : Kt} {f : Mem}
theorem op3_keep (hC : COk C) (hF : OkF C f) (hS : LnkF C f) (h : KOk C ds B d K) (h1 : K.pc = 3) (hu : ∀ x, InU ((opM C d K f).2.2 x)) : KOut C ds (B + 1) d K (opM C d K f) := by
  have h0 := h.t0 (by omega)
  have hn := h.nd (by omega)
  have hda := h.da (by omega) (by omega)
  have hsp := h.sp (by omega) (by omega)
  have hi := h.ins (.inr h1)
  have hs0 : 0 ≤ C.s := by have := hC.s; omega
  have hsl := slot_word_le (m := false) (e := K.T.e) hs0 h.t.hs.2
  unfold opM at hu ⊢
  rw [if_neg (by omega), if_neg (by omega), if_pos h1] at hu ⊢
  by_cases hl : K.laid = true
  · rw [if_pos hl] at hu ⊢
    by_cases hx : f K.L.p = K.L.W
    · rw [if_pos hx] at hu ⊢
      exact ⟨hF.swfL hsp.at9 hu, hS.swf hsl, rfl, KOk.fin (h.t.noH h0 hC).more h0 rfl⟩
    · rw [if_neg hx] at hu ⊢
      exact ⟨hF.swfL hsp.at9 hu, hS.swf hsl, rfl, h.again h.t.more h0 (fun _ => hi) hn (by omega) (by omega)⟩
  · rw [if_neg hl] at hu ⊢
    refine ⟨hF.updL (.inr ⟨_, rfl⟩) hu, hS.upd (slot_word_le hs0 hsp.sw), rfl, ?_⟩
    show KOk C ds (B + 1) d { K with laid := true }
    have hm := h.more
    exact { t := hm.t, tp := hm.tp, pc := hm.pc, da := hm.da, s1 := hm.s1, s2 := hm.s2, sp := hm.sp, un := hm.un, ins := hm.ins, pu := hm.pu, to := hm.to, lk := hm.lk, ho := hm.ho, kk := hm.kk, nd := hm.nd }
theorem op9_keep (hC : COk C) (hF : OkF C f) (hS : LnkF C f) (h : KOk C ds B d K) (h1 : K.pc = 9) (hu : ∀ x, InU ((opM C d K f).2.2 x)) : KOut C ds (B + 1) d K (opM C d K f) := by
  have h0 := h.t0 (by omega)
  have hn := h.nd (by omega)
  have hda := h.da (by omega) (by omega)
  have hsp := h.sp (by omega) (by omega)
  have hun := h.un (by omega) (by omega)
  have hpu := h.pu h1
  have hs0 : 0 ≤ C.s := by have := hC.s; omega
  unfold opM at hu ⊢
  rw [if_neg (by omega), if_neg (by omega), if_neg (by omega), if_pos h1] at hu ⊢
  exact ⟨hF.updL (.inr ⟨_, rfl⟩) hu, hS.upd (slot_word_le hs0 hsp.sx), rfl, { t := h.t.more, tp := h0, pc := (by show 4 ≤ 9; decide), da := fun _ _ => hda, s1 := fun h9 => no h9 rfl, s2 := fun h9 => no h9 rfl, sp := fun _ _ => hsp, un := fun _ _ => hun, to := fun _ _ => h.t.hs.2, ins := fun h9 => by rcases h9 with h9 | h9 <;> exact no h9 rfl, pu := fun h9 => no h9 rfl, lk := fun h9 => by rcases h9 with h9 | h9 <;> exact no h9 rfl, ho := fun _ => ⟨.inr (.inr (.inr (.inr ⟨rfl, rfl⟩))), .inl hpu⟩, kk := fun h9 => no h9 rfl, nd := fun _ => hn }⟩
theorem op4_keep (hC : COk C) (hF : OkF C f) (hS : LnkF C f) (h : KOk C ds B d K) (h1 : K.pc = 4) (hu : ∀ x, InU ((opM C d K f).2.2 x)) : KOut C ds (B + 1) d K (opM C d K f) := by
  have h0 := h.t0 (by omega)
  have hn := h.nd (by omega)
  have hda := h.da (by omega) (by omega)
  have hsp := h.sp (by omega) (by omega)
  have hun := h.un (by omega) (by omega)
  have hto := h.to (by omega) (by omega)
  have hs0 : 0 ≤ C.s := by have := hC.s; omega
  have hsl : slotI (markM K.to K.T.e) ≤ C.s := slot_word_le hs0 hto
  unfold opM at hu ⊢
  rw [if_neg (by omega), if_neg (by omega), if_neg (by omega), if_neg (by omega), if_pos h1] at hu ⊢
  by_cases hx : f (5, K.L.C, 7) = K.L.X
  · rw [if_pos hx] at hu ⊢
    exact ⟨hF.swfL (.inr ⟨_, rfl⟩) hu, hS.swf hsl, rfl, { t := (h.t.noH h0 hC).more, tp := h0, pc := (by show 5 ≤ 9; decide), da := fun _ _ => hda, s1 := fun h9 => no h9 rfl, s2 := fun h9 => no h9 rfl, sp := fun _ _ => hsp, un := fun _ _ => hun, to := fun _ _ => hto, ins := fun h9 => by rcases h9 with h9 | h9 <;> exact no h9 rfl, pu := fun h9 => no h9 rfl, lk := fun h9 => by rcases h9 with h9 | h9 <;> exact no h9 rfl, ho := fun h9 => absurd rfl h9, kk := fun h9 => no h9 rfl, nd := fun _ => hn }⟩
  · rw [if_neg hx] at hu ⊢
    exact ⟨hF.swfL (.inr ⟨_, rfl⟩) hu, hS.swf hsl, rfl, h.again h.t.more h0 (fun h9 => (h.ho h9).2) hn (by omega) (by omega)⟩
theorem KOk.seven (h : KOk C ds B d K) (hC : COk C) (h4 : 4 ≤ K.pc) (h7 : K.pc ≤ 7) (hT : OkT C ds B T) (hh : T.hs = 0) (hn : 1 ≤ T.nd) {on2 : Bool} {L2 : Lm} {r : Int} : KOk C ds (B + 1) d ⟨{ T with pc := 3, rs := K.L.C, rpc := 0, re := 0 }, 7, K.on, K.L, K.laid, on2, L2, K.err, K.dn, r, K.to, K.vl⟩ := by
  have hto := h.to h4 h7
  have hda := h.da (by omega) (by omega)
  have hsp := h.sp (by omega) (by omega)
  have hun := h.un h4 (by omega)
  exact { t := (hT.retire hn hC hun.2 hsp.cs).more, tp := rfl, pc := (by show 7 ≤ 9; decide), da := fun _ _ => hda, s1 := fun h9 => no h9 rfl, s2 := fun h9 => no h9 rfl, sp := fun _ _ => hsp, un := fun _ _ => hun, to := fun _ _ => hto, ins := fun h9 => by rcases h9 with h9 | h9 <;> exact no h9 rfl, pu := fun h9 => no h9 rfl, lk := fun h9 => by rcases h9 with h9 | h9 <;> exact no h9 rfl, ho := fun h9 => absurd hh h9, kk := fun h9 => no h9 rfl, nd := fun _ => hn }
theorem KOk.six (h : KOk C ds B d K) (h4 : 4 ≤ K.pc) (h7 : K.pc ≤ 7) (hT : OkT C ds B T) (h0 : T.pc = 0) (hh : T.hs = 0) (hn : 1 ≤ T.nd) {on2 : Bool} {L2 : Lm} {r : Int} (hL : on2 = true → LaneOk C L2) : KOk C ds (B + 1) d ⟨T, 6, K.on, K.L, K.laid, on2, L2, K.err, K.dn, r, K.to, K.vl⟩ := by
  have hto := h.to h4 h7
  have hda := h.da (by omega) (by omega)
  have hsp := h.sp (by omega) (by omega)
  have hun := h.un h4 (by omega)
  exact { t := hT.more, tp := h0, pc := (by show 6 ≤ 9; decide), da := fun _ _ => hda, s1 := fun h9 => no h9 rfl, s2 := fun _ h9 => hL h9, sp := fun _ _ => hsp, un := fun _ _ => hun, to := fun _ _ => hto, ins := fun h9 => by rcases h9 with h9 | h9 <;> exact no h9 rfl, pu := fun h9 => no h9 rfl, lk := fun h9 => by rcases h9 with h9 | h9 <;> exact no h9 rfl, ho := fun h9 => absurd hh h9, kk := fun h9 => no h9 rfl, nd := fun _ => hn }
theorem op5_keep (hC : COk C) (hF : OkF C f) (hS : LnkF C f) (h : KOk C ds B d K) (h1 : K.pc = 5) (hu : ∀ x, InU ((opM C d K f).2.2 x)) : KOut C ds (B + 1) d K (opM C d K f) := by
  have h0 := h.t0 (by omega)
  have hn := h.nd (by omega)
  have hsp := h.sp (by omega) (by omega)
  have hh := h.hs0 (.inl ⟨by omega, by omega⟩)
  have hs0 : 0 ≤ C.s := by have := hC.s; omega
  have hsl := slot_word_le (m := false) (e := K.T.e) hs0 (h.to (by omega) (by omega))
  unfold opM at hu ⊢
  rw [if_neg (by omega), if_neg (by omega), if_neg (by omega), if_neg (by omega), if_neg (by omega), if_pos h1] at hu ⊢
  by_cases hx : f K.L.p = K.L.W
  · rw [if_pos hx] at hu ⊢
    exact ⟨hF.swfL hsp.at9 hu, hS.swf hsl, rfl, h.seven hC (by omega) (by omega) h.t hh hn⟩
  · rw [if_neg hx] at hu ⊢
    exact ⟨hF.swfL hsp.at9 hu, hS.swf hsl, rfl, h.six (by omega) (by omega) h.t h0 hh hn (fun h => absurd (show false = true from h) (by decide))⟩
theorem op6_keep (hC : COk C) (hR : In64 (rtM C d)) (hF : OkF C f) (hS : LnkF C f) (h : KOk C ds B d K) (h1 : K.pc = 6) (hu : ∀ x, InU ((opM C d K f).2.2 x)) : KOut C ds (B + 1) d K (opM C d K f) := by
  have h0 := h.t0 (by omega)
  have hn := h.nd (by omega)
  have hh := h.hs0 (.inl ⟨by omega, by omega⟩)
  have hk := search_keep (k := rtM C d) (vs := false) (key := d.key) (e := K.T.e) (r := K.r) hR (h.s2 h1) hF.u hS (by have := hC.s; omega)
  have he := search_e hF hC (rtM C d) d.key false (on := K.on2) (L := K.L2) (r := K.r) h.t.e
  have hm := search_memok hF hS hC (rtM C d) d.key false (e := K.T.e) (r := K.r) (h.s2 h1)
  unfold opM at hu ⊢
  rw [if_neg (by omega), if_neg (by omega), if_neg (by omega), if_neg (by omega), if_neg (by omega), if_neg (by omega), if_pos h1] at hu ⊢
  generalize hq : searchM (rtM C d) d.key false ⟨K.on2, K.L2, K.T.e, K.r⟩ f = q at *
  dsimp only at hu ⊢
  have hT := h.t.epoch h0 he
  by_cases hq1 : q.1 = 1
  · rw [if_pos hq1] at hu ⊢
    exact ⟨(hm hu).1, (hm hu).2, rfl, h.seven hC (by omega) (by omega) hT hh hn⟩
  · rw [if_neg hq1] at hu ⊢
    have hq0 : q.1 = 0 := by
      have := search_state (rtM C d) d.key false ⟨K.on2, K.L2, K.T.e, K.r⟩ f
      rw [hq] at this
      omega
    refine ⟨(hm hu).1, (hm hu).2, rfl, ?_⟩
    show KOk C ds (B + 1) d ⟨{ K.T with e := q.2.1.e }, K.pc, K.on, K.L, K.laid, q.2.1.on, q.2.1.L, K.err, K.dn, q.2.1.r, K.to, K.vl⟩
    rw [h1]
    exact h.six (by omega) (by omega) hT h0 hh hn (fun h => hk.1 hq0 h)
theorem op7_keep (hC : COk C) (hF : OkF C f) (hS : LnkF C f) (h : KOk C ds B d K) (h1 : K.pc = 7) (hu : ∀ x, InU ((opM C d K f).2.2 x)) : KOut C ds (B + 1) d K (opM C d K f) := by
  have h3 : K.T.pc = 3 := by have := h.tp; rw [if_neg (by omega), if_pos h1] at this; exact this
  have hn := h.nd (by omega)
  have hh := h.hs0 (.inl ⟨by omega, by omega⟩)
  have hda := h.da (by omega) (by omega)
  have hsp := h.sp (by omega) (by omega)
  have hun := h.un (by omega) (by omega)
  have hA := act3_ok (d := d) hC hF h.t h3
  have hact : actM C d K.T f = ({ (retireM K.T f).2.1 with pc := if (retireM K.T f).1 = 0 then 3 else 0, full := false }, (retireM K.T f).2.2) := by
    unfold actM
    rw [if_neg (by omega), if_neg (by omega), if_pos h3]
  have hl := retireM_lnk (T := K.T) hS
  have kp := retireM_keep (T := K.T) (f := f)
  rw [hact] at hA
  unfold opM at hu ⊢
  rw [if_neg (by omega), if_neg (by omega), if_neg (by omega), if_neg (by omega), if_neg (by omega), if_neg (by omega), if_neg (by omega)] at hu ⊢
  generalize retireM K.T f = q at *
  dsimp only at hu hA ⊢
  have hdone : 0 ≤ q.2.1.done ∧ q.2.1.done ≤ ((B + 1 : Nat) : Int) := by
    have := h.t.done
    rw [kp.2.2.1]
    omega
  rcases kp.2.2.2.2.2 with s | s
  · rw [if_pos s] at hu ⊢
    have ha := hA hu
    have hT : OkT C ds (B + 1) q.2.1 := by
      have h9 := ha.2
      rw [s] at h9
      exact h9.same (by show 3 = q.2.1.pc; rw [kp.2.2.2.2.1]; exact h3.symm) rfl hdone
    refine ⟨ha.1, hl, kp.2.1, ?_⟩
    show KOk C ds (B + 1) d { K with T := q.2.1 }
    exact { t := hT, tp := (by show q.2.1.pc = if K.pc = 2 then 2 else if K.pc = 7 then 3 else _; rw [if_neg (by omega), if_pos h1, kp.2.2.2.2.1]; exact h3), pc := h.pc, da := fun _ _ => hda, s1 := fun h9 => absurd (h1.symm.trans h9) (by decide), s2 := fun h9 => absurd (h1.symm.trans h9) (by decide), sp := fun _ _ => hsp, un := fun _ _ => hun, to := h.to, pu := h.pu, ins := h.ins, lk := fun h9 => by rcases h9 with h9 | h9 <;> exact absurd (h1.symm.trans h9) (by decide), ho := fun h9 => absurd (kp.1.trans hh) h9, kk := fun h9 => absurd (h1.symm.trans h9) (by decide), nd := fun _ => (by show 1 ≤ q.2.1.nd; rw [kp.2.1]; exact hn) }
  · rw [if_neg (by omega)] at hu ⊢
    exact ⟨(hA hu).1, hl, kp.2.1, KOk.fin ((hA hu).2.idle hdone) rfl (kp.1.trans hh)⟩
/-- A Give's step. -/
theorem op8_keep (hC : COk C) (hF : OkF C f) (hS : LnkF C f) (h : KOk C ds B d K) (h1 : K.pc = 8) (hu : ∀ x, InU ((actK C d K f).2.2 x)) : OkF C (actK C d K f).2.2 ∧ LnkF C (actK C d K f).2.2 ∧ (actK C d K f).2.1.T.nd = K.T.nd ∧ KOk C ds (B + 1) d (actK C d K f).2.1 := by
  have h4 : K.T.pc = 4 := by have := h.tp; rw [if_neg (by omega), if_neg (by omega), if_pos h1] at this; exact this
  have hn := h.nd (by omega)
  have hh := h.hs0 (.inl ⟨by omega, by omega⟩)
  have hA := act4_ok (d := d) hC hF h.t h4
  have hact : actM C d K.T f = ({ (giveM C K.T f).2.1 with pc := if (giveM C K.T f).1 = 0 then 4 else 0, full := false }, (giveM C K.T f).2.2) := by
    unfold actM
    rw [if_neg (by omega), if_neg (by omega), if_neg (by omega)]
  have hl := giveM_lnk (C := C) (T := K.T) hS
  have kp := giveM_keep (C := C) (T := K.T) (f := f)
  rw [hact] at hA
  unfold actK at hu ⊢
  rw [if_pos h1] at hu ⊢
  generalize giveM C K.T f = q at *
  dsimp only at hu hA ⊢
  have hdone : 0 ≤ q.2.1.done ∧ q.2.1.done ≤ ((B + 1 : Nat) : Int) := by
    have := h.t.done
    rw [kp.2.2.1]
    omega
  by_cases s : q.1 = 0
  · rw [if_pos s] at hu ⊢
    have ha := hA hu
    have hT : OkT C ds (B + 1) q.2.1 := by
      have h9 := ha.2
      rw [if_pos s] at h9
      exact h9.same (by show 4 = q.2.1.pc; rw [kp.2.2.2.2]; exact h4.symm) rfl hdone
    refine ⟨ha.1, hl, kp.2.1, ?_⟩
    exact { t := hT, tp := (by show q.2.1.pc = if K.pc = 2 then 2 else if K.pc = 7 then 3 else if K.pc = 8 then 4 else 0; rw [if_neg (by omega), if_neg (by omega), if_pos h1, kp.2.2.2.2]; exact h4), pc := h.pc, da := h.da, s1 := fun h9 => absurd (h1.symm.trans h9) (by decide), s2 := fun h9 => absurd (h1.symm.trans h9) (by decide), sp := h.sp, un := h.un, to := h.to, pu := h.pu, ins := h.ins, lk := fun h9 => by rcases h9 with h9 | h9 <;> exact absurd (h1.symm.trans h9) (by decide), ho := fun h9 => absurd (kp.1.trans hh) h9, kk := fun h9 => absurd (h1.symm.trans h9) (by decide), nd := fun _ => (by show 1 ≤ q.2.1.nd; rw [kp.2.1]; exact hn) }
  · rw [if_neg s] at hu ⊢
    have ha := hA hu
    have hT := ha.2
    rw [if_neg s] at hT
    exact ⟨ha.1, hl, kp.2.1, KOk.fin (hT.idle hdone) rfl (kp.1.trans hh)⟩
theorem op_keep (hC : COk C) (hR : In64 (rtM C d)) (hF : OkF C f) (hS : LnkF C f) (h : KOk C ds B d K) (h1 : 1 ≤ K.pc) (h8 : K.pc ≠ 8) (hu : ∀ x, InU ((opM C d K f).2.2 x)) : KOut C ds (B + 1) d K (opM C d K f) := by
  have hpc := h.pc
  rcases (show K.pc = 1 ∨ K.pc = 2 ∨ K.pc = 3 ∨ K.pc = 4 ∨ K.pc = 5 ∨ K.pc = 6 ∨ K.pc = 7 ∨ K.pc = 9 by omega) with h9 | h9 | h9 | h9 | h9 | h9 | h9 | h9
  · exact op1_keep hC hR hF hS h h9 hu
  · exact op2_keep hC hF hS h h9 hu
  · exact op3_keep hC hF hS h h9 hu
  · exact op4_keep hC hF hS h h9 hu
  · exact op5_keep hC hF hS h h9 hu
  · exact op6_keep hC hR hF hS h h9 hu
  · exact op7_keep hC hF hS h h9 hu
  · exact op9_keep hC hF hS h h9 hu
theorem act_keep (hC : COk C) (hR : In64 (rtM C d)) (hF : OkF C f) (hS : LnkF C f) (h : KOk C ds B d K) (h1 : 1 ≤ K.pc) (hu : ∀ x, InU ((actK C d K f).2.2 x)) : OkF C (actK C d K f).2.2 ∧ LnkF C (actK C d K f).2.2 ∧ (actK C d K f).2.1.T.nd = K.T.nd ∧ KOk C ds (B + 1) d (actK C d K f).2.1 := by
  by_cases h8 : K.pc = 8
  · exact op8_keep hC hF hS h h8 hu
  · have hA : actK C d K f = ((opM C d K f).1, { (opM C d K f).2.1 with pc := if (opM C d K f).1 = 0 then (opM C d K f).2.1.pc else 0 }, (opM C d K f).2.2) := by unfold actK; rw [if_neg h8]
    rw [hA] at hu ⊢
    have hk := op_keep hC hR hF hS h h1 h8 hu
    exact ⟨hk.f, hk.l, hk.nd, hk.k⟩
theorem KOk.any {d2 : Dd} (h : KOk C ds B d K) (h0 : K.pc = 0) : KOk C ds B d2 K := by
  have hh := h.hs0 (.inr h0)
  exact { t := h.t, tp := h.tp, pc := h.pc, da := h.da, s1 := h.s1, s2 := h.s2, sp := h.sp, un := fun h9 => absurd h9 (by omega), to := fun h9 => absurd h9 (by omega), pu := fun h9 => absurd h9 (by omega), ins := fun h9 => by omega, lk := h.lk, ho := fun h9 => absurd hh h9, kk := fun h9 => absurd h9 (by omega), nd := h.nd }
/-- The op that was begun last. -/
def lastD (ds : List Dd) (K : Kt) : Dd := ds.getD (K.T.nd - 1) ⟨0, 0, 0, 0, 0⟩
theorem begin_keep (hC : COk C) (h : KOk C ds B d K) (h0 : K.pc = 0) (hlt : K.T.nd < ds.length) (d2 : Dd) : KOk C ds B d2 (beginK C d2 K) ∧ 1 ≤ (beginK C d2 K).pc ∧ (beginK C d2 K).T.nd = K.T.nd + 1 := by
  have hh := h.hs0 (.inr h0)
  have ht := h.t0 (by omega)
  unfold beginK
  by_cases h8 : d2.ok = 8
  · rw [if_pos h8]
    refine ⟨?_, by show 1 ≤ 8; decide, rfl⟩
    exact { t := h.t.begin4 hlt hC, tp := rfl, pc := (by show 8 ≤ 9; decide), da := fun _ h9 => absurd rfl h9, s1 := fun h9 => no h9 rfl, s2 := fun h9 => no h9 rfl, sp := fun _ h9 => absurd rfl h9, un := fun _ h9 => absurd rfl h9, to := fun _ h9 => absurd h9 (by show ¬ 8 ≤ 7; decide), pu := fun h9 => no h9 rfl, ins := fun h9 => by rcases h9 with h9 | h9 <;> exact no h9 rfl, lk := fun h9 => by rcases h9 with h9 | h9 <;> exact no h9 rfl, ho := fun h9 => absurd hh h9, kk := fun h9 => no h9 rfl, nd := fun _ => Nat.le_add_left 1 K.T.nd }
  · rw [if_neg h8]
    exact ⟨KOk.find (h.t.begin0 hlt) ht (fun h9 => absurd hh h9) (Nat.le_add_left 1 K.T.nd) false _ (fun h => absurd h (by decide)), Nat.le_refl 1, rfl⟩
/-- A thread's step. -/
theorem step_keep (hC : COk C) (hR : ∀ d, In64 (rtM C d)) (hF : OkF C f) (hS : LnkF C f) (h : KOk C ds B (lastD ds K) K) (hu : ∀ x, InU ((stepK C ds K f).2.2 x)) : OkF C (stepK C ds K f).2.2 ∧ LnkF C (stepK C ds K f).2.2 ∧ KOk C ds (B + 1) (lastD ds (stepK C ds K f).2.1) (stepK C ds K f).2.1 := by
  unfold stepK at hu ⊢
  by_cases h0 : K.pc = 0
  · rw [if_pos h0] at hu ⊢
    by_cases hlt : K.T.nd < ds.length
    · rw [if_pos hlt] at hu ⊢
      have hb := begin_keep hC h h0 hlt (ds.getD K.T.nd ⟨0, 0, 0, 0, 0⟩)
      have hk := act_keep hC (hR _) hF hS hb.1 hb.2.1 hu
      refine ⟨hk.1, hk.2.1, ?_⟩
      have hd : lastD ds (actK C (ds.getD K.T.nd ⟨0, 0, 0, 0, 0⟩) (beginK C (ds.getD K.T.nd ⟨0, 0, 0, 0, 0⟩) K) f).2.1 = ds.getD K.T.nd ⟨0, 0, 0, 0, 0⟩ := by
        unfold lastD
        rw [hk.2.2.1, hb.2.2]
        rfl
      rw [hd]
      exact hk.2.2.2
    · rw [if_neg hlt] at hu ⊢
      exact ⟨hF, hS, h.more⟩
  · rw [if_neg h0] at hu ⊢
    have hk := act_keep hC (hR _) hF hS h (by omega) hu
    refine ⟨hk.1, hk.2.1, ?_⟩
    have hd : lastD ds (actK C (ds.getD (K.T.nd - 1) ⟨0, 0, 0, 0, 0⟩) K f).2.1 = lastD ds K := by
      unfold lastD
      have := hk.2.2.1
      unfold lastD at this
      rw [this]
    rw [hd]
    exact hk.2.2.2
end
end Go.Proofs.YtdknbegcflldjaaGreatDoor

/- Hash maps: an op's step, of the program, over the model: its Alloc, its Link, its row u1. -/
namespace Go.Proofs.YtdknbegcflldjaaGreatDoor
open Go.RowKit Go.Maps
set_option maxRecDepth 100000

section
variable {w0 w : World} {R gl : List Item} {C : Cf} {X : Tm} {V : Wm} {K : Kt} {d : Dd} {f : Mem} {G : Nat → Prop} {qc : Cnt} {n o a l b1 b2 : Nat} {left : Value} {s9 : Int} {sp : Value}
theorem al_perm (x y z a : Item) (S : ST) (gl R : List Item) : (x :: y :: z :: ((a :: gl) ++ LT S R)).Perm (a :: LT S (gl ++ (x :: y :: z :: R))) := perm_of fun t => by
  simp only [LT, List.count_append, List.count_cons]
  omega
/-- What was found again is searched. -/
theorem OutP.find {w' : World} {K0 : Kt} {n' c1 c2 sb : Nat} {F : Nat → Prop} {k : Nat} {G' : Nat → Prop} {qc' : Cnt} {f' : Mem} (hda : K0.err = 0 ∧ K0.dn = false ∧ K0.vl = 0) (hn : Nx n qc n' qc') (hE : Env w0 (boxI o (opT X.c d.ok d.key d.val d.lv (rtM C d) (cvP c1 c2) 0 (.pointer (some ⟨sb, 0, none⟩)) 0 false 0) :: boxI c1 [mvL 132 sb] :: boxI c2 [mvL 133 o] :: boxI sb (srC X.c (rtM C d) d.key true (.pointer none)) :: LT (SPK C { X with F := F, kq := k } V K0 f' G' qc' n') R) w') : OutP w0 R C X V d o n qc (0, findM C d K0, f') 0 w' :=
  OutP.go (F := F) (k := k) (sub := [_]) hn (.inl ⟨rfl, sb, rfl, rfl, rfl, .inl ⟨rfl, rfl, .inl rfl⟩⟩) hE
set_option maxHeartbeats 3200000 in
theorem op2_p (hpc : K.pc = 2) (hk : RowOk C K.T n) (hd : InU d.key ∧ InU d.val) (hda : K.err = 0 ∧ K.dn = false ∧ K.vl = 0) (hg : Glo w0) (hlf : LeftIs C d K.T left s9 gl)
    (hE : Env w0 (boxI o (opT X.c d.ok d.key d.val d.lv (rtM C d) (cvP b1 b2) 0 sp 0 false 0) :: boxI b1 [mvL 251 a] :: boxI b2 [cmV X.c d.ok d.key d.val d.lv o 6 84 208] :: ((boxI a (avD X.c a d K.T left s9) :: gl) ++ LT (SPK C X V K f G qc n) R)) w) :
    Calls Tryz.prog 33 #[.pointer (some ⟨o, 0, none⟩), .iface 26 (.pointer (some ⟨V.p, 0, none⟩))] w fun e w' => ∃ s, e = .returned (.int .i64 s) ∧ OutP w0 R C X V d o n qc (opM C d K f) s w' := by
  have hM : opM C d K f = if (allocM C d K.T f).1 = 0 then (0, { K with T := (allocM C d K.T f).2.1 }, (allocM C d K.T f).2.2) else if (allocM C d K.T f).1 = 3 then (1, { K with T := { (allocM C d K.T f).2.1 with pc := 0 }, err := 6 }, (allocM C d K.T f).2.2) else if (allocM C d K.T f).1 = 4 then (1, { K with T := { (allocM C d K.T f).2.1 with pc := 0 }, err := 7 }, (allocM C d K.T f).2.2) else (0, findM C d { K with T := { (allocM C d K.T f).2.1 with pc := 0 } }, (allocM C d K.T f).2.2) := by
    unfold opM
    rw [if_neg (by omega), if_pos hpc]
  rw [hM]
  refine step_tV 251 a 250 (ndV X.c d.ok d.key d.val d.lv o 6 84 208) _ (fun _ _ => by kernel_rfl) (fun _ _ => by kernel_rfl) _ hE ?_
  refine (alPx (C := C) (X := { X with cr := K.r }) (V := V) (T := K.T) (d := d) hg hk hd hlf (hE.perm (al_perm _ _ _ _ _ _ _))).mono ?_
  rintro e w1 ⟨rfl, F', k', G', qc', n', hn', hcase⟩
  have hst := allocM_state C d K.T f
  generalize allocM C d K.T f = q at *
  obtain ⟨q1, T', f'⟩ := q
  dsimp only at hst hcase ⊢
  refine ⟨q1, rfl, fun h0 => ?_, fun h0 => ?_⟩
  · subst h0
    rw [if_pos rfl]
    rcases hcase with ⟨-, left', s', gl', hlf', hE'⟩ | ⟨h9, -⟩
    · exact OutP.go (F := F') (k := k') (sub := _ :: gl') hn' (.inr (.inl ⟨hpc, a, left', s', gl', rfl, rfl, hlf', rfl⟩)) (hE'.perm (al_perm _ _ _ _ _ _ _).symm)
    · exact absurd rfl h9
  · rw [if_neg h0]
    rcases hcase with ⟨h9, -⟩ | ⟨-, hE'⟩
    · exact absurd h9 h0
    have hE2 := hE'.perm (rest_perm (boxI o (opT X.c d.ok d.key d.val d.lv (rtM C d) (cvP b1 b2) 0 sp 0 false 0)) (boxI b1 [mvL 251 a]) (boxI b2 [cmV X.c d.ok d.key d.val d.lv o 6 84 208]) _ [] R).symm
    refine ⟨hE2.rule 2 rfl 0, ?_⟩
    have hE3 := hE2.sub (L' := boxI o (opT X.c d.ok d.key d.val d.lv (rtM C d) (cvP b1 b2) 0 sp 0 false 0) :: LT (SP C { { X with cr := K.r } with F := F', kq := k' } V T' f' G' qc' n') R) (.cons_cons _ (.cons _ (.cons _ (List.Sublist.refl _))))
    rcases hst with h | h | h | h | h
    · exact absurd h h0
    · subst h
      refine cameFind_n 1 (.inl rfl) (fun _ _ => by kernel_rfl) _ hE3 fun v hv => (find_t hv).mono ?_
      rintro e w2 ⟨rfl, c1, c2, sb, hE4⟩
      exact ⟨0, rfl, OutP.find (K0 := { K with T := { T' with pc := 0 } }) (F := F') (k := k') hda hn' hE4⟩
    · subst h
      refine cameFind_n 2 (.inr rfl) (fun _ _ => by kernel_rfl) _ hE3 fun v hv => (find_t hv).mono ?_
      rintro e w2 ⟨rfl, c1, c2, sb, hE4⟩
      exact ⟨0, rfl, OutP.find (K0 := { K with T := { T' with pc := 0 } }) (F := F') (k := k') hda hn' hE4⟩
    · subst h
      refine cameOver_n 3 (.inl rfl) (fun _ _ => by kernel_rfl) _ hE3 fun v hv => (over_t (3 + 3) false 0 hv).mono ?_
      rintro e w2 ⟨rfl, hE4⟩
      rw [if_pos rfl]
      have h5 : opT X.c d.ok d.key d.val d.lv (rtM C d) (cvP b1 b2) 1 sp (3 + 3) false 0 = opT X.c d.ok d.key d.val d.lv (rtM C d) (cvP b1 b2) 1 sp 6 K.dn K.vl := by rw [hda.2.1, hda.2.2]; rfl
      rw [h5] at hE4
      exact ⟨1, rfl, OutP.fin (K := { K with T := { T' with pc := 0 }, err := 6 }) (F := F') (k := k') (show (1 : Int) ≠ 0 by decide) hn' hE4⟩
    · subst h
      refine cameOver_n 4 (.inr rfl) (fun _ _ => by kernel_rfl) _ hE3 fun v hv => (over_t (4 + 3) false 0 hv).mono ?_
      rintro e w2 ⟨rfl, hE4⟩
      rw [if_neg (by decide), if_pos rfl]
      have h5 : opT X.c d.ok d.key d.val d.lv (rtM C d) (cvP b1 b2) 1 sp (4 + 3) false 0 = opT X.c d.ok d.key d.val d.lv (rtM C d) (cvP b1 b2) 1 sp 7 K.dn K.vl := by rw [hda.2.1, hda.2.2]; rfl
      rw [h5] at hE4
      exact ⟨1, rfl, OutP.fin (K := { K with T := { T' with pc := 0 }, err := 7 }) (F := F') (k := k') (show (1 : Int) ≠ 0 by decide) hn' hE4⟩
set_option maxHeartbeats 3200000 in
theorem op3_p (hpc : K.pc = 3) (hh : K.T.hs ≠ 0) (hhs : In64 K.T.hs) (hW : InU K.L.W) (hwf : Wf K.L.p) (hda : K.err = 0 ∧ K.dn = false ∧ K.vl = 0) (hg : Glo w0) (hn : n < maxLen)
    (hE : Env w0 (boxI o (opT X.c d.ok d.key d.val d.lv (rtM C d) (cvP b1 b2) 0 sp 0 false 0) :: boxI b1 [mvL 213 l] :: boxI b2 [mvL 214 o] :: ([boxI l (lkC X.c K.L.p.1 K.L.p.2.1 K.L.p.2.2 K.L.W K.L.C K.L.X (mvL (if K.laid then 277 else 247) l) 0)] ++ LT (SPK C X V K f G qc n) R)) w) :
    Calls Tryz.prog 33 #[.pointer (some ⟨o, 0, none⟩), .iface 26 (.pointer (some ⟨V.p, 0, none⟩))] w fun e w' => ∃ s, e = .returned (.int .i64 s) ∧ OutP w0 R C X V d o n qc (opM C d K f) s w' := by
  refine step_tV 213 l 214 (.pointer (some ⟨o, 0, none⟩)) _ (fun _ _ => by kernel_rfl) (fun _ _ => by kernel_rfl) _ hE ?_
  have hE1 := hE.perm (rest_perm _ _ _ _ _ _)
  cases hl : K.laid
  · rw [hl, if_neg (by decide)] at hE1
    have hM : opM C d K f = (0, { K with laid := true }, upd f (5, K.T.hs, 7) (wordI false (slotI K.L.W) K.T.e)) := by
      unfold opM
      rw [if_neg (by omega), if_neg (by omega), if_pos hpc, hl, if_neg (by decide)]
    rw [hM]
    refine stepMv_k 247 _ (fun _ _ => by kernel_rfl) _ hE1 ?_
    refine (store_k (S := SPK C X V K f G qc n) hh hhs hW hg hn hE1).mono ?_
    rintro e w1 ⟨rfl, G', hE2⟩
    refine ⟨0, rfl, 0, rfl, fun _ => ?_, fun h => absurd rfl h⟩
    refine OutP.go (K := { K with laid := true }) (F := X.F) (k := X.kq) (sub := [_]) ⟨Nat.le_refl _, (by first | exact Or.inl ⟨rfl, rfl, rfl, rfl⟩ | exact Or.inr (Or.inl ⟨rfl, rfl, rfl, rfl⟩) | exact Or.inr (Or.inr (Or.inl ⟨rfl, rfl, rfl, rfl⟩)) | exact Or.inr (Or.inr (Or.inr ⟨rfl, rfl, rfl, rfl⟩)))⟩ (.inr (.inr (.inl ⟨hpc, l, rfl, rfl, rfl⟩))) (hE2.perm (rest_perm _ _ _ _ [_] _).symm)
  · rw [hl, if_pos rfl] at hE1
    refine stepMv_k 277 _ (fun _ _ => by kernel_rfl) _ hE1 ?_
    refine (put_k (S := SPK C X V K f G qc n) hh hwf hg hn hE1).mono ?_
    rintro e w1 ⟨rfl, G', hE2⟩
    refine ⟨_, rfl, _, rfl, fun h0 => ?_, fun _ => ?_⟩
    · exfalso
      split at h0 <;> exact absurd h0 (by decide)
    have hE3 := hE2.perm (rest_perm (boxI o (opT X.c d.ok d.key d.val d.lv (rtM C d) (cvP b1 b2) 0 sp 0 false 0)) (boxI b1 [mvL 213 l]) (boxI b2 [mvL 214 o]) _ [] R).symm
    refine ⟨hE3.rule 2 rfl 0, ?_⟩
    by_cases heq : f K.L.p = K.L.W
    · have heq' : (SPK C X V K f G qc n).f (K.L.p.1, K.L.p.2.1, K.L.p.2.2) = K.L.W := heq
      have hM : opM C d K f = (1, { K with T := { K.T with hs := 0 }, dn := decide (d.ok = 5) }, swf f K.L.p K.L.W (wordI false K.T.hs K.T.e)) := by
        unfold opM
        rw [if_neg (by omega), if_neg (by omega), if_pos hpc, hl, if_pos rfl, if_pos heq]
      rw [hM, if_pos heq']
      have hE4 := hE3.sub (L' := boxI o (opT X.c d.ok d.key d.val d.lv (rtM C d) (cvP b1 b2) 0 sp 0 false 0) :: LT _ R) (.cons_cons _ (.cons _ (.cons _ (List.Sublist.refl _))))
      refine (linkedDone_t hE4).mono ?_
      rintro e w2 ⟨rfl, hE5⟩
      rw [if_pos heq'] at hE5
      have h5 : opT X.c d.ok d.key d.val d.lv (rtM C d) (cvP b1 b2) 1 sp 0 (decide (d.ok = 5)) 0 = opT X.c d.ok d.key d.val d.lv (rtM C d) (cvP b1 b2) 1 sp K.err (decide (d.ok = 5)) K.vl := by rw [hda.1, hda.2.2]
      rw [h5] at hE5
      exact ⟨1, rfl, OutP.fin (K := { K with T := { K.T with hs := 0 }, dn := decide (d.ok = 5) }) (F := X.F) (k := X.kq) (show (1 : Int) ≠ 0 by decide) ⟨Nat.le_refl _, (by first | exact Or.inl ⟨rfl, rfl, rfl, rfl⟩ | exact Or.inr (Or.inl ⟨rfl, rfl, rfl, rfl⟩) | exact Or.inr (Or.inr (Or.inl ⟨rfl, rfl, rfl, rfl⟩)) | exact Or.inr (Or.inr (Or.inr ⟨rfl, rfl, rfl, rfl⟩)))⟩ hE5⟩
    · have heq' : ¬ (SPK C X V K f G qc n).f (K.L.p.1, K.L.p.2.1, K.L.p.2.2) = K.L.W := heq
      have hM : opM C d K f = (0, findM C d K, swf f K.L.p K.L.W (wordI false K.T.hs K.T.e)) := by
        unfold opM
        rw [if_neg (by omega), if_neg (by omega), if_pos hpc, hl, if_pos rfl, if_neg heq]
      rw [hM, if_neg heq']
      have hE4 := hE3.sub (L' := boxI o (opT X.c d.ok d.key d.val d.lv (rtM C d) (cvP b1 b2) 0 sp 0 false 0) :: LT _ R) (.cons_cons _ (.cons _ (.cons _ (List.Sublist.refl _))))
      refine (linkedFind_t hE4).mono ?_
      rintro e w2 ⟨rfl, c1, c2, sb, hE5⟩
      rw [if_neg heq'] at hE5
      exact ⟨0, rfl, OutP.find (K0 := K) (F := X.F) (k := X.kq) hda ⟨Nat.le_refl _, (by first | exact Or.inl ⟨rfl, rfl, rfl, rfl⟩ | exact Or.inr (Or.inl ⟨rfl, rfl, rfl, rfl⟩) | exact Or.inr (Or.inr (Or.inl ⟨rfl, rfl, rfl, rfl⟩)) | exact Or.inr (Or.inr (Or.inr ⟨rfl, rfl, rfl, rfl⟩)))⟩ hE5⟩
set_option maxHeartbeats 3200000 in
theorem op9_p {sb : Nat} {lnx : Value} {wd : Int} (hpc : K.pc = 9) (hd4 : d.ok = 4) (hh : K.T.hs ≠ 0) (hhs : In64 K.T.hs) (hX : InU K.L.X) (hg : Glo w0) (hn : n < maxLen)
    (hE : Env w0 (boxI o (opT X.c d.ok d.key d.val d.lv (rtM C d) (mvL 243 o) 0 (.pointer (some ⟨sb, 0, none⟩)) 0 false 0) :: srT X.c sb a (rtM C d) d.key :: lnT X.c a d.key lnx wd K.L :: LT (SPK C X V K f G qc n) R) w) :
    Calls Tryz.prog 33 #[.pointer (some ⟨o, 0, none⟩), .iface 26 (.pointer (some ⟨V.p, 0, none⟩))] w fun e w' => ∃ s, e = .returned (.int .i64 s) ∧ OutP w0 R C X V d o n qc (opM C d K f) s w' := by
  have hM : opM C d K f = (0, { K with pc := 4, to := K.T.hs }, upd f (5, K.T.hs, 7) (wordI false (slotI K.L.X) K.T.e)) := by
    unfold opM
    rw [if_neg (by omega), if_neg (by omega), if_neg (by omega), if_pos hpc]
  rw [hM]
  refine stepMv_t 243 _ (fun _ _ => by kernel_rfl) _ hE ?_
  rw [hd4] at hE
  refine (store_t (S := SPK C X V K f G qc n) hh hhs hX hg hn hE).mono ?_
  rintro e w1 ⟨rfl, G', c1, c2, u, hE2⟩
  refine ⟨0, rfl, ?_⟩
  rw [← hd4] at hE2
  exact OutP.go (K := { K with pc := 4, to := K.T.hs }) (F := X.F) (k := X.kq) (sub := [_, _, _]) ⟨Nat.le_refl _, (by first | exact Or.inl ⟨rfl, rfl, rfl, rfl⟩ | exact Or.inr (Or.inl ⟨rfl, rfl, rfl, rfl⟩) | exact Or.inr (Or.inr (Or.inl ⟨rfl, rfl, rfl, rfl⟩)) | exact Or.inr (Or.inr (Or.inr ⟨rfl, rfl, rfl, rfl⟩)))⟩ (.inr (.inr (.inr (.inl ⟨.inl rfl, u, sb, a, lnx, wd, rfl, rfl, rfl, rfl⟩)))) hE2
end
end Go.Proofs.YtdknbegcflldjaaGreatDoor
