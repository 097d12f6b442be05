/- What is proved on the way to the statement, part 9 of 15: contracts of the functions, among other things in memory. -/
import Derived.Test.YtmifdkbpbkafjaaGreatDoorE8
import Derived.LoopIn

/- Threads: contracts of Hold, Take, Drop. -/
namespace Go.Proofs.YtmifdkbpbkafjaaGreatDoor
open Go.RowKit Go.Maps
set_option maxRecDepth 100000

section
variable {w0 w : World} {L : List Item} {c q kq : Nat} {F : Nat → Prop} {ql : List Trip} {k s b h l e r hs hi : Int}

set_option maxHeartbeats 1600000 in
theorem takeNo_c (hh : hs = 0) (hb : Blk 0 w c (crv k s b h l e r hs hi q)) :
    Calls Tryz.prog 62 #[.pointer (some ⟨c, 0, none⟩)] w fun o w' => o = .returned (.tuple #[.agg #[.int .i64 hs, .int .i64 hi], .bool false]) ∧ Below w.heap.size w w' := by
  have hF := (Fr.start w).push w.heap.size rfl [.int .i64 0, .int .i64 0] 67
  have hb1 := hb.under hF.below
  have hn : (hs != 0) = false := by simpa using hh
  clear hb hh
  go_enter Tryz.func62, Tryz.ntmps62
  go_wp2_with fail
  refine (held_c hb1).mono ?_
  rintro o w1 ⟨rfl, hb⟩
  rw [hn]
  replace hF := hF.over hb
  clear hb hb1
  replace hF := hF.push w1.heap.size rfl [.int .i64 hs, .int .i64 hi] 67
  have hlt := hF.lt 1 rfl
  have hX := hF.blk 1 rfl (by omega)
  have hZ := hF.blk 0 rfl (by have := hF.below.size; have := hF.lt 1 rfl; simp at this; omega)
  have hE := hF.below
  clear hF
  go_upto_region 2 with fail
  generalize w1.alloc _ = w2 at *
  generalize w1.heap.size = Y at *
  have r0 := hX.rule
  have r1 := hZ.rule
  have f0 := hX.thaw 0 (by simp)
  have f1 := hX.thaw 1 (by simp)
  go_wp2_with fail
  have q := ((hX.set (i := 0) (by simp) (.int .i64 hs)).set (i := 1) (by simp) (.int .i64 hi)).rule
  exact bodyPost_ret (v := .tuple #[.agg #[.int .i64 hs, .int .i64 hi], .bool false]) (by simp [results, Tryz.results62, go_sem, q]) rfl ⟨rfl, below_set (below_set hE (by omega) (Nat.le_refl _) _) (by simp; omega) (Nat.le_refl _) _⟩

set_option maxHeartbeats 1600000 in
theorem takeYes_c (hh : hs ≠ 0) (m : Nat) (hE : Env w0 L w) (hm : L[m]? = some (coreI c k s b h l e r hs hi q)) :
    Calls Tryz.prog 62 #[.pointer (some ⟨c, 0, none⟩)] w fun o w' => o = .returned (.tuple #[.agg #[.int .i64 hs, .int .i64 hi], .bool true]) ∧ Env w0 (L.set m (coreI c k s b h l e r 0 0 q)) w' := by
  have hn : (hs != 0) = true := by simpa using hh
  have hml : m < L.length := (List.getElem?_eq_some_iff.1 hm).1
  have hE1 := hE.box w.heap.size rfl [.int .i64 0, .int .i64 0] 67
  have hm1 : (boxI w.heap.size [.int .i64 0, .int .i64 0] :: L)[m + 1]? = some (coreI c k s b h l e r hs hi q) := hm
  clear hE hh
  go_enter Tryz.func62, Tryz.ntmps62
  go_wp2_with fail
  refine (held_c (hE1.get (m + 1) hm1)).mono ?_
  rintro o w1 ⟨rfl, hb⟩
  rw [hn]
  replace hE1 := (hE1.over hb).box w1.heap.size rfl [.int .i64 hs, .int .i64 hi] 67
  clear hb
  generalize w.heap.size = X at *
  go_upto_region 2 with fail
  generalize w1.alloc _ = w2 at *
  generalize w1.heap.size = Y at *
  have hm2 : (boxI Y [.int .i64 hs, .int .i64 hi] :: boxI X [.int .i64 0, .int .i64 0] :: L)[m + 2]? = some (coreI c k s b h l e r hs hi q) := hm
  have rc := hE1.rule (m + 2) hm2
  unfold crv at rc
  have ff := hE1.thaw (m + 2) hm2
  have f7 := ff 7 (by simp [crv])
  have f8 := ff 8 (by simp [crv])
  clear ff
  go_upto_region 4 with fail
  have hE2 := hE1.put (m + 2) hm2 (j := 7) (by simp [crv]) (.int .i64 0)
  have hE3 := hE2.put (m + 2) (by rw [List.getElem?_set_self (by simpa using hml)]) (j := 8) (by simp [crv]) (.int .i64 0)
  rw [List.set_set] at hE3
  generalize World.setCell (World.setCell w2 ⟨c, 7, none⟩ _) ⟨c, 8, none⟩ _ = w3 at *
  replace hE3 : Env w0 (boxI Y [.int .i64 hs, .int .i64 hi] :: boxI X [.int .i64 0, .int .i64 0] :: L.set m (coreI c k s b h l e r 0 0 q)) w3 := hE3
  have r0 := hE3.rule 0 rfl
  have r1 := hE3.rule 1 rfl
  have ff := hE3.thaw 1 rfl
  have f0 := ff 0 (by simp)
  have f1 := ff 1 (by simp)
  clear ff
  clear rc f7 f8
  go_wp2_with fail
  have hE4 := (hE3.put 1 rfl (j := 0) (by simp) (.int .i64 hs)).put 1 rfl (j := 1) (by simp) (.int .i64 hi)
  have q := hE4.rule 1 rfl
  exact bodyPost_ret (v := .tuple #[.agg #[.int .i64 hs, .int .i64 hi], .bool true]) (by simp [results, Tryz.results62, go_sem, q]) rfl ⟨rfl, hE4.sub (.cons _ (.cons _ (List.Sublist.refl _)))⟩

set_option maxHeartbeats 1600000 in
theorem dropNo_c (hh : hs = 0) (hb : Blk 0 w c (crv k s b h l e r hs hi q)) :
    Calls Tryz.prog 64 #[.pointer (some ⟨c, 0, none⟩)] w fun o w' => o = .returned (.tuple #[]) ∧ Below w.heap.size w w' := by
  go_enter Tryz.func64, Tryz.ntmps64
  go_wp2_with fail
  refine (takeNo_c hh hb).mono ?_
  rintro o w1 ⟨rfl, hb1⟩
  clear hh hb
  go_wp2_with fail
  go_end0
  exact ⟨rfl, hb1.alloc hb1.size _⟩

set_option maxHeartbeats 1600000 in
theorem dropYes_c (hh : hs ≠ 0) (m n : Nat) (hnm : n ≠ m) (hE : Env w0 L w) (hm : L[m]? = some (coreI c k s b h l e r hs hi q)) (hn : L[n]? = some (queueI q F ql kq)) (hl : ql.length + 1 ≤ 1048576) :
    Calls Tryz.prog 64 #[.pointer (some ⟨c, 0, none⟩)] w fun o w' => o = .returned (.tuple #[]) ∧ ∃ k' F', Rm kq (ql.length + 1) k' ∧ Env w0 ((L.set m (coreI c k s b h l e r 0 0 q)).set n (queueI q F' (ql ++ [(hs, 0, hi)]) k')) w' := by
  have hml : m < L.length := (List.getElem?_eq_some_iff.1 hm).1
  have hn1 := wset (b := coreI c k s b h l e r 0 0 q) hnm.symm hn
  have hm1 : (L.set m (coreI c k s b h l e r 0 0 q))[m]? = some (coreI c k s b h l e r 0 0 q) := by rw [List.getElem?_set_self hml]
  have HT := Lib.hid (takeYes_c hh m hE hm)
  clear hh hE hm hn
  generalize L.set m (coreI c k s b h l e r 0 0 q) = M at *
  go_enter Tryz.func64, Tryz.ntmps64
  go_wp2_with fail
  refine HT.out.mono ?_
  rintro o w1 ⟨rfl, hE1⟩
  clear HT
  replace hE1 := hE1.box w1.heap.size rfl [.int .i64 hs, .int .i64 hi] 67
  go_wp2_with fail
  generalize w1.alloc _ = w2 at *
  generalize w1.heap.size = Y at *
  have hn2 : (boxI Y [.int .i64 hs, .int .i64 hi] :: M)[n + 1]? = some (queueI q F ql kq) := hn1
  have hm2 : (boxI Y [.int .i64 hs, .int .i64 hi] :: M)[m + 1]? = some (coreI c k s b h l e r 0 0 q) := hm1
  refine Ord3.wp_chain [?_, ?_, ?_, ?_, ?_, ?_, ?_, ?_, ?_, ?_, ?_] [9, 10] (fun w' => Blk 0 w' c [.int .i64 k, .int .i64 s, .int .i64 b, .int .i64 h, .int .i64 l, .int .i64 e, .int .i64 r, .int .i64 0, .int .i64 0, .pointer (some ⟨q, 0, none⟩)] ∧ Blk 0 w' Y [.int .i64 hs, .int .i64 hi]) (Ord3.Stage fun κs => [Env w0 (boxI Y [.int .i64 hs, .int .i64 hi] :: M), fun w' => ∃ z, κs.getD 0 undef = .slice (some ⟨z, 0, none⟩) 1 1 ∧ Env w0 (boxI z [.int .i64 hs, .int .i64 0, .int .i64 hi] :: boxI Y [.int .i64 hs, .int .i64 hi] :: M) w', fun w' => ∃ k', Rm kq (ql.length + 1) k' ∧ ∃ F' z, Env w0 (boxI z [.int .i64 hs, .int .i64 0, .int .i64 hi] :: boxI Y [.int .i64 hs, .int .i64 hi] :: M.set n (queueI q F' (ql ++ [(hs, 0, hi)]) k')) w']) (by kernel_rfl) (by kernel_rfl) (by kernel_rfl) ⟨hE1.drew.get (m + 1) hm2, hE1.drew.get 0 rfl⟩ ⟨_, rfl, hE1.drew⟩ (fun hT => ?_)
  rotate_left 11
  have hT9 := Lib.hid hT
  clear hT
  repeat (first
    | (focus (refine Ord3.in_value (v := ?_) hT9.out (by decide) ?_ (by rfl) ?_ ?_; rotate_left 2; (focus (intro w5 hS; have r1 := Blk.rule hS.1; have r2 := Blk.rule hS.2; go_simp <;> with_reducible rfl)); rotate_right; (focus rfl); (try simp only [Act.put, List.setIfInBounds_toArray, List.set_cons_zero, List.set_cons_succ])))
    | (focus (refine Ord3.in_off hT9.out (by decide) ?_ (by rfl) ?_; (focus rfl); (try simp only [Act.put, List.setIfInBounds_toArray, List.set_cons_zero, List.set_cons_succ]))))
  refine Ord3.in_turn (fun u => ∃ z, u = .slice (some ⟨z, 0, none⟩) 1 1) _ ⟨0, rfl⟩ hT9.out rfl (by decide) (by rfl) ?_ (Or.inl rfl) (by rfl) ?_ ?_
  · rfl
  · rintro w7 hC7 ⟨P7, hP7, hA7⟩
    cases hP7
    go_simp
    simp only [Ord3.Lands]
    have hE8 := hA7.box w7.heap.size rfl [.int .i64 hs, .int .i64 0, .int .i64 hi] 63
    exact ⟨⟨_, rfl⟩, ⟨hE8.get (m + 2) hm1, hE8.get 1 rfl⟩, _, rfl, w7.heap.size, rfl, hE8⟩
  rintro _ ⟨z9, rfl⟩
  (try simp only [Act.put, List.setIfInBounds_toArray, List.set_cons_zero, List.set_cons_succ])
  refine Ord3.in_turn (fun u => u = .int .i64 0) _ rfl hT9.out rfl (by decide) (by rfl) ?_ (Or.inr ⟨_, 9, [], rfl, by kernel_rfl, by kernel_rfl, rfl⟩) (by rfl) ?_ ?_
  · rfl
  · rintro w7 hC7 ⟨P7, hP7, hA7⟩
    cases hP7
    obtain ⟨z8, he, hA7⟩ := hA7
    cases he
    go_simp
    simp only [Ord3.Lands]
    have hA : Row3 w7 (some ⟨z9, 0, none⟩) [(hs, 0, hi)] := Blk.row3 (l := [(hs, 0, hi)]) (hA7.get 0 rfl)
    refine (push_any (l := ql) (xs := [(hs, 0, hi)]) (A := some ⟨z9, 0, none⟩) (cap := 1) (by simp; omega) hA (fun _ b hb hFb => ?_) (hA7.queue (n + 2) hn1)).mono ?_
    · obtain ⟨off, he⟩ := hb
      cases he
      exact (hA7.off (i := 0) (j := n + 2) rfl hn1 (by omega)) z9 rfl hFb
    rintro o w8 ⟨rfl, k8, F8, hrm, hQ8, hs8⟩
    have hE8 := hA7.turnQ (n + 2) hn1 hQ8 hs8
    simp only [List.set_cons_succ, List.set_cons_zero] at hE8
    have hm8 := wset (b := queueI q F8 (ql ++ [(hs, 0, hi)]) k8) hnm hm1
    exact ⟨_, rfl, rfl, ⟨hE8.get (m + 2) hm8, hE8.get 1 rfl⟩, _, rfl, k8, by simpa using hrm, F8, z9, hE8⟩
  rintro _ rfl
  (try simp only [Act.put, List.setIfInBounds_toArray, List.set_cons_zero, List.set_cons_succ])
  refine Ord3.in_nil rfl ?_
  rintro w9 hC9 ⟨P9, hP9, hA9⟩
  cases hP9
  obtain ⟨k8, hrm, F8, z8, hA9⟩ := hA9
  clear hT9 hC9
  go_wp2_with fail
  go_end0
  exact ⟨rfl, k8, F8, hrm, hA9.sub (.cons _ (.cons _ (List.Sublist.refl _)))⟩
theorem takeNil_c (w : World) : Calls Tryz.prog 62 #[.pointer none] w fun o w' => o = .returned (.tuple #[.agg #[.int .i64 0, .int .i64 0], .bool false]) ∧ Below w.heap.size w w' := by
  have hF := (Fr.start w).push w.heap.size rfl [.int .i64 0, .int .i64 0] 67
  go_enter Tryz.func62, Tryz.ntmps62
  go_wp2_with fail
  refine (heldNil_c _).mono ?_
  rintro o w1 ⟨rfl, hb⟩
  replace hF := hF.over hb
  clear hb
  replace hF := hF.push w1.heap.size rfl [.int .i64 0, .int .i64 0] 67
  have hlt := hF.lt 1 rfl
  have hX := hF.blk 1 rfl (by omega)
  have hZ := hF.blk 0 rfl (by have := hF.below.size; have := hF.lt 1 rfl; simp at this; omega)
  have hE := hF.below
  clear hF
  go_upto_region 2 with fail
  generalize w1.alloc _ = w2 at *
  generalize w1.heap.size = Y at *
  have r0 := hX.rule
  have r1 := hZ.rule
  have f0 := hX.thaw 0 (by simp)
  have f1 := hX.thaw 1 (by simp)
  go_wp2_with fail
  have q := ((hX.set (i := 0) (by simp) (.int .i64 0)).set (i := 1) (by simp) (.int .i64 0)).rule
  exact bodyPost_ret (v := .tuple #[.agg #[.int .i64 0, .int .i64 0], .bool false]) (by simp [results, Tryz.results62, go_sem, q]) rfl ⟨rfl, below_set (below_set hE (by omega) (Nat.le_refl _) _) (by simp; omega) (Nat.le_refl _) _⟩
theorem dropNil_c (w : World) : Calls Tryz.prog 64 #[.pointer none] w fun o w' => o = .returned (.tuple #[]) ∧ Below w.heap.size w w' := by
  go_enter Tryz.func64, Tryz.ntmps64
  go_wp2_with fail
  refine (takeNil_c _).mono ?_
  rintro o w1 ⟨rfl, hb1⟩
  go_wp2_with fail
  go_end0
  exact ⟨rfl, hb1.alloc hb1.size _⟩
end
end Go.Proofs.YtmifdkbpbkafjaaGreatDoor

/- Threads: what they are in memory, of both; their things in two orders. -/
namespace Go.Proofs.YtmifdkbpbkafjaaGreatDoor
open Go.RowKit Go.Maps
set_option maxRecDepth 100000

/-- Where a thread's things are, and what of them no answer hangs on. -/
structure Tm where
  (thr c q u : Nat)
  (F : Nat → Prop)
  (kq : Nat)
  (A : Option Addr)
  (rc : Nat)
  (N cr ro : Int)
  (dA : Option Addr)
  (dn dc : Nat)
  (pa pb pr pq pg ph : Value)
/-- The world's, and the reference's memory. -/
structure Wm where
  (p cc m : Nat)
  (G FU : Nat → Prop)
  (qc : Cnt)
  (n : Nat)
  (ml : List OneR)
def thv (X : Tm) (T : Th) : List Value := [.pointer (some ⟨X.c, 0, none⟩), .pointer (some ⟨X.u, 0, none⟩), .slice X.dA X.dn X.dc, .int .i64 T.nd, .int .i64 T.pc, X.pa, X.pb, X.pr, X.pq, X.pg, X.ph, .int .i64 T.done, .bool T.full]
def stOf (C : Cf) (X : Tm) (V : Wm) (T : Th) : ST := { c := X.c, q := X.q, p := V.p, cc := V.cc, ck := C.k, cs := C.s, cb := C.b, ch := C.h, cl := C.l, ce := T.e, cr := X.cr, hs := T.hs, F := X.F, ql := T.ql, kq := X.kq, G := V.G, f := getL V.ml, qc := V.qc, m := V.n }
def suOf (C : Cf) (X : Tm) (V : Wm) (T : Th) : SU := { u := X.u, m := V.m, ck := C.k, cs := C.s, cb := C.b, ch := C.h, cl := C.l, ce := T.e, hs := T.hs, ro := X.ro, N := X.N, A := X.A, c := X.rc, ql := T.ql, F := V.FU, ml := V.ml }

section
variable {w0 w : World} {R : List Item} {S : ST} {U : SU} {x y : Item}
/-- From the program's order into the reference's. -/
theorem Env.toRef (h : Env w0 (x :: LT S (LU U (y :: R))) w) : Env w0 (y :: LU U (x :: LT S R)) w :=
  h.perm (((List.perm_middle (l₁ := [_, _, _]) (a := y) (l₂ := R)).append_left [x, _, _, _, _]).trans (List.perm_append_comm_assoc [x, _, _, _, _] [y, _, _, _] R))
/-- And back. -/
theorem Env.toProg (h : Env w0 (y :: LU U (x :: LT S R)) w) : Env w0 (x :: LT S (LU U (y :: R))) w :=
  h.perm ((List.perm_append_comm_assoc [y, _, _, _] [x, _, _, _, _] R).trans ((List.perm_middle (l₁ := [_, _, _]) (a := y) (l₂ := R)).symm.append_left [x, _, _, _, _]))
/-- A thing from behind the reference's to the front, and back. -/
theorem Env.front (h : Env w0 (LT S (LU U (y :: R))) w) : Env w0 (y :: LT S (LU U R)) w :=
  h.perm (List.perm_middle (l₁ := [_, _, _, _, _, _, _]))
theorem Env.unfront (h : Env w0 (y :: LT S (LU U R)) w) : Env w0 (LT S (LU U (y :: R))) w :=
  h.perm (List.perm_middle (l₁ := [_, _, _, _, _, _, _])).symm
/-- The reference's things to the front, and back. -/
theorem Env.refs (h : Env w0 (LT S (LU U R)) w) : Env w0 (LU U (LT S R)) w := h.perm (List.perm_append_comm_assoc [_, _, _, _] [_, _, _] R)
theorem Env.progs (h : Env w0 (LU U (LT S R)) w) : Env w0 (LT S (LU U R)) w := h.perm (List.perm_append_comm_assoc [_, _, _] [_, _, _, _] R)
end
end Go.Proofs.YtmifdkbpbkafjaaGreatDoor

/- Retires: what they are in memory; contracts of NewRetire, their rows and Step. -/
namespace Go.Proofs.YtmifdkbpbkafjaaGreatDoor
open Go.RowKit Go.Maps
set_option maxRecDepth 100000

/-- A Retire's cells: of slot s; e is what was loaded. -/
def rtv (c : Nat) (nx : Value) (s e : Int) : List Value := [.pointer (some ⟨c, 0, none⟩), nx, .int .i64 s, .int .i64 0, .int .u64 e, .int .i64 0, .bool false]
def fnR (pc : Nat) : Nat := if pc = 0 then 61 else 99
def nxR (a pc : Nat) : Value := .func (.func (fnR pc)) #[.pointer (some ⟨a, 0, none⟩)] #[]
theorem enters_fnR (pc : Nat) (ar : Array Value) (v : World) : (callFunc (fnR pc) ar).run Tryz.prog v = .ok (.enter (fnR pc) ar) v := by
  unfold fnR
  split
  all_goals kernel_rfl

section
variable {w0 w : World} {R : List Item} {a : Nat} {S : ST} {nx : Value} {s e : Int}
set_option maxHeartbeats 800000 in
theorem step_r (pc : Nat) (u : Value) (Q : Ending → World → Prop) (hE : Env w0 (boxI a (rtv S.c nx s e) :: LT S R) w) (hnx : nx = nxR a pc)
    (hc : Calls Tryz.prog (fnR pc) #[.pointer (some ⟨a, 0, none⟩), u] w fun e w' => ∃ s, e = .returned (.int .i64 s) ∧ Q (.returned (.int .i64 s)) w') :
    Calls Tryz.prog 34 #[.pointer (some ⟨a, 0, none⟩), u] w Q := by
  have hn : w.cell? ⟨a, 1, none⟩ = some (.func (.func (fnR pc)) #[.pointer (some ⟨a, 0, none⟩)] #[]) := by
    have := hE.rule 0 rfl 1
    rw [this, show (rtv S.c nx s e)[1]? = some nx from rfl, hnx]
    rfl
  have hst := step_m (fnR pc) (enters_fnR pc) u _ (fun o w' => ∃ s, o = .returned (.int .i64 s) ∧ Q (.returned (.int .i64 s)) w') hn (hc.mono fun e w' ⟨s, he, hq⟩ => ⟨s, he, s, rfl, hq⟩)
  have HST := Lib.hid hst
  clear hst hc
  go_enter Tryz.func34, Tryz.ntmps34
  go_wp2_with fail
  refine HST.out.mono ?_
  rintro o w1 ⟨s, rfl, hQ⟩
  go_wp2_with fail
  exact hQ
theorem step_ry {st : Int} {Y : World → Prop} (pc : Nat) (u : Value) (hE : Env w0 (boxI a (rtv S.c nx s e) :: LT S R) w) (hnx : nx = nxR a pc)
    (hc : Calls Tryz.prog (fnR pc) #[.pointer (some ⟨a, 0, none⟩), u] w fun o w' => o = .returned (.int .i64 st) ∧ Y w') :
    Calls Tryz.prog 34 #[.pointer (some ⟨a, 0, none⟩), u] w fun o w' => o = .returned (.int .i64 st) ∧ Y w' :=
  step_r pc u _ hE hnx (hc.mono fun _ _ h => ⟨st, h.1, rfl, h.2⟩)
theorem stepNil_r (u : Value) (w : World) : Calls Tryz.prog 34 #[.pointer none, u] w fun o w' => o = .returned (.int .i64 1) ∧ w' = w := by
  go_enter Tryz.func34, Tryz.ntmps34
  go_wp2
  go_ret
  exact ⟨rfl, rfl⟩
theorem newNil_r (d i : Int) (w : World) : Calls Tryz.prog 33 #[.pointer none, .agg #[.int .i64 d, .int .i64 i]] w fun o w' => o = .returned (.pointer none) ∧ Below w.heap.size w w' := by
  go_enter Tryz.func33, Tryz.ntmps33
  go_wp2
  go_ret
  exact ⟨rfl, (Below.refl _ _).alloc (Nat.le_refl _) _⟩
set_option maxHeartbeats 1600000 in
theorem new_r (d : Int) {L : List Item} {c : Nat} (hE : Env w0 L w) :
    Calls Tryz.prog 33 #[.pointer (some ⟨c, 0, none⟩), .agg #[.int .i64 d, .int .i64 0]] w fun o w' => ∃ a, o = .returned (.pointer (some ⟨a, 0, none⟩)) ∧ Env w0 (boxI a (rtv c (nxR a 0) d 0) :: L) w' := by
  have hmf := makeF
  have hE0 := hE.box w.heap.size rfl [.int .i64 d, .int .i64 0] 67
  have hE2 := hE0.box (w.heap.size + 1) (by simp) (rtv c (nxR (w.heap.size + 1) 0) d 0) 137
  have hE1 := hE0.box (w.heap.size + 1) (by simp) (rtv c .nilFunc d 0) 137
  have r0 := hE1.rule 1 rfl
  have r1 := hE1.rule 0 rfl
  unfold rtv at r1
  have f1 := hE1.thaw 0 rfl 1 (by simp [rtv])
  unfold rtv at f1
  clear hE hE0 hE1
  go_enter Tryz.func33, Tryz.ntmps33
  go_wp2_with fail
  go_ret
  exact ⟨_, rfl, hE2.sub (.cons_cons _ (.cons _ (List.Sublist.refl _)))⟩
set_option maxHeartbeats 1600000 in
theorem loadEpoch_r (x : Int) (hfx : S.f (1, 0, 0) = x) (hE : Env w0 (boxI a (rtv S.c nx s e) :: LT S R) w) :
    Calls Tryz.prog 61 #[.pointer (some ⟨a, 0, none⟩), .iface 28 (.pointer (some ⟨S.p, 0, none⟩))] w fun o w' => o = .returned (.int .i64 0) ∧ Env w0 (boxI a (rtv S.c (nxR a 1) s x) :: LT { S with qc := { S.qc with l := wrap64 (S.qc.l + 1) } } R) w' := by
  have hmf := makeF
  have hah := ahead_load
  have HX := Lib.hid hfx
  clear hfx
  go_enter Tryz.func61, Tryz.ntmps61
  go_wp2_with fail
  refine Ord.wp_chain [7, 10] (fun _ => True) (fun k w' => Env w0 (pick3 (boxI a (rtv S.c nx s e) :: LT S R) (boxI a (rtv S.c nx s e) :: LT { S with qc := { S.qc with l := wrap64 (S.qc.l + 1) } } R) (boxI a (rtv S.c nx s x) :: LT { S with qc := { S.qc with l := wrap64 (S.qc.l + 1) } } R) k) w') (by kernel_rfl) (by kernel_rfl) (by kernel_rfl) trivial hE.drew (fun hT => ?_)
  have hT9 := Lib.hid hT
  clear hT
  repeat (first
    | (refine Ord.ch_value (v := ?_) hT9.out (by decide) (by rfl) ?_ ?_; rotate_left; (focus (intro w5 hS; skip; go_simp <;> with_reducible rfl)); (try simp only [Act.put, List.setIfInBounds_toArray, List.set_cons_zero, List.set_cons_succ]))
    | (refine Ord.ch_off hT9.out (by decide) (by rfl) ?_; (try simp only [Act.put, List.setIfInBounds_toArray, List.set_cons_zero, List.set_cons_succ]))
    | (refine Ord.ch_call (v := ?_) (f := ?_) (args := ?_) hT9.out (by decide) (by rfl) ?_ ?_ ?_; rotate_left 3; (focus (intro w5 hS; skip; go_simp; constructor <;> with_reducible rfl)); (focus (intro w5 hS; (first | (with_reducible refine (epoch_any _).mono ?_; rintro e w6 ⟨rfl, hb6⟩; constructor; with_reducible rfl; exact ⟨trivial, fun k h => h.over hb6⟩) | (with_reducible refine (shared_any _ _ _ _).mono ?_; rintro e w6 ⟨rfl, hb6⟩; constructor; with_reducible rfl; exact ⟨trivial, fun k h => h.over hb6⟩)))); (try simp only [Act.put, List.setIfInBounds_toArray, List.set_cons_zero, List.set_cons_succ])))
  refine Ord.ch_turn (v := .agg #[.int .u64 x, .int .i64 0, .bool false]) 0 hT9.out rfl (by decide) (Or.inl rfl) (by rfl) ?_ ?_
  · rintro w5 hC5 hA5
    replace hA5 : Env w0 (boxI a (rtv S.c nx s e) :: LT S R) w5 := hA5
    go_simp
    rw [method_load]
    simp only [Result.andThen_ok]
    go_simp
    simp only [Ord.LandsIn]
    have hl := load_w 1 0 0 0 (by unfold Wf In64; simp) 3 4 (by decide) hA5 rfl rfl
    rw [HX.out] at hl
    refine hl.mono ?_
    rintro e w6 ⟨rfl, hE6⟩
    exact ⟨rfl, hE6⟩
  (try simp only [Act.put, List.setIfInBounds_toArray, List.set_cons_zero, List.set_cons_succ])
  repeat (first
    | (refine Ord.ch_value (v := ?_) hT9.out (by decide) (by rfl) ?_ ?_; rotate_left; (focus (intro w5 hS; skip; go_simp <;> with_reducible rfl)); (try simp only [Act.put, List.setIfInBounds_toArray, List.set_cons_zero, List.set_cons_succ]))
    | (refine Ord.ch_off hT9.out (by decide) (by rfl) ?_; (try simp only [Act.put, List.setIfInBounds_toArray, List.set_cons_zero, List.set_cons_succ])))
  refine Ord.ch_turn (v := undef) 1 hT9.out rfl (by decide) (Or.inr ⟨_, rfl, by kernel_rfl⟩) (by rfl) ?_ ?_
  · rintro w5 hC5 hA5
    replace hA5 : Env w0 (boxI a (rtv S.c nx s e) :: LT { S with qc := { S.qc with l := wrap64 (S.qc.l + 1) } } R) w5 := hA5
    have r := hA5.rule 0 rfl
    unfold rtv at r
    have f6 := hA5.thaw 0 rfl 4 (by simp [rtv])
    have f7 := hA5.thaw 0 rfl 5 (by simp [rtv])
    have f8 := hA5.thaw 0 rfl 6 (by simp [rtv])
    go_simp
    have h9 := ((hA5.put 0 rfl (j := 4) (by simp [rtv]) (.int .u64 x)).put 0 rfl (j := 5) (by simp [rtv]) (.int .i64 0)).put 0 rfl (j := 6) (by simp [rtv]) (.bool false)
    exact ⟨rfl, h9⟩
  (try simp only [Act.put, List.setIfInBounds_toArray, List.set_cons_zero, List.set_cons_succ])
  repeat (first
    | (refine Ord.ch_value (v := ?_) hT9.out (by decide) (by rfl) ?_ ?_; rotate_left; (focus (intro w5 hS; skip; go_simp <;> with_reducible rfl)); (try simp only [Act.put, List.setIfInBounds_toArray, List.set_cons_zero, List.set_cons_succ]))
    | (refine Ord.ch_off hT9.out (by decide) (by rfl) ?_; (try simp only [Act.put, List.setIfInBounds_toArray, List.set_cons_zero, List.set_cons_succ])))
  refine Ord.InText.nil fun w5 hS => ?_
  clear hT9
  obtain ⟨hC9, hA9⟩ := Ord.chain_end hS
  clear hS
  replace hA9 : Env w0 (boxI a (rtv S.c nx s x) :: LT { S with qc := { S.qc with l := wrap64 (S.qc.l + 1) } } R) w5 := hA9
  have r := hA9.rule 0 rfl
  unfold rtv at r
  go_wp2_with fail
  refine (goOn_m 0 _ _ _ (by simp [rtv]) hA9 rfl).mono ?_
  rintro o w7 ⟨rfl, hE7⟩
  go_wp2_with fail
  go_ret
  exact ⟨rfl, hE7⟩

set_option maxHeartbeats 3200000 in
theorem store_r (he : InU e) (hs : In64 s) (hm : S.m < maxLen) (hl : S.ql.length + 1 ≤ 1048576) (hE : Env w0 (boxI a (rtv S.c nx s e) :: LT S R) w) :
    Calls Tryz.prog 99 #[.pointer (some ⟨a, 0, none⟩), .iface 28 (.pointer (some ⟨S.p, 0, none⟩))] w fun o w' => o = .returned (.int .i64 1) ∧ ∃ k' F' G', Rm S.kq (S.ql.length + 1) k' ∧ Env w0 (LT { S with G := G', f := upd S.f (5, s, 1) e, qc := { S.qc with s := wrap64 (S.qc.s + 1) }, m := S.m + 1, ql := S.ql ++ [(s, epI e, 0)], kq := k', F := F' } R) w' := by
  have hmf := makeF
  have hah := ahead_store
  have HWF : Hid (Wf (5, s, 1)) := Lib.hid (by unfold Wf; exact ⟨by unfold In64; simp, hs, by unfold In64; simp⟩)
  have HIE := Lib.hid he
  clear he hs
  go_enter Tryz.func99, Tryz.ntmps99
  go_wp2_with fail
  refine Ord.wp_chain [13] (fun v => Blk 0 v a (rtv S.c nx s e)) (fun k w' => ∃ G5, Env w0 (boxI a (rtv S.c nx s e) :: LT (if k = 0 then S else { S with G := G5, f := upd S.f (5, s, 1) e, qc := { S.qc with s := wrap64 (S.qc.s + 1) }, m := S.m + 1 }) R) w') (by kernel_rfl) (by kernel_rfl) (by kernel_rfl) (hE.drew.get 0 rfl) ⟨S.G, hE.drew⟩ (fun hT => ?_)
  have hT9 := Lib.hid hT
  clear hT
  repeat (first
    | (refine Ord.ch_value (v := ?_) hT9.out (by decide) (by rfl) ?_ ?_; rotate_left; (focus (intro w5 hS; have r := hS.rule; unfold rtv at r; go_simp <;> with_reducible rfl)); (try simp only [Act.put, List.setIfInBounds_toArray, List.set_cons_zero, List.set_cons_succ]))
    | (refine Ord.ch_off hT9.out (by decide) (by rfl) ?_; (try simp only [Act.put, List.setIfInBounds_toArray, List.set_cons_zero, List.set_cons_succ]))
    | (refine Ord.ch_call (v := ?_) (f := ?_) (args := ?_) hT9.out (by decide) (by rfl) ?_ ?_ ?_; rotate_left 3; (focus (intro w5 hS; have r := hS.rule; unfold rtv at r; go_simp; constructor <;> with_reducible rfl)); (focus (intro w5 hS; (first | (with_reducible refine (part_any _ _ _ _).mono ?_; rintro e w6 ⟨rfl, hb6⟩; constructor; with_reducible rfl; exact ⟨hS.under hb6, fun k h => h.elim fun G5 h => ⟨G5, h.over hb6⟩⟩)))); (try simp only [Act.put, List.setIfInBounds_toArray, List.set_cons_zero, List.set_cons_succ])))
  refine Ord.ch_turn (v := .tuple #[]) 0 hT9.out rfl (by decide) (Or.inl rfl) (by rfl) ?_ ?_
  · rintro w5 hC5 ⟨G5, hA5⟩
    simp only [if_true] at hA5
    go_simp
    rw [method_store]
    simp only [Result.andThen_ok]
    go_simp
    simp only [Ord.LandsIn]
    refine (store_w 5 s 1 0 e 0 false HWF.out HIE.out hm 3 4 (by decide) hA5 rfl rfl).mono ?_
    rintro e w6 ⟨rfl, G6, hE6⟩
    exact ⟨rfl, hE6.get 0 rfl, G6, hE6⟩
  (try simp only [Act.put, List.setIfInBounds_toArray, List.set_cons_zero, List.set_cons_succ])
  repeat (first
    | (refine Ord.ch_value (v := ?_) hT9.out (by decide) (by rfl) ?_ ?_; rotate_left; (focus (intro w5 hS; skip; go_simp <;> with_reducible rfl)); (try simp only [Act.put, List.setIfInBounds_toArray, List.set_cons_zero, List.set_cons_succ]))
    | (refine Ord.ch_off hT9.out (by decide) (by rfl) ?_; (try simp only [Act.put, List.setIfInBounds_toArray, List.set_cons_zero, List.set_cons_succ])))
  refine Ord.InText.nil fun w5 hS => ?_
  clear hT9
  obtain ⟨hC9, hA9⟩ := Ord.chain_end hS
  clear hS
  obtain ⟨G9, hA9⟩ := hA9
  simp only [List.length_cons, List.length_nil, Nat.zero_add, Nat.one_ne_zero, if_false] at hA9
  clear hC9 hE
  go_wp2_with fail
  refine Ord3.wp_chain [?_, ?_, ?_, ?_, ?_, ?_, ?_, ?_, ?_, ?_, ?_, ?_, ?_, ?_, ?_, ?_, ?_, ?_, ?_, ?_, ?_, ?_, ?_, ?_] [22, 23] (fun w' => Blk 0 w' a (rtv S.c nx s e) ∧ Blk 0 w' S.c (crv S.ck S.cs S.cb S.ch S.cl S.ce S.cr S.hs 0 S.q)) (Ord3.Stage fun κs => [Env w0 (boxI a (rtv S.c nx s e) :: LT { S with G := G9, f := upd S.f (5, s, 1) e, qc := { S.qc with s := wrap64 (S.qc.s + 1) }, m := S.m + 1 } R), fun w' => ∃ z, κs.getD 0 undef = .slice (some ⟨z, 0, none⟩) 1 1 ∧ Env w0 (boxI z [.int .i64 s, .int .i64 (epI e), .int .i64 0] :: boxI a (rtv S.c nx s e) :: LT { S with G := G9, f := upd S.f (5, s, 1) e, qc := { S.qc with s := wrap64 (S.qc.s + 1) }, m := S.m + 1 } R) w', fun w' => ∃ k', Rm S.kq (S.ql.length + 1) k' ∧ ∃ F' z, Env w0 (boxI z [.int .i64 s, .int .i64 (epI e), .int .i64 0] :: boxI a (rtv S.c nx s e) :: LT { S with G := G9, f := upd S.f (5, s, 1) e, qc := { S.qc with s := wrap64 (S.qc.s + 1) }, m := S.m + 1, ql := S.ql ++ [(s, epI e, 0)], kq := k', F := F' } R) w']) (by kernel_rfl) (by kernel_rfl) (by kernel_rfl) ⟨hA9.drew.get 0 rfl, hA9.drew.get 1 rfl⟩ ⟨_, rfl, hA9.drew⟩ (fun hT => ?_)
  rotate_left 24
  have hT9 := Lib.hid hT
  clear hT
  repeat (first
    | (focus (refine Ord3.in_value (v := ?_) hT9.out (by decide) ?_ (by rfl) ?_ ?_; rotate_left 2; (focus (intro w5 hS; have r1 := Blk.rule hS.1; unfold rtv at r1; go_simp <;> with_reducible rfl)); rotate_right; (focus rfl); (try simp only [Act.put, List.setIfInBounds_toArray, List.set_cons_zero, List.set_cons_succ])))
    | (focus (refine Ord3.in_off hT9.out (by decide) ?_ (by rfl) ?_; (focus rfl); (try simp only [Act.put, List.setIfInBounds_toArray, List.set_cons_zero, List.set_cons_succ])))
    | (focus (refine Ord3.in_call (v := ?_) (f := ?_) (args := ?_) hT9.out (by decide) ?_ (by rfl) ?_ ?_ ?_; rotate_left 4; (focus (intro w5 hS; have r1 := Blk.rule hS.1; unfold rtv at r1; go_simp; constructor <;> with_reducible rfl)); (focus (intro w5 hS; (first | (with_reducible refine (queue_c hS.2).mono ?_; rintro o w6 ⟨rfl, rfl⟩; constructor; with_reducible rfl; exact ⟨hS, fun _ h => h⟩) | (with_reducible refine (epochOf_any _ _ _ HIE.out _).mono ?_; rintro o w6 ⟨rfl, hb6⟩; constructor; with_reducible rfl; exact ⟨⟨hS.1.under hb6, hS.2.under hb6⟩, fun κs h => Ord3.Stage.three h (fun h => h.over hb6) (fun h => h.elim fun z h => ⟨z, h.1, h.2.over hb6⟩) (fun h => h.elim fun k h => ⟨k, h.1, h.2.elim fun F h => ⟨F, h.elim fun z h => ⟨z, h.over hb6⟩⟩⟩)⟩)))); rotate_right; (focus rfl); (try simp only [Act.put, List.setIfInBounds_toArray, List.set_cons_zero, List.set_cons_succ]))))
  refine Ord3.in_turn (fun u => ∃ z, u = .slice (some ⟨z, 0, none⟩) 1 1) _ ⟨0, rfl⟩ hT9.out rfl (by decide) (by rfl) ?_ (Or.inl rfl) (by rfl) ?_ ?_
  · rfl
  · rintro w7 hC7 ⟨P7, hP7, hA7⟩
    cases hP7
    go_simp
    simp only [Ord3.Lands]
    have hE8 := hA7.box w7.heap.size rfl [.int .i64 s, .int .i64 (epI e), .int .i64 0] 63
    exact ⟨⟨_, rfl⟩, ⟨hE8.get 1 rfl, hE8.get 2 rfl⟩, _, rfl, w7.heap.size, rfl, hE8⟩
  rintro _ ⟨z9, rfl⟩
  (try simp only [Act.put, List.setIfInBounds_toArray, List.set_cons_zero, List.set_cons_succ])
  refine Ord3.in_turn (fun u => u = .int .i64 0) _ rfl hT9.out rfl (by decide) (by rfl) ?_ (Or.inr ⟨_, 22, [], rfl, by kernel_rfl, by kernel_rfl, rfl⟩) (by rfl) ?_ ?_
  · rfl
  · rintro w7 hC7 ⟨P7, hP7, hA7⟩
    cases hP7
    obtain ⟨z8, he, hA7⟩ := hA7
    cases he
    go_simp
    simp only [Ord3.Lands]
    have hA : Row3 w7 (some ⟨z9, 0, none⟩) [(s, epI e, 0)] := Blk.row3 (l := [(s, epI e, 0)]) (hA7.get 0 rfl)
    refine (push_any (l := S.ql) (xs := [(s, epI e, 0)]) (A := some ⟨z9, 0, none⟩) (cap := 1) (by simp; omega) hA (fun _ b hb hFb => ?_) (hA7.queue 3 rfl)).mono ?_
    · obtain ⟨off, he⟩ := hb
      cases he
      exact (hA7.off (i := 0) (j := 3) rfl rfl (by omega)) z9 rfl hFb
    rintro o w8 ⟨rfl, k8, F8, hrm, hQ8, hs8⟩
    have hE8 := hA7.turnQ 3 rfl hQ8 hs8
    exact ⟨_, rfl, rfl, ⟨hE8.get 1 rfl, hE8.get 2 rfl⟩, _, rfl, k8, by simpa using hrm, F8, z9, hE8⟩
  rintro _ rfl
  (try simp only [Act.put, List.setIfInBounds_toArray, List.set_cons_zero, List.set_cons_succ])
  refine Ord3.in_nil rfl ?_
  rintro w9 hC9 ⟨P9, hP9, hA8⟩
  cases hP9
  obtain ⟨k8, hrm, F8, z8, hA8⟩ := hA8
  clear hT9 hC9 hA9
  have hE9 := hA8.sub (.cons _ (List.Sublist.refl _))
  have r := hE9.rule 0 rfl
  unfold rtv at r
  go_wp2_with fail
  refine (end_m 0 1 (by simp [rtv]) hE9 rfl).mono ?_
  rintro o w10 ⟨rfl, nx', hE10⟩
  go_wp2_with fail
  go_ret
  exact ⟨rfl, k8, F8, G9, hrm, hE10.sub (.cons _ (List.Sublist.refl _))⟩
end
end Go.Proofs.YtmifdkbpbkafjaaGreatDoor

/- Threads: the contract of begin. -/
namespace Go.Proofs.YtmifdkbpbkafjaaGreatDoor
open Go.RowKit Go.Maps
set_option maxRecDepth 100000

instance : Inhabited Dd := ⟨⟨0, 0, 0, 0, 0⟩⟩
def encD (d : Dd) : List Value := [.int .i64 d.kind, .int .i64 d.ok, .int .u64 d.key, .int .u64 d.val, .int .i64 d.lv]
theorem roomN_in {N : Int} {n : Nat} (h : 0 ≤ N ∧ N ≤ 4000000) (hn : n ≤ 1000000) : 0 ≤ roomN (room0 N) n ∧ roomN (room0 N) n ≤ 4000000 := by
  unfold roomN room0
  split <;> split <;> omega
/-- Nothing that was there has turned, and these things are what they are. -/
def KR (w0 : World) (R : List Item) (v : World) : Prop := Below w0.heap.size w0 v ∧ ∀ a ∈ R, a.says v ∧ ∀ k, a.F k → k < v.heap.size
theorem Env.kr {w0 w : World} {L R : List Item} (h : Env w0 L w) (hR : ∀ a ∈ R, a ∈ L) : KR w0 R w := ⟨h.below, fun a ha => ⟨(h.2.2 a (hR a ha)).1, fun k hk => ((h.2.2 a (hR a ha)).2 k hk).2⟩⟩
theorem KR.more {w0 w : World} {R : List Item} (h : KR w0 R w) (o : Obj) : KR w0 R (w.alloc o) := ⟨h.1.alloc h.1.size _, fun a ha => by
  obtain ⟨h1, h2⟩ := h.2 a ha
  have hb : Below w.heap.size w (w.alloc o) := (Below.refl _ _).alloc (Nat.le_refl _) o
  exact ⟨a.loc w _ h1 (fun k hk => hb.block k (h2 k hk)) hb.size, fun k hk => Nat.lt_of_lt_of_le (h2 k hk) hb.size⟩⟩
theorem KR.sub {w0 w : World} {L R : List Item} (h : KR w0 R w) (hR : ∀ a ∈ L, a ∈ R) : KR w0 L w := ⟨h.1, fun a ha => h.2 a (hR a ha)⟩
/-- A row of deeds that is read wherever that holds. -/
def DsAt (w0 : World) (R : List Item) (A : Option Addr) (ds : List Dd) : Prop :=
  ds = [] ∨ ∃ g off, A = some ⟨g, off, none⟩ ∧ ∀ i, i < ds.length → ∀ v, KR w0 R v → CellsAt v g (off + i * 5) (encD (ds.getD i default))
theorem DsAt.of_row {w0 : World} {R : List Item} {A : Option Addr} {ds : List Dd} (hd : RowX encD 5 w0 A ds) : DsAt w0 R A ds := by
  rcases hd with h | ⟨b, off, hA, hl, hc⟩
  · exact .inl h
  · exact .inr ⟨b, off, hA, fun i hi v hv => (hc i hi).below hv.1 hl⟩
theorem DsAt.sub {w0 : World} {L R : List Item} {A : Option Addr} {ds : List Dd} (hd : DsAt w0 L A ds) (hR : ∀ a ∈ L, a ∈ R) : DsAt w0 R A ds := by
  rcases hd with h | ⟨g, off, hA, hc⟩
  · exact .inl h
  · exact .inr ⟨g, off, hA, fun i hi v hv => hc i hi v (hv.sub hR)⟩
theorem rowD {w0 : World} {R : List Item} {A : Option Addr} {ds : List Dd} (hd : DsAt w0 R A ds) (i : Nat) (hi : i < ds.length) :
    ∃ g off, A = some ⟨g, off, none⟩ ∧ ∀ v, KR w0 R v → CellsAt v g (off + i * 5) (encD (ds.getD i default)) := by
  rcases hd with h | ⟨g, off, hA, hc⟩
  · rw [h] at hi; simp at hi
  · exact ⟨g, off, hA, hc i hi⟩

section
variable {d : Dd} {r : List Dd} {T : Th}
theorem bm1 (h : d.kind = 1 ∨ d.kind = 2 ∨ d.kind = 3) (z : T.hs = 0) : beginM (d :: r) T = (true, { T with nd := T.nd + 1, pc := 1 }) := by simp only [beginM]; rw [if_pos h, if_pos z]
theorem bm1c (h : d.kind = 1 ∨ d.kind = 2 ∨ d.kind = 3) (z : T.hs ≠ 0) : beginM (d :: r) T = beginM r { T with nd := T.nd + 1 } := by simp only [beginM]; rw [if_pos h, if_neg z]
theorem bm4 (h : ¬ (d.kind = 1 ∨ d.kind = 2 ∨ d.kind = 3)) (h' : d.kind = 4 ∨ d.kind = 5) (z : T.hs ≠ 0) : beginM (d :: r) T = (true, { T with nd := T.nd + 1, hs := 0, rs := T.hs, rpc := 0, re := 0, pc := 3 }) := by simp only [beginM]; rw [if_neg h, if_pos h', if_neg z]
theorem bm4c (h : ¬ (d.kind = 1 ∨ d.kind = 2 ∨ d.kind = 3)) (h' : d.kind = 4 ∨ d.kind = 5) (z : T.hs = 0) : beginM (d :: r) T = beginM r { T with nd := T.nd + 1 } := by simp only [beginM]; rw [if_neg h, if_pos h', if_pos z]
theorem bm6 (h : d.kind = 6) : beginM (d :: r) T = (true, { T with nd := T.nd + 1, gpc := 0, gh := 0, gg := 0, pc := 4 }) := by simp only [beginM]; rw [if_neg (by omega), if_neg (by omega), if_pos h]
theorem bm7c (h : d.kind = 7) (z : T.hs = 0) : beginM (d :: r) T = beginM r { T with nd := T.nd + 1 } := by simp only [beginM]; rw [if_neg (by omega), if_neg (by omega), if_neg (by omega), if_pos h, if_pos z]
theorem bm7 (h : d.kind = 7) (z : T.hs ≠ 0) : beginM (d :: r) T = beginM r { T with nd := T.nd + 1, ql := T.ql ++ [(T.hs, 0, 0)], hs := 0 } := by simp only [beginM]; rw [if_neg (by omega), if_neg (by omega), if_neg (by omega), if_pos h, if_neg z]
theorem bmO (h : d.kind < 1 ∨ 7 < d.kind) : beginM (d :: r) T = beginM r { T with nd := T.nd + 1 } := by simp only [beginM]; rw [if_neg (by omega), if_neg (by omega), if_neg (by omega), if_neg (by omega)]
end

section
variable {w0 w : World} {R : List Item} {thr c q u p cc m : Nat} {F G FU : Nat → Prop} {kq rc n dn dc nd apc rpc gpc : Nat} {ql : List Trip} {A dA : Option Addr} {ck cs cb ch cl e cr ro hs N ah an ar rs re gh gg done : Int} {full : Bool} {pa pb pr pq pg ph : Value} {qc : Cnt} {ml : List OneR}
set_option maxHeartbeats 6400000 in
theorem begin_t (ds : List Dd) (hd : DsAt w0 R dA ds) (hdn : dn = ds.length) (hdl : ds.length ≤ 1000) (hnd : nd ≤ ds.length) (h0 : 0 ≤ hs) (hq : ql.length + (ds.length - nd) ≤ 1000000) (hN : 0 ≤ N ∧ N ≤ 4000000) (hE : Env w0 (coreI c ck cs cb ch cl e cr hs 0 q :: queueI q F ql kq :: wbox p cc :: cellI cc G (getL ml) qc n :: boxI u (urv ck cs cb ch cl e A (ql).length rc N hs ro) :: rrI A rc ql :: refI m FU ml :: boxI thr [.pointer (some ⟨c, 0, none⟩), .pointer (some ⟨u, 0, none⟩), .slice dA dn dc, .int .i64 (nd : Int), .int .i64 (0 : Int), pa, pb, pr, pq, pg, ph, .int .i64 done, .bool full] :: R) w) :
    Calls Tryz.prog 39 #[.pointer (some ⟨thr, 0, none⟩)] w fun o w' => ∃ (nd' : Nat) (hs' : Int) (ql' : List Trip) (F' : Nat → Prop) (k' : Nat) (A' : Option Addr) (rc' : Nat) (N' : Int), 0 ≤ N' ∧ N' ≤ 4000000 ∧ ((beginM (ds.drop nd) ⟨e, ql, hs, nd, 0, apc, ah, an, ar, rs, rpc, re, gpc, gh, gg, done, full⟩ = (false, ⟨e, ql', hs', nd', 0, apc, ah, an, ar, rs, rpc, re, gpc, gh, gg, done, full⟩) ∧ o = .returned (.bool false) ∧ Env w0 (coreI c ck cs cb ch cl e cr hs' 0 q :: queueI q F' ql' k' :: wbox p cc :: cellI cc G (getL ml) qc n :: boxI u (urv ck cs cb ch cl e A' (ql').length rc' N' hs' ro) :: rrI A' rc' ql' :: refI m FU ml :: boxI thr [.pointer (some ⟨c, 0, none⟩), .pointer (some ⟨u, 0, none⟩), .slice dA dn dc, .int .i64 (nd' : Int), .int .i64 (0 : Int), pa, pb, pr, pq, pg, ph, .int .i64 done, .bool full] :: R) w') ∨ (beginM (ds.drop nd) ⟨e, ql, hs, nd, 0, apc, ah, an, ar, rs, rpc, re, gpc, gh, gg, done, full⟩ = (true, ⟨e, ql', hs', nd', 1, apc, ah, an, ar, rs, rpc, re, gpc, gh, gg, done, full⟩) ∧ o = .returned (.bool true) ∧ Env w0 (coreI c ck cs cb ch cl e cr hs' 0 q :: queueI q F' ql' k' :: wbox p cc :: cellI cc G (getL ml) qc n :: boxI u (urv ck cs cb ch cl e A' (ql').length rc' N' hs' ro) :: rrI A' rc' ql' :: refI m FU ml :: boxI thr [.pointer (some ⟨c, 0, none⟩), .pointer (some ⟨u, 0, none⟩), .slice dA dn dc, .int .i64 (nd' : Int), .int .i64 (1 : Int), pa, pb, pr, pq, pg, ph, .int .i64 done, .bool full] :: R) w') ∨ (∃ r x, beginM (ds.drop nd) ⟨e, ql, hs, nd, 0, apc, ah, an, ar, rs, rpc, re, gpc, gh, gg, done, full⟩ = (true, ⟨e, ql', 0, nd', 3, apc, ah, an, ar, hs', 0, 0, gpc, gh, gg, done, full⟩) ∧ o = .returned (.bool true) ∧ Env w0 (coreI c ck cs cb ch cl e cr 0 0 q :: queueI q F' ql' k' :: wbox p cc :: cellI cc G (getL ml) qc n :: boxI u (urv ck cs cb ch cl e A' (ql').length rc' N' 0 ro) :: rrI A' rc' ql' :: refI m FU ml :: boxI thr [.pointer (some ⟨c, 0, none⟩), .pointer (some ⟨u, 0, none⟩), .slice dA dn dc, .int .i64 (nd' : Int), .int .i64 (3 : Int), pa, pb, (.pointer (some ⟨r, 0, none⟩)), (.pointer (some ⟨x, 0, none⟩)), pg, ph, .int .i64 done, .bool full] :: boxI r (rtv c (nxR r 0) hs' 0) :: boxI x (rrv hs' 0 0) :: R) w') ∨ (∃ r x, beginM (ds.drop nd) ⟨e, ql, hs, nd, 0, apc, ah, an, ar, rs, rpc, re, gpc, gh, gg, done, full⟩ = (true, ⟨e, ql', hs', nd', 4, apc, ah, an, ar, rs, rpc, re, 0, 0, 0, done, full⟩) ∧ o = .returned (.bool true) ∧ Env w0 (coreI c ck cs cb ch cl e cr hs' 0 q :: queueI q F' ql' k' :: wbox p cc :: cellI cc G (getL ml) qc n :: boxI u (urv ck cs cb ch cl e A' (ql').length rc' N' hs' ro) :: rrI A' rc' ql' :: refI m FU ml :: boxI thr [.pointer (some ⟨c, 0, none⟩), .pointer (some ⟨u, 0, none⟩), .slice dA dn dc, .int .i64 (nd' : Int), .int .i64 (4 : Int), pa, pb, pr, pq, (.pointer (some ⟨r, 0, none⟩)), (.pointer (some ⟨x, 0, none⟩)), .int .i64 done, .bool full] :: boxI r (gvv c (nxG r 0) 0 0) :: boxI x (rgv 0 0 0) :: R) w')) := by
  have HD := Lib.hid hd
  have HDL := Lib.hid hdl
  have HDN := Lib.hid hdn
  obtain ⟨B0, hB0⟩ : ∃ B, beginM (ds.drop nd) ⟨e, ql, hs, nd, 0, apc, ah, an, ar, rs, rpc, re, gpc, gh, gg, done, full⟩ = B := ⟨_, rfl⟩
  rw [hB0]
  have HB0 := Lib.hid hB0
  clear hd hB0
  go_enter Tryz.func39, Tryz.ntmps39
  go_wp2_with fail
  go_loopw [] (fun v => ∃ (nd : Nat) (hs : Int) (ql : List Trip) (F : Nat → Prop) (kq : Nat) (A : Option Addr) (rc : Nat) (N : Int), Hid (B0 = beginM (ds.drop nd) ⟨e, ql, hs, nd, 0, apc, ah, an, ar, rs, rpc, re, gpc, gh, gg, done, full⟩) ∧ nd ≤ ds.length ∧ 0 ≤ hs ∧ ql.length + (ds.length - nd) ≤ 1000000 ∧ 0 ≤ N ∧ N ≤ 4000000 ∧ Env w0 (coreI c ck cs cb ch cl e cr hs 0 q :: queueI q F ql kq :: wbox p cc :: cellI cc G (getL ml) qc n :: boxI u (urv ck cs cb ch cl e A (ql).length rc N hs ro) :: rrI A rc ql :: refI m FU ml :: boxI thr [.pointer (some ⟨c, 0, none⟩), .pointer (some ⟨u, 0, none⟩), .slice dA dn dc, .int .i64 (nd : Int), .int .i64 (0 : Int), pa, pb, pr, pq, pg, ph, .int .i64 done, .bool full] :: R) v) (fun v => ds.length - (intOf ((v.cell? ⟨thr, 3, none⟩).getD undef)).toNat)
  case atStart => exact ⟨nd, hs, ql, F, kq, A, rc, N, Lib.hid HB0.out.symm, hnd, h0, hq, hN.1, hN.2, hE⟩
  case round =>
    clear hE HB0 hN hq h0 hnd
    obtain ⟨nd, hs, ql, F, kq, A, rc, N, HB, hnd, h0, hq, hN0, hN1, hE⟩ := hrel
    have HNN := Lib.hid (And.intro hN0 hN1)
    have hmu : (wr.cell? ⟨thr, 3, none⟩).getD undef = .int .i64 nd := by
      rw [hE.rule 7 rfl 3]
      rfl
    rw [hmu]
    clear hmu hN0 hN1
    by_cases hlt : nd < ds.length
    · have hb1 : decide ((nd : Int) < ((dn : Nat) : Int)) = true := by simp; omega
      have hlt1 : (nd : Int) < ((dn : Nat) : Int) := by omega
      have hge1 : (0 : Int) ≤ (nd : Int) := by omega
      obtain ⟨g, off, rfl, hc⟩ := rowD HD.out nd hlt
      generalize hdd : ds.getD nd default = dd at *
      obtain ⟨kd, ok, key, val, lv⟩ := dd
      have HC := Lib.hid hc
      have HDD := Lib.hid hdd
      have HLT := Lib.hid hlt
      have HQ := Lib.hid hq
      obtain ⟨nd1, hnd1⟩ : ∃ z : Int, z = (nd : Int) + 1 := ⟨_, rfl⟩
      have hw1 : wrap64 ((nd : Int) + 1) = nd1 := by rw [hnd1]; exact w64 _ (by omega)
      have HN1 := Lib.hid hnd1
      have HH0 := Lib.hid h0
      clear hc hdd hlt hq hdn hdl hnd hnd1 h0
      go_wp2_with fail
      refine wp_text (S := (Env w0 (coreI c ck cs cb ch cl e cr hs 0 q :: queueI q F ql kq :: wbox p cc :: cellI cc G (getL ml) qc n :: boxI u (urv ck cs cb ch cl e A (ql).length rc N hs ro) :: rrI A rc ql :: refI m FU ml :: boxI thr [.pointer (some ⟨c, 0, none⟩), .pointer (some ⟨u, 0, none⟩), .slice (some ⟨g, off, none⟩) dn dc, .int .i64 (nd : Int), .int .i64 (0 : Int), pa, pb, pr, pq, pg, ph, .int .i64 done, .bool full] :: R))) (by kernel_rfl) (by kernel_rfl) hE.drew (fun hT => ?_)
      have hT9 := Lib.hid hT
      clear hT
      repeat (first
        | (refine text_value (v := ?_) hT9.out (by rfl) ?_ ?_; rotate_left; (focus (intro w5 hS; have r := hS.rule 7 rfl; go_simp <;> with_reducible rfl)); (try simp only [Act.put, List.setIfInBounds_toArray, List.set_cons_zero, List.set_cons_succ]))
        | (refine text_off hT9.out (by rfl) ?_; (try simp only [Act.put, List.setIfInBounds_toArray, List.set_cons_zero, List.set_cons_succ]))
        | (refine text_call (v := ?_) (f := ?_) (args := ?_) hT9.out (by rfl) ?_ ?_ ?_; rotate_left 3; (focus (intro w5 hS; have r := hS.rule 7 rfl; go_simp; constructor <;> with_reducible rfl)); (focus (intro w5 hS; (first | fail))); (try simp only [Act.put, List.setIfInBounds_toArray, List.set_cons_zero, List.set_cons_succ])))
      refine InText.nil fun w5 hS5 => ?_
      clear hT9
      clear hE
      go_wp2_with fail
      refine OrdF.wp_float [?_, ?_, ?_, ?_, ?_, ?_, ?_, ?_, ?_, ?_, OrdF.Ptr, ?_] [11] 10 (fun v => KR w0 R v ∧ Blk 0 v thr [.pointer (some ⟨c, 0, none⟩), .pointer (some ⟨u, 0, none⟩), .slice (some ⟨g, off, none⟩) dn dc, .int .i64 (nd : Int), .int .i64 (0 : Int), pa, pb, pr, pq, pg, ph, .int .i64 done, .bool full]) (OrdF.AF w0 [.int .i64 0, .int .i64 0, .int .u64 0, .int .u64 0, .int .i64 0] (OrdF.Sta [fun N9 zs => N9 = (coreI c ck cs cb ch cl e cr hs 0 q :: queueI q F ql kq :: wbox p cc :: cellI cc G (getL ml) qc n :: boxI u (urv ck cs cb ch cl e A (ql).length rc N hs ro) :: rrI A rc ql :: refI m FU ml :: boxI thr [.pointer (some ⟨c, 0, none⟩), .pointer (some ⟨u, 0, none⟩), .slice (some ⟨g, off, none⟩) dn dc, .int .i64 (nd : Int), .int .i64 (0 : Int), pa, pb, pr, pq, pg, ph, .int .i64 done, .bool full] :: R) ∧ zs = [.int .i64 0, .int .i64 0, .int .u64 0, .int .u64 0, .int .i64 0], fun N9 zs => N9 = (coreI c ck cs cb ch cl e cr hs 0 q :: queueI q F ql kq :: wbox p cc :: cellI cc G (getL ml) qc n :: boxI u (urv ck cs cb ch cl e A (ql).length rc N hs ro) :: rrI A rc ql :: refI m FU ml :: boxI thr [.pointer (some ⟨c, 0, none⟩), .pointer (some ⟨u, 0, none⟩), .slice (some ⟨g, off, none⟩) dn dc, .int .i64 (nd : Int), .int .i64 (0 : Int), pa, pb, pr, pq, pg, ph, .int .i64 done, .bool full] :: R) ∧ zs = [.int .i64 kd, .int .i64 ok, .int .u64 key, .int .u64 val, .int .i64 lv]])) (by kernel_rfl) (by kernel_rfl) (by kernel_rfl) ⟨hS5.drew.kr (fun a ha => by simp [ha]), hS5.drew.get 7 rfl⟩ ⟨_, _, ⟨_, rfl, rfl, rfl⟩, .inl ⟨rfl, rfl, hS5.drew⟩⟩ (fun hT => ?_)
      rotate_left 11
      have hT9 := Lib.hid hT
      clear hT
      repeat (first
        | (focus (refine OrdF.in_value (v := ?_) hT9.out (by decide) (by decide) ?_ (by rfl) ?_ ?_; rotate_left 2; (focus (intro w5 hS; have r := hS.2.rule; have rc9 := HC.out _ hS.1; have c0 := rc9 0 _ rfl; have c1 := rc9 1 _ rfl; have c2 := rc9 2 _ rfl; have c3 := rc9 3 _ rfl; have c4 := rc9 4 _ rfl; clear rc9; simp only [Nat.add_zero] at c0; go_simp <;> with_reducible rfl)); rotate_right; (focus rfl); (try simp only [Act.put, List.setIfInBounds_toArray, List.set_cons_zero, List.set_cons_succ])))
        | (focus (refine OrdF.in_off hT9.out (by decide) (by decide) ?_ (by rfl) ?_; (focus rfl); (try simp only [Act.put, List.setIfInBounds_toArray, List.set_cons_zero, List.set_cons_succ]))))
      refine OrdF.in_float OrdF.Ptr (.pointer (some ⟨0, 0, none⟩)) ⟨0, rfl⟩ hT9.out rfl (by decide) ?_ (by rfl) ?_ ?_
      · rfl
      · intro w5 κs5 hC5 hA5
        go_simp
        simp only [Ord3.Lands]
        exact ⟨⟨_, rfl⟩, ⟨hC5.1.more _, hC5.2.more _⟩, hA5.up _⟩
      rintro _ ⟨Z, rfl⟩
      (try simp only [Act.put, List.setIfInBounds_toArray, List.set_cons_zero, List.set_cons_succ])
      refine OrdF.in_turn_late (by kernel_rfl) (by decide) (by decide) (fun u => u = undef) (undef) rfl hT9.out rfl (by decide) (by rfl) ?_ (.inl rfl) (by rfl) ?_ ?_
      · rfl
      · rintro w5 hC5 ⟨M5, z5, ⟨P5, hP5, hM5⟩, ⟨hn5, _⟩ | ⟨n5, hn5, hE5⟩⟩
        · cases hn5
        cases hn5
        cases hP5
        obtain ⟨rfl, rfl⟩ := hM5
        have r := hE5.rule 0 rfl; have ff := hE5.thaw 0 rfl; have f0 := ff 0 (by simp); have f1 := ff 1 (by simp); have f2 := ff 2 (by simp); have f3 := ff 3 (by simp); have f4 := ff 4 (by simp); clear ff
        go_simp
        have hE6 := hE5.put5 0 rfl (.int .i64 kd) (.int .i64 ok) (.int .u64 key) (.int .u64 val) (.int .i64 lv); exact ⟨rfl, ⟨hE6.kr (fun a ha => by simp [ha]), hE6.get 8 rfl⟩, _, _, ⟨_, rfl, rfl, rfl⟩, .inr ⟨_, rfl, hE6⟩⟩
      rintro _ rfl
      (try simp only [Act.put, List.setIfInBounds_toArray, List.set_cons_zero, List.set_cons_succ])
      refine OrdF.in_nil rfl (by decide) (by decide) ?_
      rintro w5 hC5 ⟨M5, z5, ⟨P5, hP5, hM5⟩, ⟨hn5, _⟩ | ⟨n5, hn5, hE5⟩⟩
      · cases hn5
      cases hn5
      cases hP5
      obtain ⟨rfl, rfl⟩ := hM5
      clear hT9
      clear hC5 hS5
      have rt := hE5.rule 8 rfl
      have ft := hE5.thaw 8 rfl 3 (by simp)
      have hE6 : Env w0 (boxI Z [.int .i64 kd, .int .i64 ok, .int .u64 key, .int .u64 val, .int .i64 lv] :: coreI c ck cs cb ch cl e cr hs 0 q :: queueI q F ql kq :: wbox p cc :: cellI cc G (getL ml) qc n :: boxI u (urv ck cs cb ch cl e A (ql).length rc N hs ro) :: rrI A rc ql :: refI m FU ml :: boxI thr [.pointer (some ⟨c, 0, none⟩), .pointer (some ⟨u, 0, none⟩), .slice (some ⟨g, off, none⟩) dn dc, .int .i64 nd1, .int .i64 (0 : Int), pa, pb, pr, pq, pg, ph, .int .i64 done, .bool full] :: R) (w5.setCell ⟨thr, 3, none⟩ (.int .i64 nd1)) := hE5.put 8 rfl (j := 3) (by simp) (.int .i64 nd1)
      have rt6 := hE6.rule 8 rfl
      clear hE5
      go_wp2_with fail
      refine (held_c (hE6.get 1 rfl)).mono ?_
      rintro o w6 ⟨rfl, hb⟩
      have hE7 := (hE6.over hb).box w6.heap.size rfl [.int .i64 hs, .int .i64 0] 67
      clear hb rt rt6 ft hE6
      have HDR : Hid (ds.drop nd = ⟨kd, ok, key, val, lv⟩ :: ds.drop (nd + 1)) := Lib.hid (by
        have h := List.drop_eq_getElem_cons HLT.out
        rw [h, ← HDD.out]
        congr 1
        simp [HLT.out])
      go_upto_region 5 with fail
      generalize w6.alloc _ = w7 at *
      generalize w6.heap.size = O at *
      replace hE7 : Env w0 (boxI O [.int .i64 hs, .int .i64 0] :: boxI Z [.int .i64 kd, .int .i64 ok, .int .u64 key, .int .u64 val, .int .i64 lv] :: coreI c ck cs cb ch cl e cr hs 0 q :: queueI q F ql kq :: wbox p cc :: cellI cc G (getL ml) qc n :: boxI u (urv ck cs cb ch cl e A (ql).length rc N hs ro) :: rrI A rc ql :: refI m FU ml :: boxI thr [.pointer (some ⟨c, 0, none⟩), .pointer (some ⟨u, 0, none⟩), .slice (some ⟨g, off, none⟩) dn dc, .int .i64 nd1, .int .i64 (0 : Int), pa, pb, pr, pq, pg, ph, .int .i64 done, .bool full] :: R) w7 := hE7
      have rO := hE7.rule 0 rfl
      have rZ := hE7.rule 1 rfl
      have rt := hE7.rule 9 rfl
      by_cases hz : hs = 0
      · have hzb : (hs != 0) = false := by simpa using hz
        have HZ := Lib.hid hz
        clear hz
        by_cases k123 : kd = 1 ∨ kd = 2 ∨ kd = 3
        · have HK := Lib.hid k123
          have ft := hE7.thaw 9 rfl 4 (by simp)
          have hP := hE7.put 9 rfl (j := 4) (by simp) (.int .i64 1)
          clear hE7
          rcases k123 with rfl | rfl | rfl
          all_goals
            go_wp2_with fail
            go_ret
            have e1 : nd1 = ((nd + 1 : Nat) : Int) := by have := HN1.out; omega
            rw [e1] at hP
            refine ⟨nd + 1, hs, ql, F, kq, A, rc, N, HNN.out.1, HNN.out.2, .inr (.inl ⟨HB.out.trans (by rw [HDR.out]; exact bm1 (by simp) HZ.out), rfl, hP.sub (.cons _ (.cons _ (List.Sublist.refl _)))⟩)⟩
        · by_cases k45 : kd = 4 ∨ kd = 5
          · have HK := Lib.hid (And.intro k123 k45)
            clear k123
            rcases k45 with rfl | rfl
            all_goals
              have hmu9 := hE7.rule 9 rfl 3
              go_wp2_with fail
              have e1 : nd1 = ((nd + 1 : Nat) : Int) := by have := HN1.out; omega
              rw [hmu9]
              rw [e1] at hE7
              refine ⟨⟨nd + 1, hs, ql, F, kq, A, rc, N, Lib.hid (HB.out.trans (by rw [HDR.out]; exact bm4c HK.out.1 HK.out.2 HZ.out)), HLT.out, HH0.out, (by have := HQ.out; have := HLT.out; omega), HNN.out.1, HNN.out.2, hE7.sub (.cons _ (.cons _ (List.Sublist.refl _)))⟩, ?_⟩
              have hl9 := HLT.out
              have hn9 := HN1.out
              simp [intOf]
              omega
          · by_cases k6 : kd = 6
            · subst k6
              have hX := new_g (c := c) hE7
              have HXX := Lib.hid hX
              clear hX hE7 k123 k45
              go_wp2_with fail
              refine HXX.out.mono ?_
              rintro o w8 ⟨x8, rfl, hE8⟩
              have rt := hE8.rule 10 rfl
              have ft := hE8.thaw 10 rfl 9 (by simp)
              have hP9 := hE8.put 10 rfl (j := 9) (by simp) (.pointer (some ⟨x8, 0, none⟩))
              have rt9 := hP9.rule 10 rfl
              have hB9 := hP9.box w8.heap.size (by simp) (rgv 0 0 0) 113
              have rt8 := hB9.rule 11 rfl
              have fu := hB9.thaw 11 rfl 10 (by simp)
              have hQ9 := hB9.put 11 rfl (j := 10) (by simp) (.pointer (some ⟨w8.heap.size, 0, none⟩))
              have rt7 := hQ9.rule 11 rfl
              have fv := hQ9.thaw 11 rfl 4 (by simp)
              have hP := hQ9.put 11 rfl (j := 4) (by simp) (.int .i64 4)
              unfold rgv at rt8 fu rt7 fv
              clear hE8 hP9 hB9 hQ9
              go_wp2_with fail
              go_ret
              have e1 : nd1 = ((nd + 1 : Nat) : Int) := by have := HN1.out; omega
              rw [e1] at hP
              refine ⟨nd + 1, hs, ql, F, kq, A, rc, N, HNN.out.1, HNN.out.2, .inr (.inr (.inr ⟨x8, w8.heap.size, HB.out.trans (by rw [HDR.out]; exact bm6 rfl), rfl, ?_⟩))⟩
              exact (hP.sub (.cons_cons _ (.cons_cons _ (.cons _ (.cons _ (List.Sublist.refl _)))))).perm ((List.perm_append_comm_assoc [_, _] [_, _, _, _, _, _, _, _] R).trans ((List.Perm.swap _ _ _).append_left _))
            · by_cases k7 : kd = 7
              · subst k7
                have HXX := Lib.hid (dropNo_c HZ.out (hE7.get 2 rfl))
                clear k123 k45 k6
                go_wp2_with fail
                refine HXX.out.mono ?_
                rintro o w8 ⟨rfl, hb⟩
                replace hE7 := hE7.over hb
                clear hb rt rO rZ HXX
                have rt := hE7.rule 9 rfl
                have HXX := Lib.hid (rdropNo_c (Int.le_of_eq HZ.out) (hE7.get 6 rfl))
                go_wp2_with fail
                refine HXX.out.mono ?_
                rintro o w9 ⟨rfl, rfl⟩
                clear HXX
                have hmu9 := hE7.rule 9 rfl 3
                go_wp2_with fail
                have e1 : nd1 = ((nd + 1 : Nat) : Int) := by have := HN1.out; omega
                rw [hmu9]
                rw [e1] at hE7
                refine ⟨⟨nd + 1, hs, ql, F, kq, A, rc, N, Lib.hid (HB.out.trans (by rw [HDR.out]; exact bm7c rfl HZ.out)), HLT.out, HH0.out, (by have := HQ.out; have := HLT.out; omega), HNN.out.1, HNN.out.2, hE7.sub (.cons _ (.cons _ (List.Sublist.refl _)))⟩, ?_⟩
                have hl9 := HLT.out
                have hn9 := HN1.out
                simp [intOf]
                omega
              · have HK : Hid (kd < 1 ∨ 7 < kd) := Lib.hid (by omega)
                have j1 : (kd == 1) = false := by simp; omega
                have j2 : (kd == 2) = false := by simp; omega
                have j3 : (kd == 3) = false := by simp; omega
                have j4 : (kd == 4) = false := by simp; omega
                have j5 : (kd == 5) = false := by simp; omega
                have j6 : (kd == 6) = false := by simp; omega
                have j7 : (kd == 7) = false := by simp; omega
                clear k123 k45 k6 k7
                have hmu9 := hE7.rule 9 rfl 3
                go_wp2_with fail
                have e1 : nd1 = ((nd + 1 : Nat) : Int) := by have := HN1.out; omega
                rw [hmu9]
                rw [e1] at hE7
                refine ⟨⟨nd + 1, hs, ql, F, kq, A, rc, N, Lib.hid (HB.out.trans (by rw [HDR.out]; exact bmO HK.out)), HLT.out, HH0.out, (by have := HQ.out; have := HLT.out; omega), HNN.out.1, HNN.out.2, hE7.sub (.cons _ (.cons _ (List.Sublist.refl _)))⟩, ?_⟩
                have hl9 := HLT.out
                have hn9 := HN1.out
                simp [intOf]
                omega
      · have hzb : (hs != 0) = true := by simpa using hz
        have HZ := Lib.hid hz
        clear hz
        by_cases k6 : kd = 6
        · skip
          subst k6
          have hX := new_g (c := c) hE7
          have HXX := Lib.hid hX
          clear hX hE7
          go_wp2_with fail
          refine HXX.out.mono ?_
          rintro o w8 ⟨x8, rfl, hE8⟩
          have rt := hE8.rule 10 rfl
          have ft := hE8.thaw 10 rfl 9 (by simp)
          have hP9 := hE8.put 10 rfl (j := 9) (by simp) (.pointer (some ⟨x8, 0, none⟩))
          have rt9 := hP9.rule 10 rfl
          have hB9 := hP9.box w8.heap.size (by simp) (rgv 0 0 0) 113
          have rt8 := hB9.rule 11 rfl
          have fu := hB9.thaw 11 rfl 10 (by simp)
          have hQ9 := hB9.put 11 rfl (j := 10) (by simp) (.pointer (some ⟨w8.heap.size, 0, none⟩))
          have rt7 := hQ9.rule 11 rfl
          have fv := hQ9.thaw 11 rfl 4 (by simp)
          have hP := hQ9.put 11 rfl (j := 4) (by simp) (.int .i64 4)
          unfold rgv at rt8 fu rt7 fv
          clear hE8 hP9 hB9 hQ9
          go_wp2_with fail
          go_ret
          have e1 : nd1 = ((nd + 1 : Nat) : Int) := by have := HN1.out; omega
          rw [e1] at hP
          refine ⟨nd + 1, hs, ql, F, kq, A, rc, N, HNN.out.1, HNN.out.2, .inr (.inr (.inr ⟨x8, w8.heap.size, HB.out.trans (by rw [HDR.out]; exact bm6 rfl), rfl, ?_⟩))⟩
          exact (hP.sub (.cons_cons _ (.cons_cons _ (.cons _ (.cons _ (List.Sublist.refl _)))))).perm ((List.perm_append_comm_assoc [_, _] [_, _, _, _, _, _, _, _] R).trans ((List.Perm.swap _ _ _).append_left _))
        · by_cases k123 : kd = 1 ∨ kd = 2 ∨ kd = 3
          · rcases k123 with rfl | rfl | rfl
            all_goals
              clear k6
              have hmu9 := hE7.rule 9 rfl 3
              go_wp2_with fail
              have e1 : nd1 = ((nd + 1 : Nat) : Int) := by have := HN1.out; omega
              rw [hmu9]
              rw [e1] at hE7
              refine ⟨⟨nd + 1, hs, ql, F, kq, A, rc, N, Lib.hid (HB.out.trans (by rw [HDR.out]; exact bm1c (by simp) HZ.out)), HLT.out, HH0.out, (by have := HQ.out; have := HLT.out; omega), HNN.out.1, HNN.out.2, hE7.sub (.cons _ (.cons _ (List.Sublist.refl _)))⟩, ?_⟩
              have hl9 := HLT.out
              have hn9 := HN1.out
              simp [intOf]
              omega
          · by_cases k45 : kd = 4 ∨ kd = 5
            · rcases k45 with rfl | rfl
              all_goals
                clear k6
                have HXX := Lib.hid (takeYes_c HZ.out 2 hE7 rfl)
                clear hE7 k123
                go_wp2_with fail
                refine HXX.out.mono ?_
                rintro o w8 ⟨rfl, hE8⟩
                clear HXX rO rZ rt
                simp only [List.set_cons_succ, List.set_cons_zero] at hE8
                have rt := hE8.rule 9 rfl
                have ru := hE8.rule 6 rfl
                unfold urv at ru
                have fu := hE8.thaw 6 rfl 8 (by simp [urv])
                have hE9 := hE8.put 6 rfl (j := 8) (by simp [urv]) (.int .i64 0)
                go_upto_region 17 with fail
                clear rt ru fu hE8
                generalize w8.setCell _ _ = w9 at *
                replace hE9 : Env w0 (boxI O [.int .i64 hs, .int .i64 0] :: coreI c ck cs cb ch cl e cr 0 0 q :: queueI q F ql kq :: wbox p cc :: cellI cc G (getL ml) qc n :: boxI u (urv ck cs cb ch cl e A (ql).length rc N 0 ro) :: rrI A rc ql :: refI m FU ml :: boxI thr [.pointer (some ⟨c, 0, none⟩), .pointer (some ⟨u, 0, none⟩), .slice (some ⟨g, off, none⟩) dn dc, .int .i64 nd1, .int .i64 (0 : Int), pa, pb, pr, pq, pg, ph, .int .i64 done, .bool full] :: R) w9 := hE9.sub (.cons_cons _ (.cons _ (List.Sublist.refl _)))
                clear HC HDD
                refine Ord3.wp_chain [?_, ?_, ?_, ?_, ?_, ?_, ?_, ?_, ?_, ?_] [6, 9] (fun v => Blk 0 v O [.int .i64 hs, .int .i64 0] ∧ v.cell? ⟨thr, 0, none⟩ = some (.pointer (some ⟨c, 0, none⟩))) (Ord3.Stage fun κs => [Env w0 (boxI O [.int .i64 hs, .int .i64 0] :: coreI c ck cs cb ch cl e cr 0 0 q :: queueI q F ql kq :: wbox p cc :: cellI cc G (getL ml) qc n :: boxI u (urv ck cs cb ch cl e A (ql).length rc N 0 ro) :: rrI A rc ql :: refI m FU ml :: boxI thr [.pointer (some ⟨c, 0, none⟩), .pointer (some ⟨u, 0, none⟩), .slice (some ⟨g, off, none⟩) dn dc, .int .i64 nd1, .int .i64 (0 : Int), pa, pb, pr, pq, pg, ph, .int .i64 done, .bool full] :: R), fun v => ∃ r, κs.getD 0 undef = .pointer (some ⟨r, 0, none⟩) ∧ Env w0 (boxI r (rtv c (nxR r 0) hs 0) :: boxI O [.int .i64 hs, .int .i64 0] :: coreI c ck cs cb ch cl e cr 0 0 q :: queueI q F ql kq :: wbox p cc :: cellI cc G (getL ml) qc n :: boxI u (urv ck cs cb ch cl e A (ql).length rc N 0 ro) :: rrI A rc ql :: refI m FU ml :: boxI thr [.pointer (some ⟨c, 0, none⟩), .pointer (some ⟨u, 0, none⟩), .slice (some ⟨g, off, none⟩) dn dc, .int .i64 nd1, .int .i64 (0 : Int), pa, pb, pr, pq, pg, ph, .int .i64 done, .bool full] :: R) v, fun v => ∃ r, κs.getD 0 undef = .pointer (some ⟨r, 0, none⟩) ∧ Env w0 (boxI r (rtv c (nxR r 0) hs 0) :: boxI O [.int .i64 hs, .int .i64 0] :: coreI c ck cs cb ch cl e cr 0 0 q :: queueI q F ql kq :: wbox p cc :: cellI cc G (getL ml) qc n :: boxI u (urv ck cs cb ch cl e A (ql).length rc N 0 ro) :: rrI A rc ql :: refI m FU ml :: boxI thr [.pointer (some ⟨c, 0, none⟩), .pointer (some ⟨u, 0, none⟩), .slice (some ⟨g, off, none⟩) dn dc, .int .i64 nd1, .int .i64 (0 : Int), pa, pb, (.pointer (some ⟨r, 0, none⟩)), pq, pg, ph, .int .i64 done, .bool full] :: R) v]) (by kernel_rfl) (by kernel_rfl) (by kernel_rfl) ⟨hE9.drew.get 0 rfl, hE9.drew.rule 8 rfl 0⟩ ⟨_, rfl, hE9.drew⟩ (fun hT => ?_)
                rotate_left 10
                have hT9 := Lib.hid hT
                clear hT
                repeat (first
                  | (focus (refine Ord3.in_value (v := ?_) hT9.out (by decide) ?_ (by rfl) ?_ ?_; rotate_left 2; (focus (intro w5 hS; have r0 := Blk.rule hS.1; have r1 := hS.2; go_simp <;> with_reducible rfl)); rotate_right; (focus rfl); (try simp only [Act.put, List.setIfInBounds_toArray, List.set_cons_zero, List.set_cons_succ])))
                  | (focus (refine Ord3.in_off hT9.out (by decide) ?_ (by rfl) ?_; (focus rfl); (try simp only [Act.put, List.setIfInBounds_toArray, List.set_cons_zero, List.set_cons_succ]))))
                refine Ord3.in_turn (fun u => ∃ z, u = .pointer (some ⟨z, 0, none⟩)) _ ⟨0, rfl⟩ hT9.out rfl (by decide) (by rfl) ?_ (Or.inl rfl) (by rfl) ?_ ?_
                · rfl
                · rintro v7 hC7 ⟨P7, hP7, hA7⟩
                  cases hP7
                  go_simp
                  simp only [Ord3.Lands]
                  refine (new_r hs (c := c) hA7).mono ?_
                  rintro o v8 ⟨r, rfl, hX8⟩
                  exact ⟨_, rfl, ⟨_, rfl⟩, ⟨hX8.get 1 rfl, hX8.rule 9 rfl 0⟩, _, rfl, r, rfl, hX8⟩
                rintro _ ⟨x8, rfl⟩
                (try simp only [Act.put, List.setIfInBounds_toArray, List.set_cons_zero, List.set_cons_succ])
                repeat (first
                  | (focus (refine Ord3.in_value (v := ?_) hT9.out (by decide) ?_ (by rfl) ?_ ?_; rotate_left 2; (focus (intro w5 hS; have r0 := Blk.rule hS.1; have r1 := hS.2; go_simp <;> with_reducible rfl)); rotate_right; (focus rfl); (try simp only [Act.put, List.setIfInBounds_toArray, List.set_cons_zero, List.set_cons_succ])))
                  | (focus (refine Ord3.in_off hT9.out (by decide) ?_ (by rfl) ?_; (focus rfl); (try simp only [Act.put, List.setIfInBounds_toArray, List.set_cons_zero, List.set_cons_succ]))))
                refine Ord3.in_turn (fun u => u = undef) _ rfl hT9.out rfl (by decide) (by rfl) ?_ (Or.inr ⟨_, 6, [], rfl, by kernel_rfl, by kernel_rfl, rfl⟩) (by rfl) ?_ ?_
                · rfl
                · rintro v7 hC7 ⟨P7, hP7, hA7⟩
                  cases hP7
                  obtain ⟨r, he, hA7⟩ := hA7
                  cases he
                  have ft := hA7.thaw 9 rfl 7 (by simp)
                  have rt := hA7.rule 9 rfl
                  go_simp
                  simp only [Ord3.Lands]
                  have hX9 := hA7.put 9 rfl (j := 7) (by simp) (.pointer (some ⟨x8, 0, none⟩))
                  first | exact ⟨rfl, ⟨hX9.get 1 rfl, hX9.rule 9 rfl 0⟩, _, rfl, x8, rfl, hX9⟩ | exact ⟨trivial, ⟨hX9.get 1 rfl, hX9.rule 9 rfl 0⟩, _, rfl, x8, rfl, hX9⟩
                rintro _ rfl
                (try simp only [Act.put, List.setIfInBounds_toArray, List.set_cons_zero, List.set_cons_succ])
                refine Ord3.in_nil rfl ?_
                rintro v9 hC9 ⟨P9, hP9, hA9⟩
                cases hP9
                obtain ⟨r, he, hA9⟩ := hA9
                cases he
                clear hT9 hC9 hE9
                have rt := hA9.rule 9 rfl
                have rO := hA9.rule 1 rfl
                have hB9 := hA9.box v9.heap.size rfl (rrv hs 0 0) 144
                have rt8 := hB9.rule 10 rfl
                have fu := hB9.thaw 10 rfl 8 (by simp)
                have hQ9 := hB9.put 10 rfl (j := 8) (by simp) (.pointer (some ⟨v9.heap.size, 0, none⟩))
                have rt7 := hQ9.rule 10 rfl
                have fv := hQ9.thaw 10 rfl 4 (by simp)
                have hP := hQ9.put 10 rfl (j := 4) (by simp) (.int .i64 3)
                unfold rrv at rt8 fu rt7 fv
                clear hA9 hB9 hQ9
                go_wp2_with fail
                go_ret
                have e1 : nd1 = ((nd + 1 : Nat) : Int) := by have := HN1.out; omega
                rw [e1] at hP
                refine ⟨nd + 1, hs, ql, F, kq, A, rc, N, HNN.out.1, HNN.out.2, .inr (.inr (.inl ⟨x8, v9.heap.size, HB.out.trans (by rw [HDR.out]; exact bm4 (by simp) (by simp) HZ.out), rfl, ?_⟩))⟩
                exact (hP.sub (.cons_cons _ (.cons_cons _ (.cons _ (List.Sublist.refl _))))).perm ((List.perm_append_comm_assoc [_, _] [_, _, _, _, _, _, _, _] R).trans ((List.Perm.swap _ _ _).append_left _))
            · by_cases k7 : kd = 7
              · subst k7
                have HXX := Lib.hid (dropYes_c HZ.out 2 3 (by decide) hE7 rfl rfl (by have := HQ.out; have := HLT.out; omega))
                clear k123 k45 k6 hE7
                go_wp2_with fail
                refine HXX.out.mono ?_
                rintro o w8 ⟨rfl, k8, F8, -, hE8⟩
                clear rt rO rZ HXX
                simp only [List.set_cons_succ, List.set_cons_zero] at hE8
                have rt := hE8.rule 9 rfl
                have HXX := Lib.hid (rdropYes_c (by have := HZ.out; have := HH0.out; omega) 6 (by have := HQ.out; have := HLT.out; omega) (by have := HNN.out; omega) hE8 rfl rfl)
                clear hE8
                go_wp2_with fail
                refine HXX.out.mono ?_
                rintro o w9 ⟨rfl, A8, c8, hE9⟩
                clear HXX rt
                simp only [List.set_cons_succ, List.set_cons_zero] at hE9
                have hN7 := roomN_in HNN.out (show ql.length + 1 ≤ 1000000 by have := HQ.out; have := HLT.out; omega)
                have HN7 := Lib.hid hN7
                clear hN7
                obtain ⟨N8, hN8⟩ : ∃ N8, roomN (room0 N) (ql.length + 1) = N8 := ⟨_, rfl⟩
                rw [hN8] at HN7 hE9
                clear hN8
                have hlq : ql.length + 1 = (ql ++ [(hs, (0 : Int), (0 : Int))]).length := by simp
                rw [hlq] at hE9
                have HLQ := Lib.hid hlq
                clear hlq
                have hmu9 := hE9.rule 9 rfl 3
                go_wp2_with fail
                have e1 : nd1 = ((nd + 1 : Nat) : Int) := by have := HN1.out; omega
                rw [hmu9]
                rw [e1] at hE9
                refine ⟨⟨nd + 1, 0, ql ++ [(hs, 0, 0)], F8, k8, A8, c8, N8, Lib.hid (HB.out.trans (by rw [HDR.out]; exact bm7 rfl HZ.out)), HLT.out, (by decide), (by have := HQ.out; have := HLT.out; have := HLQ.out; omega), HN7.out.1, HN7.out.2, hE9.sub (.cons _ (.cons _ (List.Sublist.refl _)))⟩, ?_⟩
                have hl9 := HLT.out
                have hn9 := HN1.out
                simp [intOf]
                omega
              · have HK : Hid (kd < 1 ∨ 7 < kd) := Lib.hid (by omega)
                have j1 : (kd == 1) = false := by simp; omega
                have j2 : (kd == 2) = false := by simp; omega
                have j3 : (kd == 3) = false := by simp; omega
                have j4 : (kd == 4) = false := by simp; omega
                have j5 : (kd == 5) = false := by simp; omega
                have j6 : (kd == 6) = false := by simp; omega
                have j7 : (kd == 7) = false := by simp; omega
                clear k123 k45 k6 k7
                have hmu9 := hE7.rule 9 rfl 3
                go_wp2_with fail
                have e1 : nd1 = ((nd + 1 : Nat) : Int) := by have := HN1.out; omega
                rw [hmu9]
                rw [e1] at hE7
                refine ⟨⟨nd + 1, hs, ql, F, kq, A, rc, N, Lib.hid (HB.out.trans (by rw [HDR.out]; exact bmO HK.out)), HLT.out, HH0.out, (by have := HQ.out; have := HLT.out; omega), HNN.out.1, HNN.out.2, hE7.sub (.cons _ (.cons _ (List.Sublist.refl _)))⟩, ?_⟩
                have hl9 := HLT.out
                have hn9 := HN1.out
                simp [intOf]
                omega
    · have hb1 : decide ((nd : Int) < ((dn : Nat) : Int)) = false := by simp; omega
      have hb2 : (nd < dn) = False := by simp; omega
      have hnn : nd = ds.length := by omega
      have HL9 : Hid (ds.drop nd = []) := Lib.hid (by rw [hnn]; simp)
      clear hlt hdn hdl hnd h0 hq hnn
      go_wp2_with fail
      refine wp_text (S := (Env w0 (coreI c ck cs cb ch cl e cr hs 0 q :: queueI q F ql kq :: wbox p cc :: cellI cc G (getL ml) qc n :: boxI u (urv ck cs cb ch cl e A (ql).length rc N hs ro) :: rrI A rc ql :: refI m FU ml :: boxI thr [.pointer (some ⟨c, 0, none⟩), .pointer (some ⟨u, 0, none⟩), .slice dA dn dc, .int .i64 (nd : Int), .int .i64 (0 : Int), pa, pb, pr, pq, pg, ph, .int .i64 done, .bool full] :: R))) (by kernel_rfl) (by kernel_rfl) hE.drew (fun hT => ?_)
      have hT9 := Lib.hid hT
      clear hT
      repeat (first
        | (refine text_value (v := ?_) hT9.out (by rfl) ?_ ?_; rotate_left; (focus (intro w5 hS; have r := hS.rule 7 rfl; go_simp <;> with_reducible rfl)); (try simp only [Act.put, List.setIfInBounds_toArray, List.set_cons_zero, List.set_cons_succ]))
        | (refine text_off hT9.out (by rfl) ?_; (try simp only [Act.put, List.setIfInBounds_toArray, List.set_cons_zero, List.set_cons_succ]))
        | (refine text_call (v := ?_) (f := ?_) (args := ?_) hT9.out (by rfl) ?_ ?_ ?_; rotate_left 3; (focus (intro w5 hS; have r := hS.rule 7 rfl; go_simp; constructor <;> with_reducible rfl)); (focus (intro w5 hS; (first | fail))); (try simp only [Act.put, List.setIfInBounds_toArray, List.set_cons_zero, List.set_cons_succ])))
      refine InText.nil fun w5 hS5 => ?_
      clear hT9
      clear hE
      go_wp2_with fail
      go_ret
      exact ⟨nd, hs, ql, F, kq, A, rc, N, HNN.out.1, HNN.out.2, .inl ⟨HB.out.trans (by rw [HL9.out]; rfl), rfl, hS5⟩⟩
end
end Go.Proofs.YtmifdkbpbkafjaaGreatDoor

/- The plain world: a birth. -/
namespace Go.Proofs.YtmifdkbpbkafjaaGreatDoor
open Go.RowKit
set_option maxRecDepth 100000

theorem born_w (v : Value) (m : Int) (w : World) : Calls Tryz.prog 178 #[v, .int .i64 m] w fun e w' => e = .returned (.int .i64 0) ∧ w' = w := by
  go_enter Tryz.func178, Tryz.ntmps178
  go_wp2
  go_ret
  exact ⟨rfl, rfl⟩
end Go.Proofs.YtmifdkbpbkafjaaGreatDoor

/- Allocs: the rows of a birth. -/
namespace Go.Proofs.YtmifdkbpbkafjaaGreatDoor
open Go.RowKit Go.Maps
set_option maxRecDepth 100000

section
variable {w0 w : World} {R : List Item} {a : Nat} {S : ST} {M : MA}
set_option maxHeartbeats 3200000 in
theorem store_a (g o N C : Nat) (part word : Int) (hC : N + 1 ≤ C) (hpt : In64 part) (hwd : InU word) (hms : In64 M.s) (hm : S.m < maxLen) (hleft : M.left = .slice (some ⟨g, o, none⟩) (N + 1) C) {xs : List Value} (h0 : xs[o]? = some (.int .i64 part)) (h1 : xs[o + 1]? = some (.int .u64 word)) (hE : Env w0 (boxI a (av S.c M) :: LT S (lieI g xs :: R)) w) :
    Calls Tryz.prog 117 #[.pointer (some ⟨a, 0, none⟩), .iface 28 (.pointer (some ⟨S.p, 0, none⟩))] w fun u w' => u = .returned (.int .i64 (if N = 0 then 1 else 0)) ∧ ∃ nx left G', (N ≠ 0 → nx = M.nx ∧ left = .slice (some ⟨g, o + 2, none⟩) N (C - 1)) ∧ Env w0 (boxI a (av S.c { M with nx := nx, left := left }) :: LT { S with G := G', f := upd S.f (5, M.s, part) word, qc := { S.qc with s := wrap64 (S.qc.s + 1) }, m := S.m + 1 } (lieI g xs :: R)) w' := by
  have hmf := makeF
  have hah := ahead_store
  have HWF : Hid (Wf (5, M.s, part)) := Lib.hid (by unfold Wf; exact ⟨by unfold In64; omega, hms, hpt⟩)
  have HWD := Lib.hid hwd
  have r := hE.rule 0 rfl
  unfold av at r
  simp only [hleft] at r
  have c0 := hE.lies 5 rfl o _ h0
  have c1 := hE.lies 5 rfl (o + 1) _ h1
  have hlt : (0 : Int) < ((N + 1 : Nat) : Int) := by omega
  clear hpt hwd hms
  go_enter Tryz.func117, Tryz.ntmps117
  go_wp2_with fail
  have hE1 := (hE.box w.heap.size rfl [.int .i64 part, .int .u64 word] 202).perm (L' := boxI a (av S.c M) :: LT S (boxI w.heap.size [.int .i64 part, .int .u64 word] :: lieI g xs :: R)) (List.perm_middle (l₁ := [boxI a (av S.c M), _, _, _, _])).symm
  clear r c0 c1 hE
  generalize w.alloc _ = w1 at *
  generalize w.heap.size = Y at *
  refine Ord.wp_chain [14] (fun v => Blk 0 v a (av S.c M) ∧ Blk 0 v Y [.int .i64 part, .int .u64 word]) (fun k w' => ∃ G5, Env w0 (boxI a (av S.c M) :: LT (if k = 0 then S else { S with G := G5, f := upd S.f (5, M.s, part) word, qc := { S.qc with s := wrap64 (S.qc.s + 1) }, m := S.m + 1 }) (boxI Y [.int .i64 part, .int .u64 word] :: lieI g xs :: R)) w') (by kernel_rfl) (by kernel_rfl) (by kernel_rfl) ⟨hE1.drew.get 0 rfl, hE1.drew.get 5 rfl⟩ ⟨S.G, hE1.drew⟩ (fun hT => ?_)
  have hT9 := Lib.hid hT
  clear hT
  repeat (first
    | (refine Ord.ch_value (v := ?_) hT9.out (by decide) (by rfl) ?_ ?_; rotate_left; (focus (intro w5 hS; have r := hS.1.rule; have r1 := hS.2.rule; unfold av at r; go_simp <;> with_reducible rfl)); (try simp only [Act.put, List.setIfInBounds_toArray, List.set_cons_zero, List.set_cons_succ]))
    | (refine Ord.ch_off hT9.out (by decide) (by rfl) ?_; (try simp only [Act.put, List.setIfInBounds_toArray, List.set_cons_zero, List.set_cons_succ]))
    | (refine Ord.ch_call (v := ?_) (f := ?_) (args := ?_) hT9.out (by decide) (by rfl) ?_ ?_ ?_; rotate_left 3; (focus (intro w5 hS; have r := hS.1.rule; have r1 := hS.2.rule; unfold av at r; go_simp; constructor <;> with_reducible rfl)); (focus (intro w5 hS; (first | (with_reducible refine (part_any _ _ _ _).mono ?_; rintro e w6 ⟨rfl, hb6⟩; constructor; with_reducible rfl; exact ⟨⟨hS.1.under hb6, hS.2.under hb6⟩, fun k h => h.elim fun G5 h => ⟨G5, h.over hb6⟩⟩)))); (try simp only [Act.put, List.setIfInBounds_toArray, List.set_cons_zero, List.set_cons_succ])))
  refine Ord.ch_turn (v := .tuple #[]) 0 hT9.out rfl (by decide) (Or.inl rfl) (by rfl) ?_ ?_
  · rintro w5 hC5 ⟨G5, hA5⟩
    simp only [if_true] at hA5
    go_simp
    rw [method_store]
    simp only [Result.andThen_ok]
    go_simp
    simp only [Ord.LandsIn]
    refine (store_w 5 M.s part 0 word 0 false HWF.out HWD.out hm 3 4 (by decide) hA5 rfl rfl).mono ?_
    rintro e w6 ⟨rfl, G6, hE6⟩
    exact ⟨rfl, ⟨hE6.get 0 rfl, hE6.get 5 rfl⟩, G6, hE6⟩
  (try simp only [Act.put, List.setIfInBounds_toArray, List.set_cons_zero, List.set_cons_succ])
  repeat (first
    | (refine Ord.ch_value (v := ?_) hT9.out (by decide) (by rfl) ?_ ?_; rotate_left; (focus (intro w5 hS; skip; go_simp <;> with_reducible rfl)); (try simp only [Act.put, List.setIfInBounds_toArray, List.set_cons_zero, List.set_cons_succ]))
    | (refine Ord.ch_off hT9.out (by decide) (by rfl) ?_; (try simp only [Act.put, List.setIfInBounds_toArray, List.set_cons_zero, List.set_cons_succ])))
  refine Ord.InText.nil fun w5 hS => ?_
  clear hT9
  obtain ⟨hC9, hA9⟩ := Ord.chain_end hS
  clear hS
  obtain ⟨G9, hA9⟩ := hA9
  simp only [List.length_cons, List.length_nil, Nat.zero_add, Nat.one_ne_zero, if_false] at hA9
  replace hA9 := hA9.sub (L' := boxI a (av S.c M) :: LT { S with G := G9, f := upd S.f (5, M.s, part) word, qc := { S.qc with s := wrap64 (S.qc.s + 1) }, m := S.m + 1 } (lieI g xs :: R)) (.cons_cons _ (.cons_cons _ (.cons_cons _ (.cons_cons _ (.cons_cons _ (.cons _ (List.Sublist.refl _)))))))
  clear hC9 hE1
  have r := hA9.rule 0 rfl
  unfold av at r
  simp only [hleft] at r
  have f := hA9.thaw 0 rfl 17 (by simp [av])
  have hP := fun v => hA9.put 0 rfl (j := 17) (by simp [av]) v
  obtain _ | C := C
  · omega
  obtain _ | N := N
  · obtain _ | C := C
    · go_wp2_with fail
      refine (end_m 0 1 (by simp [av]) (hP _) rfl).mono ?_
      rintro o w7 ⟨rfl, nx, hE7⟩
      go_wp2_with fail
      go_ret
      first | exact ⟨rfl, nx, _, G9, fun h => absurd rfl h, hE7⟩ | exact ⟨rfl, nx, _, G9, hE7⟩
    · go_wp2_with fail
      refine (end_m 0 1 (by simp [av]) (hP _) rfl).mono ?_
      rintro o w7 ⟨rfl, nx, hE7⟩
      go_wp2_with fail
      go_ret
      first | exact ⟨rfl, nx, _, G9, fun h => absurd rfl h, hE7⟩ | exact ⟨rfl, nx, _, G9, hE7⟩
  · obtain _ | C := C
    · omega
    · go_wp2_with fail
      go_ret
      exact ⟨rfl, M.nx, _, ⟨rfl, rfl⟩, G9, hP _⟩
theorem method_born (k p : Nat) (w : World) : (method (k + 1) 28 (.pointer (some ⟨p, 0, none⟩)) "Born").run Tryz.prog w = .ok (178, .pointer (some ⟨p, 0, none⟩)) w := by kernel_rfl
set_option maxHeartbeats 3200000 in
theorem birth_a (x y : Int) (t : List Trip) (hql : S.ql = (x, y, 0) :: t) (hx : 1 ≤ x ∧ x ≤ S.cs) (hcs : S.cs ≤ 9223372036854775806) (hhs : S.hs = 0) (he : 0 ≤ S.ce ∧ S.ce ≤ 9223372036854775807) (hm : S.m < maxLen) (hE : Env w0 (boxI a (av S.c M) :: LT S R) w) :
    Calls Tryz.prog 93 #[.pointer (some ⟨a, 0, none⟩), .iface 28 (.pointer (some ⟨S.p, 0, none⟩))] w fun u w' => u = .returned (.int .i64 0) ∧ ∃ g c G', (wordsA S.ck S.ce M.key M.val (IntKind.u64.wrap M.lv)).length ≤ c ∧ Env w0 (boxI a (av S.c { M with nx := nxA a 11, s := x, left := .slice (some ⟨g, 2, none⟩) ((wordsA S.ck S.ce M.key M.val (IntKind.u64.wrap M.lv)).length - 1) (c - 1) }) :: LT { S with ql := t, hs := x, G := G', f := upd S.f (5, x, 0) S.ce, qc := { S.qc with s := wrap64 (S.qc.s + 1) }, m := S.m + 1 } (lieI g (flat2 (wordsA S.ck S.ce M.key M.val (IntKind.u64.wrap M.lv))) :: R)) w' := by
  have hmf := makeF
  have hmb := method_born
  have r := hE.rule 0 rfl
  unfold av at r
  have hQ := hE.queue 2 rfl
  rw [hql] at hQ
  go_enter Tryz.func93, Tryz.ntmps93
  go_wp2_with fail
  refine (queue_c (hE.get 1 rfl)).mono ?_
  rintro o w1 ⟨rfl, rfl⟩
  go_wp2_with fail
  refine (head_any x y 0 hQ).mono ?_
  rintro o w2 ⟨rfl, hb⟩
  have hE1 := ((hE.over hb).box w2.heap.size rfl [.int .i64 x, .int .i64 y, .int .i64 0] 63).perm (L' := boxI a (av S.c M) :: LT S (boxI w2.heap.size [.int .i64 x, .int .i64 y, .int .i64 0] :: R)) (List.perm_middle (l₁ := [boxI a (av S.c M), _, _, _, _])).symm
  clear r hb hQ hE
  simp only [tv]
  go_wp2_with fail
  generalize w2.alloc _ = w3 at *
  generalize w2.heap.size = Y at *
  refine Ord.wp_chain [10] (fun v => Blk 0 v Y [.int .i64 x, .int .i64 y, .int .i64 0]) (fun k w' => Env w0 (boxI a (av S.c (if k = 0 then M else { M with s := x })) :: LT S (boxI Y [.int .i64 x, .int .i64 y, .int .i64 0] :: R)) w') (by kernel_rfl) (by kernel_rfl) (by kernel_rfl) (hE1.drew.get 5 rfl) hE1.drew (fun hT => ?_)
  have hT9 := Lib.hid hT
  clear hT
  repeat (first
    | (refine Ord.ch_value (v := ?_) hT9.out (by decide) (by rfl) ?_ ?_; rotate_left; (focus (intro w5 hS; have r := hS.rule; go_simp <;> with_reducible rfl)); (try simp only [Act.put, List.setIfInBounds_toArray, List.set_cons_zero, List.set_cons_succ]))
    | (refine Ord.ch_off hT9.out (by decide) (by rfl) ?_; (try simp only [Act.put, List.setIfInBounds_toArray, List.set_cons_zero, List.set_cons_succ]))
    | (refine Ord.ch_call (v := ?_) (f := ?_) (args := ?_) hT9.out (by decide) (by rfl) ?_ ?_ ?_; rotate_left 3; (focus (intro w5 hS; have r := hS.rule; go_simp; constructor <;> with_reducible rfl)); (focus (intro w5 hS; (first | (with_reducible refine (born_w _ _ _).mono ?_; rintro e w6 ⟨rfl, rfl⟩; constructor; with_reducible rfl; exact ⟨hS, fun k h => h⟩)))); (try simp only [Act.put, List.setIfInBounds_toArray, List.set_cons_zero, List.set_cons_succ])))
  refine Ord.ch_turn (v := undef) 0 hT9.out rfl (by decide) (Or.inl rfl) (by rfl) ?_ ?_
  · rintro w5 hC5 hA5
    simp only [if_true] at hA5
    have r := hA5.rule 0 rfl
    unfold av at r
    have f6 := hA5.thaw 0 rfl 15 (by simp [av])
    have f7 := hA5.thaw 0 rfl 16 (by simp [av])
    go_simp
    have h9 := (hA5.put 0 rfl (j := 15) (by simp [av]) (.int .i64 x)).put 0 rfl (j := 16) (by simp [av]) (.int .i64 0)
    replace h9 : Env w0 (boxI a (av S.c { M with s := x }) :: LT S (boxI Y [.int .i64 x, .int .i64 y, .int .i64 0] :: R)) _ := h9
    exact ⟨rfl, h9.get 5 rfl, h9⟩
  (try simp only [Act.put, List.setIfInBounds_toArray, List.set_cons_zero, List.set_cons_succ])
  repeat (first
    | (refine Ord.ch_value (v := ?_) hT9.out (by decide) (by rfl) ?_ ?_; rotate_left; (focus (intro w5 hS; skip; go_simp <;> with_reducible rfl)); (try simp only [Act.put, List.setIfInBounds_toArray, List.set_cons_zero, List.set_cons_succ]))
    | (refine Ord.ch_off hT9.out (by decide) (by rfl) ?_; (try simp only [Act.put, List.setIfInBounds_toArray, List.set_cons_zero, List.set_cons_succ])))
  refine Ord.InText.nil fun w5 hS => ?_
  clear hT9
  obtain ⟨hC9, hA9⟩ := Ord.chain_end hS
  clear hS
  simp only [List.length_cons, List.length_nil, Nat.zero_add, Nat.one_ne_zero, if_false] at hA9
  clear hC9 hE1
  replace hA9 := hA9.sub (L' := boxI a (av S.c { M with s := x }) :: LT S R) (.cons_cons _ (.cons_cons _ (.cons_cons _ (.cons_cons _ (.cons_cons _ (.cons _ (List.Sublist.refl _)))))))
  have hQ := hA9.queue 2 rfl
  rw [hql] at hQ
  go_wp2_with fail
  refine (pop_any x y 0 hQ).mono ?_
  rintro o w6 ⟨rfl, hQ6, hs6⟩
  have hE6 : Env w0 (boxI a (av S.c { M with s := x }) :: LT { S with ql := t } R) w6 := hA9.turnQ 2 rfl hQ6 hs6
  clear hQ hQ6 hs6 hA9
  go_wp2_with fail
  refine Ord.wp_chain [9] (fun v => Blk 0 v a (av S.c { M with s := x })) (fun k w' => Env w0 (boxI a (av S.c { M with s := x }) :: LT (if k = 0 then { S with ql := t } else { S with ql := t, hs := x }) R) w') (by kernel_rfl) (by kernel_rfl) (by kernel_rfl) (hE6.drew.get 0 rfl) hE6.drew (fun hT => ?_)
  have hT9 := Lib.hid hT
  clear hT
  repeat (first
    | (refine Ord.ch_value (v := ?_) hT9.out (by decide) (by rfl) ?_ ?_; rotate_left; (focus (intro w5 hS; have r := hS.rule; unfold av at r; go_simp <;> with_reducible rfl)); (try simp only [Act.put, List.setIfInBounds_toArray, List.set_cons_zero, List.set_cons_succ]))
    | (refine Ord.ch_off hT9.out (by decide) (by rfl) ?_; (try simp only [Act.put, List.setIfInBounds_toArray, List.set_cons_zero, List.set_cons_succ]))
    | (refine Ord.ch_call (v := ?_) (f := ?_) (args := ?_) hT9.out (by decide) (by rfl) ?_ ?_ ?_; rotate_left 3; (focus (intro w5 hS; have r := hS.rule; unfold av at r; go_simp; constructor <;> with_reducible rfl)); (focus (intro w5 hS; (first | fail))); (try simp only [Act.put, List.setIfInBounds_toArray, List.set_cons_zero, List.set_cons_succ])))
  refine Ord.ch_turn (v := .int .i64 0) 0 hT9.out rfl (by decide) (Or.inl rfl) (by rfl) ?_ ?_
  · rintro w5 hC5 hA5
    simp only [if_true] at hA5
    go_simp
    simp only [Ord.LandsIn]
    refine (holdYes_c x 0 hhs hx 1 hA5 rfl).mono ?_
    rintro e w6 ⟨rfl, hE7⟩
    exact ⟨rfl, hE7.get 0 rfl, hE7⟩
  (try simp only [Act.put, List.setIfInBounds_toArray, List.set_cons_zero, List.set_cons_succ])
  repeat (first
    | (refine Ord.ch_value (v := ?_) hT9.out (by decide) (by rfl) ?_ ?_; rotate_left; (focus (intro w5 hS; skip; go_simp <;> with_reducible rfl)); (try simp only [Act.put, List.setIfInBounds_toArray, List.set_cons_zero, List.set_cons_succ]))
    | (refine Ord.ch_off hT9.out (by decide) (by rfl) ?_; (try simp only [Act.put, List.setIfInBounds_toArray, List.set_cons_zero, List.set_cons_succ])))
  refine Ord.InText.nil fun w5 hS => ?_
  clear hT9
  obtain ⟨hC9, hA9⟩ := Ord.chain_end hS
  clear hS
  simp only [List.length_cons, List.length_nil, Nat.zero_add, Nat.one_ne_zero, if_false] at hA9
  clear hC9 hE6
  have r := hA9.rule 0 rfl
  unfold av at r
  go_wp2_with fail
  refine (words_a (S := { S with ql := t, hs := x }) (M := { M with s := x }) he hA9).mono ?_
  rintro o w7 ⟨g, c, rfl, hgc, hE7⟩
  replace hE7 := hE7.perm (L' := boxI a (av S.c { M with s := x }) :: LT { S with ql := t, hs := x } (lieI g (flat2 (wordsA S.ck S.ce M.key M.val (IntKind.u64.wrap M.lv))) :: R)) (List.perm_middle (l₁ := [boxI a (av S.c { M with s := x }), _, _, _, _])).symm
  clear r hA9
  have hle : 3 ≤ (wordsA S.ck S.ce M.key M.val (IntKind.u64.wrap M.lv)).length := by unfold wordsA; simp
  have h0 : (flat2 (wordsA S.ck S.ce M.key M.val (IntKind.u64.wrap M.lv)))[0]? = some (.int .i64 0) := by simp [wordsA, flat2]
  have h1 : (flat2 (wordsA S.ck S.ce M.key M.val (IntKind.u64.wrap M.lv)))[0 + 1]? = some (.int .u64 S.ce) := by simp [wordsA, flat2]
  generalize hWW : wordsA S.ck S.ce M.key M.val (IntKind.u64.wrap M.lv) = W at *
  have HWW := Lib.hid hWW
  clear hWW
  obtain ⟨N, hN⟩ : ∃ N, W.length = N + 1 := ⟨W.length - 1, by omega⟩
  have HN := Lib.hid hN
  rw [hN] at hgc hle ⊢
  simp only [hN]
  have hN0 : N ≠ 0 := by omega
  clear hN hle
  have r := hE7.rule 0 rfl
  unfold av at r
  have f6 := hE7.thaw 0 rfl 17 (by simp [av])
  have f1 := hE7.thaw 0 rfl 1 (by simp [av])
  have h8 := (hE7.put 0 rfl (j := 17) (by simp [av]) (.slice (some ⟨g, 0, none⟩) (N + 1) c)).put 0 rfl (j := 1) (by simp [av]) (nxA a 11)
  replace h8 : Env w0 (boxI a (av S.c { M with nx := nxA a 11, s := x, left := .slice (some ⟨g, 0, none⟩) (N + 1) c }) :: LT { S with ql := t, hs := x } (lieI g (flat2 W) :: R)) _ := h8
  have hst := store_a (S := { S with ql := t, hs := x }) (M := { M with nx := nxA a 11, s := x, left := .slice (some ⟨g, 0, none⟩) (N + 1) c }) g 0 N c 0 S.ce hgc (by unfold In64; omega) (by unfold InU; omega) (by unfold In64; dsimp only; omega) hm rfl h0 h1 h8
  have HST := Lib.hid hst
  clear hst h8 he hx hcs
  go_wp2_with fail
  refine HST.out.mono ?_
  rintro o w8 ⟨rfl, nx, left, G', hnl, hE8⟩
  obtain ⟨rfl, rfl⟩ := hnl hN0
  rw [if_neg hN0]
  go_wp2_with fail
  go_ret
  rw [HWW.out, HN.out]
  exact ⟨rfl, g, c, G', hgc, hE8⟩
end
end Go.Proofs.YtmifdkbpbkafjaaGreatDoor

/- Allocs: contracts of New and Step. -/
namespace Go.Proofs.YtmifdkbpbkafjaaGreatDoor
open Go.RowKit Go.Maps
set_option maxRecDepth 100000

theorem enters_fn (pc : Nat) (ar : Array Value) (v : World) : (callFunc (fnA pc) ar).run Tryz.prog v = .ok (.enter (fnA pc) ar) v := by
  unfold fnA
  repeat' split
  all_goals kernel_rfl

section
variable {w0 w : World} {R : List Item} {a : Nat} {S : ST} {M : MA}
set_option maxHeartbeats 800000 in
theorem step_a (pc : Nat) (u : Value) (Q : Ending → World → Prop) (hE : Env w0 (boxI a (av S.c M) :: LT S R) w) (hnx : M.nx = nxA a pc)
    (hc : Calls Tryz.prog (fnA pc) #[.pointer (some ⟨a, 0, none⟩), u] w fun e w' => ∃ s, e = .returned (.int .i64 s) ∧ Q (.returned (.int .i64 s)) w') :
    Calls Tryz.prog 32 #[.pointer (some ⟨a, 0, none⟩), u] w Q := by
  have hn : w.cell? ⟨a, 1, none⟩ = some (.func (.func (fnA pc)) #[.pointer (some ⟨a, 0, none⟩)] #[]) := by
    have := hE.rule 0 rfl 1
    rw [this, show (av S.c M)[1]? = some M.nx from rfl, hnx]
    rfl
  have hst := step_m (fnA pc) (enters_fn pc) u _ (fun o w' => ∃ s, o = .returned (.int .i64 s) ∧ Q (.returned (.int .i64 s)) w') hn (hc.mono fun e w' ⟨s, he, hq⟩ => ⟨s, he, s, rfl, hq⟩)
  have HST := Lib.hid hst
  clear hst hc
  go_enter Tryz.func32, Tryz.ntmps32
  go_wp2_with fail
  refine HST.out.mono ?_
  rintro o w1 ⟨s, rfl, hQ⟩
  go_wp2_with fail
  exact hQ
theorem step_ay {st : Int} {Y : World → Prop} (pc : Nat) (u : Value) (hE : Env w0 (boxI a (av S.c M) :: LT S R) w) (hnx : M.nx = nxA a pc)
    (hc : Calls Tryz.prog (fnA pc) #[.pointer (some ⟨a, 0, none⟩), u] w fun o w' => o = .returned (.int .i64 st) ∧ Y w') :
    Calls Tryz.prog 32 #[.pointer (some ⟨a, 0, none⟩), u] w fun o w' => o = .returned (.int .i64 st) ∧ Y w' :=
  step_a pc u _ hE hnx (hc.mono fun _ _ h => ⟨st, h.1, rfl, h.2⟩)
theorem stepNil_a (u : Value) (w : World) : Calls Tryz.prog 32 #[.pointer none, u] w fun o w' => o = .returned (.int .i64 1) ∧ w' = w := by
  go_enter Tryz.func32, Tryz.ntmps32
  go_wp2
  go_ret
  exact ⟨rfl, rfl⟩
theorem newNil_a (k key val lv : Int) (w : World) : Calls Tryz.prog 31 #[.pointer none, .agg #[.int .i64 k, .int .u64 key, .int .u64 val, .int .i64 lv]] w fun o w' => o = .returned (.tuple #[.pointer none, .int .i64 1]) ∧ Below w.heap.size w w' := by
  go_enter Tryz.func31, Tryz.ntmps31
  go_wp2
  go_ret2
  exact ⟨rfl, (Below.refl _ _).alloc (Nat.le_refl _) _⟩
set_option maxHeartbeats 1600000 in
theorem newHeld_a (k key val lv : Int) (hh : S.hs ≠ 0) (hE : Env w0 (LT S R) w) :
    Calls Tryz.prog 31 #[.pointer (some ⟨S.c, 0, none⟩), .agg #[.int .i64 k, .int .u64 key, .int .u64 val, .int .i64 lv]] w fun o w' => o = .returned (.tuple #[.pointer none, .int .i64 1]) ∧ Env w0 (LT S R) w' := by
  have hE1 := hE.box w.heap.size rfl [.int .i64 k, .int .u64 key, .int .u64 val, .int .i64 lv] 75
  have hb : (S.hs != 0) = true := by simpa using hh
  clear hE
  go_enter Tryz.func31, Tryz.ntmps31
  go_wp2_with fail
  refine (held_c (hE1.get 1 rfl)).mono ?_
  rintro o w1 ⟨rfl, hb1⟩
  rw [hb]
  have hE2 := (hE1.over hb1).more (.cells [.int .i64 S.hs, .int .i64 0].toArray 67)
  go_wp2_with fail
  go_ret2
  exact ⟨rfl, hE2.sub (.cons _ (List.Sublist.refl _))⟩
set_option maxHeartbeats 1600000 in
theorem new_a (k key val lv : Int) (hh : S.hs = 0) (hE : Env w0 (LT S R) w) :
    Calls Tryz.prog 31 #[.pointer (some ⟨S.c, 0, none⟩), .agg #[.int .i64 k, .int .u64 key, .int .u64 val, .int .i64 lv]] w fun o w' => (decP S.ql S.ce S.cl = 0 ∧ o = .returned (.tuple #[.pointer none, .int .i64 4]) ∧ Env w0 (LT S R) w') ∨ (decP S.ql S.ce S.cl ≠ 0 ∧ ∃ a, o = .returned (.tuple #[.pointer (some ⟨a, 0, none⟩), .int .i64 0]) ∧ Env w0 (boxI a (av S.c { nx := nxA a (decP S.ql S.ce S.cl), left := .slice none 0 0, k := k, key := key, val := val, lv := lv, h := 0, n := 0, r := 0, s := 0 }) :: LT S R) w') := by
  have hE1 := hE.box w.heap.size rfl [.int .i64 k, .int .u64 key, .int .u64 val, .int .i64 lv] 75
  have hb : (S.hs != 0) = false := by simpa using hh
  clear hE
  go_enter Tryz.func31, Tryz.ntmps31
  go_wp2_with fail
  refine (held_c (hE1.get 1 rfl)).mono ?_
  rintro o w1 ⟨rfl, hb1⟩
  rw [hb]
  have hE2 := (hE1.over hb1).more (.cells [.int .i64 0, .int .i64 0].toArray 67)
  clear hb1 hE1
  have r0 := hE2.rule 0 rfl
  go_wp2_with fail
  have hE3 := (hE2.box (w1.heap.size + 1) (by simp) (av S.c { nx := .nilFunc, left := .slice none 0 0, k := k, key := key, val := val, lv := lv, h := 0, n := 0, r := 0, s := 0 }) 134).sub (L' := boxI (w1.heap.size + 1) (av S.c { nx := .nilFunc, left := .slice none 0 0, k := k, key := key, val := val, lv := lv, h := 0, n := 0, r := 0, s := 0 }) :: LT S R) (.cons_cons _ (.cons _ (List.Sublist.refl _)))
  refine (decide_a hE3).mono ?_
  rintro o w2 ⟨rfl, nx, hnx, hE4⟩
  clear r0 hE2 hE3
  by_cases hd : decP S.ql S.ce S.cl = 0
  · have hds : decS S.ql S.ce S.cl = 4 := by unfold decS; rw [if_pos hd]
    rw [hds]
    have HD := Lib.hid hd
    clear hd hds hnx
    go_wp2_with fail
    go_ret2
    exact .inl ⟨HD.out, rfl, hE4.sub (.cons _ (List.Sublist.refl _))⟩
  · have hds : decS S.ql S.ce S.cl = 0 := by unfold decS; rw [if_neg hd]
    rw [hds]
    have HD := Lib.hid hd
    have HNX := Lib.hid (hnx hd)
    clear hd hds hnx
    go_wp2_with fail
    go_ret2
    rw [HNX.out] at hE4
    exact .inr ⟨HD.out, _, rfl, hE4⟩
end
end Go.Proofs.YtmifdkbpbkafjaaGreatDoor
