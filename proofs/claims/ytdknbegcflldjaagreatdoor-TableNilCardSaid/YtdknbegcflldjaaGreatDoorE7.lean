/- What is proved on the way to the statement, part 7 of 17: contracts of the functions, among other things in memory. -/
import Derived.Test.YtdknbegcflldjaaGreatDoorE6
import Derived.LoopIn

/- The reference's thread: contracts. -/
namespace Go.Proofs.YtdknbegcflldjaaGreatDoor
open Go.RowKit Go.Maps
set_option maxRecDepth 100000

/-- The reference's cells. -/
def urv (k s b h l e : Int) (A : Option Addr) (n c : Nat) (N hs r : Int) : List Value := [.int .i64 k, .int .i64 s, .int .i64 b, .int .i64 h, .int .i64 l, .int .i64 e, .slice A n c, .int .i64 N, .int .i64 hs, .int .i64 r]
theorem epI_in {x : Int} (hx : InU x) : 0 ≤ epI x ∧ epI x ≤ 9223372036854775807 := by
  unfold InU at hx
  unfold epI
  split <;> omega

theorem epoch13_any (w : World) : Calls Tryz.prog 51 #[] w fun e w' => e = .returned (.agg #[.int .i64 1, .int .i64 0, .int .i64 0]) ∧ Below w.heap.size w w' := by
  go_enter Tryz.func51, Tryz.ntmps51
  go_wp2
  exact bodyPost_ret (v := .agg #[.int .i64 1, .int .i64 0, .int .i64 0]) (by simp [results, Tryz.results51, go_sem]) rfl ⟨rfl, (Below.refl _ _).alloc (Nat.le_refl _) _⟩
end Go.Proofs.YtdknbegcflldjaaGreatDoor

/- The reference's thread: contracts. -/
namespace Go.Proofs.YtdknbegcflldjaaGreatDoor
open Go.RowKit Go.Maps
set_option maxRecDepth 100000

section
variable {w0 w : World} {L : List Item} {u m n c : Nat} {F : Nat → Prop} {ml : List OneR} {A : Option Addr} {k s b h l e N hs r : Int}
set_option maxHeartbeats 1600000 in
theorem rcheck_w (x : Int) (hmx : getL ml (1, 0, 0) = x) (hx : InU x) (hml : ml.length ≤ 1000000) (i j : Nat) (hE : Env w0 L w) (hi : L[i]? = some (boxI u (urv k s b h l e A n c N hs r))) (hj : L[j]? = some (refI m F ml)) :
    Calls Tryz.prog 94 #[.pointer (some ⟨u, 0, none⟩), .pointer (some ⟨m, 0, none⟩)] w fun o w' => o = .returned (.tuple #[]) ∧ Env w0 (L.set i (boxI u (urv k s b h l (epI x) A n c N hs r))) w' := by
  have hil : i < L.length := (List.getElem?_eq_some_iff.1 hi).1
  unfold InU at hx
  have hq : (x ≤ 9223372036854775807 ∧ epI x = x ∧ decide (x < 9223372036854775808) = true) ∨ (9223372036854775807 < x ∧ epI x = 0 ∧ decide (x < 9223372036854775808) = false) := by
    unfold epI
    by_cases h : x ≤ 9223372036854775807
    · left; refine ⟨h, by rw [if_pos h], by simp; omega⟩
    · right; refine ⟨by omega, by rw [if_neg h], by simp; omega⟩
  generalize epI x = y at *
  have HQ := Lib.hid hq
  have HX := Lib.hid hx
  clear hq hx
  go_enter Tryz.func94, Tryz.ntmps94
  go_wp2_with fail
  refine (epoch13_any _).mono ?_
  rintro o w1 ⟨rfl, hb⟩
  replace hE := hE.over hb
  clear hb
  go_wp2_with fail
  refine (refGet_any 1 0 0 hml (hE.ref j hj)).mono ?_
  rintro o w2 ⟨rfl, hb⟩
  rw [hmx]
  replace hE := hE.over hb
  clear hb
  have rc := hE.rule i hi
  have ff := hE.thaw i hi
  have f5 := ff 5 (by simp [urv])
  clear ff
  unfold urv at rc
  rcases HQ.out with ⟨q0, q1, q2⟩ | ⟨q0, q1, q2⟩
  · have hw : wrap64 x = x := w64 _ (by have := HX.out; omega)
    subst q1
    clear HQ HX
    go_wp2_with fail
    go_end0
    have hE1 := hE.put i hi (j := 5) (by simp [urv]) (.int .i64 0)
    have hE2 := hE1.put i (by rw [List.getElem?_set_self hil]) (j := 5) (by simp [urv]) (.int .i64 y)
    rw [List.set_set] at hE2
    exact ⟨rfl, hE2⟩
  · subst q1
    clear HQ HX
    go_wp2_with fail
    go_end0
    exact ⟨rfl, hE.put i hi (j := 5) (by simp [urv]) (.int .i64 0)⟩

end
end Go.Proofs.YtdknbegcflldjaaGreatDoor

/- The reference's thread: contracts. -/
namespace Go.Proofs.YtdknbegcflldjaaGreatDoor
open Go.RowKit Go.Maps
set_option maxRecDepth 100000

section
variable {w0 w : World} {L : List Item} {u m n c : Nat} {F : Nat → Prop} {ml : List OneR} {A : Option Addr} {k s b h l e N hs r : Int}
end

section
variable {w : World} {u n c : Nat} {A : Option Addr} {k s b h l e N hs r : Int}
set_option maxHeartbeats 800000 in
theorem rdropNo_c (hh : hs ≤ 0) (hb : Blk 0 w u (urv k s b h l e A n c N hs r)) :
    Calls Tryz.prog 148 #[.pointer (some ⟨u, 0, none⟩)] w fun o w' => o = .returned (.tuple #[]) ∧ w' = w := by
  have r1 := hb.rule
  unfold urv at r1
  have hd : decide (0 < hs) = false := by simpa using hh
  clear hb hh
  go_enter Tryz.func148, Tryz.ntmps148
  go_wp2
  go_end0
  exact ⟨rfl, rfl⟩
end
section
variable {w0 w : World} {L : List Item} {u c : Nat} {A : Option Addr} {lr : List Trip} {k s b h l e N hs r : Int}
set_option maxHeartbeats 1600000 in
theorem rdropYes_c (hh : 0 < hs) (i : Nat) (hl : lr.length ≤ 1000000) (hN : 0 ≤ N ∧ N ≤ 1099511627776) (hE : Env w0 L w) (hi : L[i]? = some (boxI u (urv k s b h l e A lr.length c N hs r))) (hr : L[i + 1]? = some (rrI A c lr)) :
    Calls Tryz.prog 148 #[.pointer (some ⟨u, 0, none⟩)] w fun o w' => o = .returned (.tuple #[]) ∧ ∃ A' c', Env w0 ((L.set i (boxI u (urv k s b h l e A' (lr.length + 1) c' (roomN (room0 N) (lr.length + 1)) 0 r))).set (i + 1) (rrI A' c' (lr ++ [(hs, 0, 0)]))) w' := by
  have hil : i < L.length := (List.getElem?_eq_some_iff.1 hi).1
  have hd : decide (0 < hs) = true := by simpa using hh
  have HCB : Hid (∀ v, Env w0 L v → ∀ z, v.cell? ⟨u, z, none⟩ = (urv k s b h l e A lr.length c N hs r)[z]?) := Lib.hid fun v hv => hv.rule i hi
  unfold urv at HCB
  have HPU : Hid (∀ v, Env w0 L v → Calls Tryz.prog 151 #[.pointer (some ⟨u, 6, none⟩), .agg #[.int .i64 hs, .int .i64 0, .int .i64 0]] v fun o w' => o = .returned (.tuple #[]) ∧ ∃ A' c', Env w0 ((L.set i (boxI u (urv k s b h l e A' (lr.length + 1) c' (roomN (room0 N) (lr.length + 1)) hs r))).set (i + 1) (rrI A' c' (lr ++ [(hs, 0, 0)]))) w') := Lib.hid fun v hv =>
    refPush_at (vs := urv k s b h l e A lr.length c N hs r) hs 0 0 6 i hv hi rfl rfl hr hl hN
  clear hh
  generalize roomN (room0 N) (lr.length + 1) = N1 at *
  go_enter Tryz.func148, Tryz.ntmps148
  have r0 := HCB.out _ hE
  go_upto_region 1 with fail
  clear r0
  refine Ord.wp_chain [8] (fun w' => w'.cell? ⟨u, 8, none⟩ = some (.int .i64 hs)) (Stage [Env w0 L, fun w' => ∃ A' c', Env w0 ((L.set i (boxI u (urv k s b h l e A' (lr.length + 1) c' N1 hs r))).set (i + 1) (rrI A' c' (lr ++ [(hs, 0, 0)]))) w']) (by kernel_rfl) (by kernel_rfl) (by kernel_rfl) (HCB.out _ hE.drew 8) ⟨_, rfl, hE.drew⟩ (fun hT => ?_)
  have hT9 := Lib.hid hT
  clear hT
  repeat (first
    | (refine Ord.ch_value (v := ?_) hT9.out (by decide) (by rfl) ?_ ?_; rotate_left; (focus (intro w5 hS; skip; go_simp <;> with_reducible rfl)); (try simp only [Act.put, List.setIfInBounds_toArray, List.set_cons_zero, List.set_cons_succ]))
    | (refine Ord.ch_off hT9.out (by decide) (by rfl) ?_; (try simp only [Act.put, List.setIfInBounds_toArray, List.set_cons_zero, List.set_cons_succ])))
  refine Ord.ch_turn (v := .tuple #[]) 0 hT9.out rfl (by decide) (Or.inl rfl) (by rfl) ?_ ?_
  · rintro w5 hC5 ⟨P5, hP5, hA5⟩
    cases hP5
    go_simp
    simp only [Ord.LandsIn]
    refine (HPU.out _ hA5).mono ?_
    rintro o w6 ⟨rfl, A6, c6, hE6⟩
    have hc6 := hE6.rule i (wset (b := rrI A6 c6 (lr ++ [(hs, 0, 0)])) (by omega) (by rw [List.getElem?_set_self hil])) 8
    exact ⟨rfl, hc6, _, rfl, A6, c6, hE6⟩
  (try simp only [Act.put, List.setIfInBounds_toArray, List.set_cons_zero, List.set_cons_succ])
  refine Ord.InText.nil fun w5 hS => ?_
  clear hT9
  obtain ⟨hC9, hA9⟩ := Ord.chain_end hS
  clear hS
  obtain ⟨P9, hP9, hA9⟩ := hA9
  cases hP9
  obtain ⟨A9, c9, hE9⟩ := hA9
  have hi9 : ((L.set i (boxI u (urv k s b h l e A9 (lr.length + 1) c9 N1 hs r))).set (i + 1) (rrI A9 c9 (lr ++ [(hs, 0, 0)])))[i]? = some (boxI u (urv k s b h l e A9 (lr.length + 1) c9 N1 hs r)) := wset (by omega) (by rw [List.getElem?_set_self hil])
  have rc := hE9.rule i hi9
  unfold urv at rc
  have ff := hE9.thaw i hi9
  have f8 := ff 8 (by simp [urv])
  clear ff hE hC9
  go_wp2_with fail
  go_end0
  have hE10 := hE9.put i hi9 (j := 8) (by simp [urv]) (.int .i64 0)
  rw [List.set_comm _ _ (by omega), List.set_set] at hE10
  exact ⟨rfl, A9, c9, hE10⟩
end
end Go.Proofs.YtdknbegcflldjaaGreatDoor

/- The reference's queue: the contracts of Pop, Find. -/
namespace Go.Proofs.YtdknbegcflldjaaGreatDoor
open Go.RowKit Go.Maps
set_option maxRecDepth 100000

theorem Row3.tail {w : World} {b off : Nat} {x : Trip} {t : List Trip} (h : Row3 w (some ⟨b, off, none⟩) (x :: t)) : Row3 w (some ⟨b, off + 3, none⟩) t := by
  rcases h with h | ⟨b', off', he, hl, hc⟩
  · cases h
  · cases he
    refine .inr ⟨b, off + 3, rfl, hl, fun i hi => ?_⟩
    have := hc (i + 1) (by simp; omega)
    rw [show off + (i + 1) * 3 = off + 3 + i * 3 by omega] at this
    simpa using this

set_option maxHeartbeats 1600000 in
theorem refPop_any {w0 w : World} {L : List Item} {u c : Nat} {A : Option Addr} {t : List Trip} {N : Int} (x y z : Int) (i : Nat) (hE : Env w0 L w) (hu : L[i]? = some (rqI u A (t.length + 1) c N)) (hr : L[i + 1]? = some (rrI A c ((x, y, z) :: t))) (hl : t.length ≤ 1000000) :
    Calls Tryz.prog 103 #[.pointer (some ⟨u, 0, none⟩)] w fun e w' => e = .returned (.tuple #[tv (x, y, z), .bool true]) ∧ ∃ A' c', Env w0 ((L.set i (rqI u A' t.length c' N)).set (i + 1) (rrI A' c' t)) w' := by
  have hil : i < L.length := (List.getElem?_eq_some_iff.1 hu).1
  have hcap : t.length + 1 ≤ c := by
    rcases (hE.row3 (i + 1) hr).2 with ⟨_, h0⟩ | ⟨g, cap', cur, hv, _, hg, hn, hc, hcs, htk⟩
    · simp at h0
    · simp only [Value.slice.injEq, List.length_cons] at hv
      obtain ⟨_, _, rfl⟩ := hv
      simpa using hn
  obtain ⟨b, off, rfl⟩ : ∃ b off, A = some ⟨b, off, none⟩ := by
    rcases hE.cells3 (i + 1) rfl hr with h | ⟨b, off, h, _⟩
    · cases h
    · exact ⟨b, off, h⟩
  have hcell : ∀ w' M j, Env w0 M w' → M[j]? = some (rrI (some ⟨b, off, none⟩) c ((x, y, z) :: t)) → w'.cell? ⟨b, off, none⟩ = some (.int .i64 x) ∧ w'.cell? ⟨b, off + 1, none⟩ = some (.int .i64 y) ∧ w'.cell? ⟨b, off + 2, none⟩ = some (.int .i64 z) := fun w' M j h hj => by
    rcases h.cells3 j rfl hj with h0 | ⟨b', off', he, _, hc⟩
    · cases h0
    · cases he
      have := at3 (hc 0 (by simp))
      simpa using this
  have hE1 := hE.box w.heap.size rfl [.int .i64 0, .int .i64 0, .int .i64 0] 159
  have r := hE1.rule (i + 1) hu
  obtain ⟨c0, c1, c2⟩ := hcell _ _ (i + 2) hE1 hr
  have hn0 : ((t.length : Int) + 1 == 0) = false := by rw [beq_eq_false_iff_ne]; omega
  clear hE
  go_enter Tryz.func103, Tryz.ntmps103
  go_upto_region 4 with fail
  clear c0 c1 c2 r
  have hE2 := hE1.box (w.heap.size + 1) (by simp) [.int .i64 x, .int .i64 y, .int .i64 z] 159
  have hE3 := hE2.addEmpty3 (w.heap.size + 2) (by simp) 159
  have r2 := hE2.rule (i + 2) hu
  have r3 := hE3.rule (i + 3) hu
  have htail := (hE3.cells3 (i + 1 + 3) rfl hr).tail
  by_cases hc1 : c = 1
  · subst hc1
    obtain rfl : t = [] := List.eq_nil_of_length_eq_zero (by omega)
    obtain ⟨A9, c9, w9, hrun, hE9⟩ := hE3.append3' (A := some ⟨b, off, none⟩) (xs := []) 0 rfl 107 107 Tryz.underlying107 infoRef 0 rfl (.inl rfl) (by simp)
    have HRUN := Lib.hid hrun
    have hE9' : Env w0 (row3I (.slice A9 ([] : List Trip).length c9) 159 [] :: boxI (w.heap.size + 1) [.int .i64 x, .int .i64 y, .int .i64 z] :: boxI w.heap.size [.int .i64 0, .int .i64 0, .int .i64 0] :: L) w9 := hE9
    clear hE1 hE2 hE3 hrun hE9 hcell htail
    have r9 := hE9'.rule (i + 3) hu
    have f9 := hE9'.thaw (i + 3) hu 0 (by simp)
    have q1 := hE9'.rule 1 rfl
    have q2 := hE9'.rule 2 rfl
    have g0 := hE9'.thaw 2 rfl 0 (by simp)
    have g1 := hE9'.thaw 2 rfl 1 (by simp)
    have g2 := hE9'.thaw 2 rfl 2 (by simp)
    have hlt1 := hE9'.boxLt 1 rfl
    have hlt2 := hE9'.boxLt 2 rfl
    have hne1 : u ≠ w.heap.size + 1 := fun e => (hE9'.off (i := i + 3) (j := 1) hu rfl (by omega)) u rfl e
    have hne2 : u ≠ w.heap.size := fun e => (hE9'.off (i := i + 3) (j := 2) hu rfl (by omega)) u rfl e
    have hne3 : w.heap.size ≠ u := fun e => hne2 e.symm
    go_wp2_with (first | (at_builtin; refine wpList_append_run rfl _ _ 107 rfl HRUN.out rfl rfl ?_))
    have hE10 := hE9'.put (i + 3) hu (j := 0) (by simp) (.slice A9 0 c9)
    simp only [List.set_cons_succ, List.set_cons_zero] at hE10
    have hE11 := ((hE10.put 2 rfl (j := 0) (by simp) (.int .i64 x)).put 2 rfl (j := 1) (by simp) (.int .i64 y)).put 2 rfl (j := 2) (by simp) (.int .i64 z)
    have q9 := hE11.rule 2 rfl
    refine bodyPost_ret (v := .tuple #[tv (x, y, z), .bool true]) (by simp [results, Tryz.results103, go_sem, q9, tv]) rfl ⟨rfl, A9, c9, ?_⟩
    have hE12 := hE11.sub (L' := row3I (.slice A9 ([] : List Trip).length c9) 159 [] :: L.set i (rqI u A9 ([] : List Trip).length c9 N)) (.cons_cons _ (.cons _ (.cons _ (List.Sublist.refl _))))
    exact hE12.into (i + 1)
  · have hc2 : (c - 1 = 0) = False := by simp; omega
    obtain ⟨A9, c9, w9, hrun, hE9⟩ := hE3.append3' 0 rfl 107 107 Tryz.underlying107 infoRef (c - 1) rfl htail (by simp; omega)
    have HRUN := Lib.hid hrun
    have hE9' : Env w0 (row3I (.slice A9 (t : List Trip).length c9) 159 t :: boxI (w.heap.size + 1) [.int .i64 x, .int .i64 y, .int .i64 z] :: boxI w.heap.size [.int .i64 0, .int .i64 0, .int .i64 0] :: L) w9 := hE9
    clear hE1 hE2 hE3 hrun hE9 hcell htail
    have r9 := hE9'.rule (i + 3) hu
    have f9 := hE9'.thaw (i + 3) hu 0 (by simp)
    have q1 := hE9'.rule 1 rfl
    have q2 := hE9'.rule 2 rfl
    have g0 := hE9'.thaw 2 rfl 0 (by simp)
    have g1 := hE9'.thaw 2 rfl 1 (by simp)
    have g2 := hE9'.thaw 2 rfl 2 (by simp)
    have hlt1 := hE9'.boxLt 1 rfl
    have hlt2 := hE9'.boxLt 2 rfl
    have hne1 : u ≠ w.heap.size + 1 := fun e => (hE9'.off (i := i + 3) (j := 1) hu rfl (by omega)) u rfl e
    have hne2 : u ≠ w.heap.size := fun e => (hE9'.off (i := i + 3) (j := 2) hu rfl (by omega)) u rfl e
    have hne3 : w.heap.size ≠ u := fun e => hne2 e.symm
    go_wp2_with (first | (at_builtin; refine wpList_append_run rfl _ _ 107 rfl HRUN.out rfl rfl ?_))
    have hE10 := hE9'.put (i + 3) hu (j := 0) (by simp) (.slice A9 t.length c9)
    simp only [List.set_cons_succ, List.set_cons_zero] at hE10
    have hE11 := ((hE10.put 2 rfl (j := 0) (by simp) (.int .i64 x)).put 2 rfl (j := 1) (by simp) (.int .i64 y)).put 2 rfl (j := 2) (by simp) (.int .i64 z)
    have q9 := hE11.rule 2 rfl
    refine bodyPost_ret (v := .tuple #[tv (x, y, z), .bool true]) (by simp [results, Tryz.results103, go_sem, q9, tv]) rfl ⟨rfl, A9, c9, ?_⟩
    have hE12 := hE11.sub (L' := row3I (.slice A9 (t : List Trip).length c9) 159 t :: L.set i (rqI u A9 (t : List Trip).length c9 N)) (.cons_cons _ (.cons _ (.cons _ (List.Sublist.refl _))))
    exact hE12.into (i + 1)

theorem refPopNone_any {w0 w : World} {L : List Item} {u c : Nat} {A : Option Addr} {N : Int} (i : Nat) (hE : Env w0 L w) (hu : L[i]? = some (rqI u A 0 c N)) :
    Calls Tryz.prog 103 #[.pointer (some ⟨u, 0, none⟩)] w fun e w' => e = .returned (.tuple #[tv t0, .bool false]) ∧ Env w0 L w' := by
  have hE1 := hE.box w.heap.size rfl [.int .i64 0, .int .i64 0, .int .i64 0] 159
  have r := hE1.rule (i + 1) hu
  have g := hE1.rule 0 rfl
  have g0 := hE1.thaw 0 rfl 0 (by simp)
  have g1 := hE1.thaw 0 rfl 1 (by simp)
  have g2 := hE1.thaw 0 rfl 2 (by simp)
  clear hE
  have HE := Lib.hid hE1
  clear hE1
  go_enter Tryz.func103, Tryz.ntmps103
  go_wp2_with fail
  exact bodyPost_ret (v := .tuple #[tv t0, .bool false]) (by simp [results, Tryz.results103, go_sem, g, tv, t0]) rfl ⟨rfl, HE.out.sub (.cons _ (List.Sublist.refl _))⟩

end Go.Proofs.YtdknbegcflldjaaGreatDoor

/- The reference's queue: Pop at any place of a block. -/
namespace Go.Proofs.YtdknbegcflldjaaGreatDoor
open Go.RowKit Go.Maps
set_option maxRecDepth 100000

set_option maxHeartbeats 1600000 in
theorem refPop_at {w0 w : World} {L : List Item} {u c : Nat} {A : Option Addr} {t : List Trip} {vs : List Value} (x y z : Int) (o i : Nat) (hE : Env w0 L w) (hu : L[i]? = some (boxI u vs)) (hvo : vs[o]? = some (.slice A (t.length + 1) c)) (hr : L[i + 1]? = some (rrI A c ((x, y, z) :: t))) (hl : t.length ≤ 1000000) :
    Calls Tryz.prog 103 #[.pointer (some ⟨u, o, none⟩)] w fun e w' => e = .returned (.tuple #[tv (x, y, z), .bool true]) ∧ ∃ A' c', Env w0 ((L.set i (boxI u (vs.set o (.slice A' t.length c')))).set (i + 1) (rrI A' c' t)) w' := by
  have hil : i < L.length := (List.getElem?_eq_some_iff.1 hu).1
  have hol : o < vs.length := (List.getElem?_eq_some_iff.1 hvo).1
  have hcap : t.length + 1 ≤ c := by
    rcases (hE.row3 (i + 1) hr).2 with ⟨_, h0⟩ | ⟨g, cap', cur, hv, _, hg, hn, hc, hcs, htk⟩
    · simp at h0
    · simp only [Value.slice.injEq, List.length_cons] at hv
      obtain ⟨_, _, rfl⟩ := hv
      simpa using hn
  obtain ⟨b, off, rfl⟩ : ∃ b off, A = some ⟨b, off, none⟩ := by
    rcases hE.cells3 (i + 1) rfl hr with h | ⟨b, off, h, _⟩
    · cases h
    · exact ⟨b, off, h⟩
  have hcell : ∀ w' M j, Env w0 M w' → M[j]? = some (rrI (some ⟨b, off, none⟩) c ((x, y, z) :: t)) → w'.cell? ⟨b, off, none⟩ = some (.int .i64 x) ∧ w'.cell? ⟨b, off + 1, none⟩ = some (.int .i64 y) ∧ w'.cell? ⟨b, off + 2, none⟩ = some (.int .i64 z) := fun w' M j h hj => by
    rcases h.cells3 j rfl hj with h0 | ⟨b', off', he, _, hc⟩
    · cases h0
    · cases he
      have := at3 (hc 0 (by simp))
      simpa using this
  have hE1 := hE.box w.heap.size rfl [.int .i64 0, .int .i64 0, .int .i64 0] 159
  have r := (hE1.rule (i + 1) hu o).trans hvo
  obtain ⟨c0, c1, c2⟩ := hcell _ _ (i + 2) hE1 hr
  have hn0 : ((t.length : Int) + 1 == 0) = false := by rw [beq_eq_false_iff_ne]; omega
  clear hE
  go_enter Tryz.func103, Tryz.ntmps103
  go_upto_region 4 with fail
  clear c0 c1 c2 r
  have hE2 := hE1.box (w.heap.size + 1) (by simp) [.int .i64 x, .int .i64 y, .int .i64 z] 159
  have hE3 := hE2.addEmpty3 (w.heap.size + 2) (by simp) 159
  have r2 := (hE2.rule (i + 2) hu o).trans hvo
  have r3 := (hE3.rule (i + 3) hu o).trans hvo
  have htail := (hE3.cells3 (i + 1 + 3) rfl hr).tail
  by_cases hc1 : c = 1
  · subst hc1
    obtain rfl : t = [] := List.eq_nil_of_length_eq_zero (by omega)
    obtain ⟨A9, c9, w9, hrun, hE9⟩ := hE3.append3' (A := some ⟨b, off, none⟩) (xs := []) 0 rfl 107 107 Tryz.underlying107 infoRef 0 rfl (.inl rfl) (by simp)
    have HRUN := Lib.hid hrun
    have hE9' : Env w0 (row3I (.slice A9 ([] : List Trip).length c9) 159 [] :: boxI (w.heap.size + 1) [.int .i64 x, .int .i64 y, .int .i64 z] :: boxI w.heap.size [.int .i64 0, .int .i64 0, .int .i64 0] :: L) w9 := hE9
    clear hE1 hE2 hE3 hrun hE9 hcell htail
    have r9 := (hE9'.rule (i + 3) hu o).trans hvo
    have f9 := hE9'.thaw (i + 3) hu o hol
    have q1 := hE9'.rule 1 rfl
    have q2 := hE9'.rule 2 rfl
    have g0 := hE9'.thaw 2 rfl 0 (by simp)
    have g1 := hE9'.thaw 2 rfl 1 (by simp)
    have g2 := hE9'.thaw 2 rfl 2 (by simp)
    have hlt1 := hE9'.boxLt 1 rfl
    have hlt2 := hE9'.boxLt 2 rfl
    have hne1 : u ≠ w.heap.size + 1 := fun e => (hE9'.off (i := i + 3) (j := 1) hu rfl (by omega)) u rfl e
    have hne2 : u ≠ w.heap.size := fun e => (hE9'.off (i := i + 3) (j := 2) hu rfl (by omega)) u rfl e
    have hne3 : w.heap.size ≠ u := fun e => hne2 e.symm
    go_wp2_with (first | (at_builtin; refine wpList_append_run rfl _ _ 107 rfl HRUN.out rfl rfl ?_))
    have hE10 := hE9'.put (i + 3) hu (j := o) hol (.slice A9 0 c9)
    simp only [List.set_cons_succ, List.set_cons_zero] at hE10
    have hE11 := ((hE10.put 2 rfl (j := 0) (by simp) (.int .i64 x)).put 2 rfl (j := 1) (by simp) (.int .i64 y)).put 2 rfl (j := 2) (by simp) (.int .i64 z)
    have q9 := hE11.rule 2 rfl
    refine bodyPost_ret (v := .tuple #[tv (x, y, z), .bool true]) (by simp [results, Tryz.results103, go_sem, q9, tv]) rfl ⟨rfl, A9, c9, ?_⟩
    have hE12 := hE11.sub (L' := row3I (.slice A9 ([] : List Trip).length c9) 159 [] :: L.set i (boxI u (vs.set o (.slice A9 ([] : List Trip).length c9)))) (.cons_cons _ (.cons _ (.cons _ (List.Sublist.refl _))))
    exact hE12.into (i + 1)
  · have hc2 : (c - 1 = 0) = False := by simp; omega
    obtain ⟨A9, c9, w9, hrun, hE9⟩ := hE3.append3' 0 rfl 107 107 Tryz.underlying107 infoRef (c - 1) rfl htail (by simp; omega)
    have HRUN := Lib.hid hrun
    have hE9' : Env w0 (row3I (.slice A9 (t : List Trip).length c9) 159 t :: boxI (w.heap.size + 1) [.int .i64 x, .int .i64 y, .int .i64 z] :: boxI w.heap.size [.int .i64 0, .int .i64 0, .int .i64 0] :: L) w9 := hE9
    clear hE1 hE2 hE3 hrun hE9 hcell htail
    have r9 := (hE9'.rule (i + 3) hu o).trans hvo
    have f9 := hE9'.thaw (i + 3) hu o hol
    have q1 := hE9'.rule 1 rfl
    have q2 := hE9'.rule 2 rfl
    have g0 := hE9'.thaw 2 rfl 0 (by simp)
    have g1 := hE9'.thaw 2 rfl 1 (by simp)
    have g2 := hE9'.thaw 2 rfl 2 (by simp)
    have hlt1 := hE9'.boxLt 1 rfl
    have hlt2 := hE9'.boxLt 2 rfl
    have hne1 : u ≠ w.heap.size + 1 := fun e => (hE9'.off (i := i + 3) (j := 1) hu rfl (by omega)) u rfl e
    have hne2 : u ≠ w.heap.size := fun e => (hE9'.off (i := i + 3) (j := 2) hu rfl (by omega)) u rfl e
    have hne3 : w.heap.size ≠ u := fun e => hne2 e.symm
    go_wp2_with (first | (at_builtin; refine wpList_append_run rfl _ _ 107 rfl HRUN.out rfl rfl ?_))
    have hE10 := hE9'.put (i + 3) hu (j := o) hol (.slice A9 t.length c9)
    simp only [List.set_cons_succ, List.set_cons_zero] at hE10
    have hE11 := ((hE10.put 2 rfl (j := 0) (by simp) (.int .i64 x)).put 2 rfl (j := 1) (by simp) (.int .i64 y)).put 2 rfl (j := 2) (by simp) (.int .i64 z)
    have q9 := hE11.rule 2 rfl
    refine bodyPost_ret (v := .tuple #[tv (x, y, z), .bool true]) (by simp [results, Tryz.results103, go_sem, q9, tv]) rfl ⟨rfl, A9, c9, ?_⟩
    have hE12 := hE11.sub (L' := row3I (.slice A9 (t : List Trip).length c9) 159 t :: L.set i (boxI u (vs.set o (.slice A9 (t : List Trip).length c9)))) (.cons_cons _ (.cons _ (.cons _ (List.Sublist.refl _))))
    exact hE12.into (i + 1)
end Go.Proofs.YtdknbegcflldjaaGreatDoor

/- The reference's Cell, Slot. -/
namespace Go.Proofs.YtdknbegcflldjaaGreatDoor
open Go.RowKit Go.Maps
set_option maxRecDepth 100000

set_option maxHeartbeats 400000 in
theorem cell13_any (y z : Int) (w : World) : Calls Tryz.prog 98 #[.int .i64 y, .int .i64 z] w fun e w' => e = .returned (.agg #[.int .i64 5, .int .i64 y, .int .i64 z]) ∧ Below w.heap.size w w' := by
  go_enter Tryz.func98, Tryz.ntmps98
  go_wp2
  exact bodyPost_ret (v := .agg #[.int .i64 5, .int .i64 y, .int .i64 z]) (by simp [results, Tryz.results98, go_sem]) rfl ⟨rfl, (Below.refl _ _).alloc (Nat.le_refl _) _⟩
end Go.Proofs.YtdknbegcflldjaaGreatDoor

/- The reference's Cell, Slot. -/
namespace Go.Proofs.YtdknbegcflldjaaGreatDoor
open Go.RowKit Go.Maps
set_option maxRecDepth 100000

theorem rslot_of (v : World) (m : Bool) (s b : Int) : (Instr.field 199 (.agg #[.bool m, .int .i64 s, .int .i64 b]) 1).run Tryz.prog v = .ok (.int .i64 s) v := by kernel_rfl
theorem slot13_any (x : Int) (hx : InU x) (w : World) : Calls Tryz.prog 100 #[.int .u64 x] w fun e w' => e = .returned (.int .i64 (slotI x)) ∧ Below w.heap.size w w' := by
  have h := rslot_of
  have hr := refOf_any x w hx.1 hx.2
  obtain ⟨s, hs⟩ : ∃ s, slotI x = s := ⟨_, rfl⟩
  rw [hs] at hr ⊢
  have HR := Lib.hid hr
  clear hx hr hs
  go_enter Tryz.func100, Tryz.ntmps100
  go_wp2_with fail
  refine HR.out.mono ?_
  rintro e w1 ⟨rfl, hb⟩
  go_wp2_with fail
  go_ret
  exact ⟨rfl, hb⟩
end Go.Proofs.YtdknbegcflldjaaGreatDoor

/- The reference's Allocs: its small functions; what it is in memory; how it decides. -/
namespace Go.Proofs.YtdknbegcflldjaaGreatDoor
open Go.RowKit Go.Maps
set_option maxRecDepth 100000

set_option maxHeartbeats 400000 in
theorem pool14_any (w : World) : Calls Tryz.prog 96 #[] w fun e w' => e = .returned (.agg #[.int .i64 2, .int .i64 0, .int .i64 0]) ∧ Below w.heap.size w w' := by
  go_enter Tryz.func96, Tryz.ntmps96
  go_wp2
  exact bodyPost_ret (v := .agg #[.int .i64 2, .int .i64 0, .int .i64 0]) (by simp [results, Tryz.results96, go_sem]) rfl ⟨rfl, (Below.refl _ _).alloc (Nat.le_refl _) _⟩
set_option maxHeartbeats 400000 in
theorem fresh14_any (w : World) : Calls Tryz.prog 150 #[] w fun e w' => e = .returned (.agg #[.int .i64 3, .int .i64 0, .int .i64 0]) ∧ Below w.heap.size w w' := by
  go_enter Tryz.func150, Tryz.ntmps150
  go_wp2
  exact bodyPost_ret (v := .agg #[.int .i64 3, .int .i64 0, .int .i64 0]) (by simp [results, Tryz.results150, go_sem]) rfl ⟨rfl, (Below.refl _ _).alloc (Nat.le_refl _) _⟩
theorem rver_of (v : World) (m : Bool) (s b : Int) : (Instr.field 199 (.agg #[.bool m, .int .i64 s, .int .i64 b]) 2).run Tryz.prog v = .ok (.int .i64 b) v := by kernel_rfl
theorem ver14_any (x : Int) (hx : InU x) (w : World) : Calls Tryz.prog 97 #[.int .u64 x] w fun e w' => e = .returned (.int .i64 (verI x)) ∧ Below w.heap.size w w' := by
  have h := rver_of
  have hr := refOf_any x w hx.1 hx.2
  obtain ⟨s, hs⟩ : ∃ s, verI x = s := ⟨_, rfl⟩
  rw [hs] at hr ⊢
  have HR := Lib.hid hr
  clear hx hr hs
  go_enter Tryz.func97, Tryz.ntmps97
  go_wp2_with fail
  refine HR.out.mono ?_
  rintro e w1 ⟨rfl, hb⟩
  go_wp2_with fail
  go_ret
  exact ⟨rfl, hb⟩
theorem behind14_any (x s : Int) (hx : InU x) (w : World) : Calls Tryz.prog 102 #[.int .u64 x, .int .i64 s] w fun e w' => e = .returned (.int .u64 (wordI false s (verI x + 1))) ∧ Below w.heap.size w w' := by
  have hv := verI_in x
  have hw : wrap64 (verI x + 1) = verI x + 1 := w64 _ (by omega)
  have HR := Lib.hid (fun (v : World) => ver14_any x hx v)
  have hwd := fun (v : World) => refWord_any false s (verI x + 1) v
  have hr := fun (v : World) => ver14_any x hx v
  clear HR hv hx
  obtain ⟨y, hy⟩ : ∃ y, verI x = y := ⟨_, rfl⟩
  simp only [hy] at hr hwd hw ⊢
  obtain ⟨z, hz⟩ : ∃ z, wordI false s (y + 1) = z := ⟨_, rfl⟩
  simp only [hz] at hwd ⊢
  have HR := Lib.hid hr
  have HWD := Lib.hid hwd
  clear hr hwd hy hz
  go_enter Tryz.func102, Tryz.ntmps102
  go_wp2_with fail
  refine (HR.out _).mono ?_
  rintro e w1 ⟨rfl, hb⟩
  go_wp2_with fail
  refine (HWD.out _).mono ?_
  rintro e w2 ⟨rfl, hb2⟩
  go_wp2_with fail
  go_ret
  exact ⟨rfl, hb.trans (hb2.mono hb.size)⟩
/-- The reference's things: a thread's, its own slots' row, its memory. -/
structure SU where
  (u m : Nat)
  (ck cs cb ch cl ce hs ro N : Int)
  (A : Option Addr)
  (c : Nat)
  (ql : List Trip)
  (F : Nat → Prop)
  (ml : List OneR)
def LU (U : SU) (R : List Item) : List Item := boxI U.u (urv U.ck U.cs U.cb U.ch U.cl U.ce U.A U.ql.length U.c U.N U.hs U.ro) :: rrI U.A U.c U.ql :: refI U.m U.F U.ml :: R
/-- The reference's Alloc. -/
def rav (pc h n r : Int) : List Value := [.int .i64 pc, .int .u64 h, .int .u64 n, .int .u64 r]

section
variable {w0 w : World} {R : List Item} {b : Nat} {U : SU} {pc h n r : Int}
/-- The first of a row that is not empty. -/
theorem first_row {L : List Item} {A : Option Addr} {c : Nat} {x y z : Int} {t : List Trip} (i : Nat) (hi : L[i]? = some (rrI A c ((x, y, z) :: t))) (hE : Env w0 L w) : ∃ g off, A = some ⟨g, off, none⟩ ∧ ∀ v, Env w0 L v → v.cell? ⟨g, off, none⟩ = some (.int .i64 x) ∧ v.cell? ⟨g, off + 1, none⟩ = some (.int .i64 y) ∧ v.cell? ⟨g, off + 2, none⟩ = some (.int .i64 z) := by
  obtain ⟨g, off, rfl⟩ : ∃ b off, A = some ⟨b, off, none⟩ := by
    rcases hE.cells3 i rfl hi with h | ⟨b, off, h, _⟩
    · cases h
    · exact ⟨b, off, h⟩
  refine ⟨g, off, rfl, fun v hv => ?_⟩
  rcases hv.cells3 i rfl hi with h0 | ⟨b', off', he, _, hc⟩
  · cases h0
  · cases he
    have := at3 (hc 0 (by simp))
    simpa using this
set_option maxHeartbeats 1600000 in
theorem rdecide_a (hE : Env w0 (boxI b (rav pc h n r) :: LU U R) w) :
    Calls Tryz.prog 152 #[.pointer (some ⟨b, 0, none⟩), .pointer (some ⟨U.u, 0, none⟩)] w fun o w' => o = .returned (.int .i64 (decS U.ql U.ce U.cl)) ∧ ∃ pc' : Int, (decP U.ql U.ce U.cl ≠ 0 → pc' = ((decP U.ql U.ce U.cl : Nat) : Int)) ∧ Env w0 (boxI b (rav pc' h n r) :: LU U R) w' := by
  have rb := hE.rule 0 rfl
  have ru := hE.rule 1 rfl
  have f0 := hE.thaw 0 rfl 0 (by simp [rav])
  unfold rav at rb
  unfold urv at ru
  have hP := fun v => hE.put 0 rfl (j := 0) (by simp [rav]) v
  rcases hq : U.ql with _ | ⟨⟨x, y, z⟩, t⟩
  · simp only [hq, List.length_nil] at ru
    have HQ := Lib.hid hq
    clear hq
    go_enter Tryz.func152, Tryz.ntmps152
    go_wp2_with fail
    go_ret
    exact ⟨rfl, 2, fun _ => rfl, hP _⟩
  · have hr : (boxI b (rav pc h n r) :: LU U R)[2]? = some (rrI U.A U.c ((x, y, z) :: t)) := by rw [← hq]; rfl
    obtain ⟨g, off, hA, hc⟩ := first_row 2 hr hE
    simp only [hq, hA] at ru
    have hru : ∀ v, Env w0 (boxI b (rav pc h n r) :: LU U R) v → ∀ j, v.cell? ⟨U.u, j, none⟩ = [.int .i64 U.ck, .int .i64 U.cs, .int .i64 U.cb, .int .i64 U.ch, .int .i64 U.cl, .int .i64 U.ce, .slice (some ⟨g, off, none⟩) ((x, y, z) :: t).length U.c, .int .i64 U.N, .int .i64 U.hs, .int .i64 U.ro][j]? := fun v hv j => by
      have := hv.rule 1 rfl j
      unfold urv at this
      simp only [hq, hA] at this
      exact this
    have hlt : decide ((0 : Int) < ((((x, y, z) :: t).length : Nat) : Int)) = true := by simp
    have hln : 0 < ((x, y, z) :: t).length := by simp
    have hne : (((x, y, z) :: t).length = 0) = False := by simp
    have hle : ((((x, y, z) :: t).length : Int) == 0) = false := by simp; omega
    generalize ((x, y, z) :: t).length = N at *
    have HC := Lib.hid hc
    have HRU := Lib.hid hru
    have HQ := Lib.hid hq
    clear hc hru hq hr hA
    by_cases hy : y < U.ce
    · have HPP : Hid (decP ((x, y, z) :: t) U.ce U.cl = 10) := Lib.hid (by simp [decP, hy])
      have hyb : decide (y < U.ce) = true := by simpa using hy
      clear hy
      go_enter Tryz.func152, Tryz.ntmps152
      go_wp2_with fail
      refine wp_text (S := (Env w0 (boxI b (rav pc h n r) :: LU U R))) (by kernel_rfl) (by kernel_rfl) hE.drew (fun hT => ?_)
      have hT9 := Lib.hid hT
      clear hT
      repeat (first
        | (refine text_value (v := ?_) hT9.out (by rfl) ?_ ?_; rotate_left; (focus (intro w5 hS; have ru := HRU.out _ hS; obtain ⟨c0, c1, c2⟩ := HC.out _ hS; go_simp <;> with_reducible rfl)); (try simp only [Act.put, List.setIfInBounds_toArray, List.set_cons_zero, List.set_cons_succ]))
        | (refine text_off hT9.out (by rfl) ?_; (try simp only [Act.put, List.setIfInBounds_toArray, List.set_cons_zero, List.set_cons_succ]))
        | (refine text_call (v := ?_) (f := ?_) (args := ?_) hT9.out (by rfl) ?_ ?_ ?_; rotate_left 3; (focus (intro w5 hS; have ru := HRU.out _ hS; obtain ⟨c0, c1, c2⟩ := HC.out _ hS; go_simp; constructor <;> with_reducible rfl)); (focus (intro w5 hS; (first | fail))); (try simp only [Act.put, List.setIfInBounds_toArray, List.set_cons_zero, List.set_cons_succ])))
      refine InText.nil fun w5 hS5 => ?_
      clear hT9
      clear ru hE hP f0 rb
      have rb := hS5.rule 0 rfl
      unfold rav at rb
      have f0 := hS5.thaw 0 rfl 0 (by simp [rav])
      have hP := fun v => hS5.put 0 rfl (j := 0) (by simp [rav]) v
      go_wp2_with fail
      go_ret
      unfold decS
      rw [HPP.out]
      exact ⟨rfl, 10, fun _ => rfl, hP _⟩
    · have hyb : decide (y < U.ce) = false := by simpa using hy
      by_cases hl : U.cl ≤ U.ce
      · have HPP : Hid (decP ((x, y, z) :: t) U.ce U.cl = 0) := Lib.hid (by simp only [decP]; rw [if_neg hy, if_pos hl])
        have hlb : decide (U.cl ≤ U.ce) = true := by simpa using hl
        clear hy hl
        go_enter Tryz.func152, Tryz.ntmps152
        go_wp2_with fail
        refine wp_text (S := (Env w0 (boxI b (rav pc h n r) :: LU U R))) (by kernel_rfl) (by kernel_rfl) hE.drew (fun hT => ?_)
        have hT9 := Lib.hid hT
        clear hT
        repeat (first
          | (refine text_value (v := ?_) hT9.out (by rfl) ?_ ?_; rotate_left; (focus (intro w5 hS; have ru := HRU.out _ hS; obtain ⟨c0, c1, c2⟩ := HC.out _ hS; go_simp <;> with_reducible rfl)); (try simp only [Act.put, List.setIfInBounds_toArray, List.set_cons_zero, List.set_cons_succ]))
          | (refine text_off hT9.out (by rfl) ?_; (try simp only [Act.put, List.setIfInBounds_toArray, List.set_cons_zero, List.set_cons_succ]))
          | (refine text_call (v := ?_) (f := ?_) (args := ?_) hT9.out (by rfl) ?_ ?_ ?_; rotate_left 3; (focus (intro w5 hS; have ru := HRU.out _ hS; obtain ⟨c0, c1, c2⟩ := HC.out _ hS; go_simp; constructor <;> with_reducible rfl)); (focus (intro w5 hS; (first | fail))); (try simp only [Act.put, List.setIfInBounds_toArray, List.set_cons_zero, List.set_cons_succ])))
        refine InText.nil fun w5 hS5 => ?_
        clear hT9
        clear ru hE hP f0 rb
        go_wp2_with fail
        refine wp_text (S := (Env w0 (boxI b (rav pc h n r) :: LU U R))) (by kernel_rfl) (by kernel_rfl) hS5.drew (fun hT => ?_)
        have hT9 := Lib.hid hT
        clear hT
        repeat (first
          | (refine text_value (v := ?_) hT9.out (by rfl) ?_ ?_; rotate_left; (focus (intro w5 hS; have ru := HRU.out _ hS; go_simp <;> with_reducible rfl)); (try simp only [Act.put, List.setIfInBounds_toArray, List.set_cons_zero, List.set_cons_succ]))
          | (refine text_off hT9.out (by rfl) ?_; (try simp only [Act.put, List.setIfInBounds_toArray, List.set_cons_zero, List.set_cons_succ]))
          | (refine text_call (v := ?_) (f := ?_) (args := ?_) hT9.out (by rfl) ?_ ?_ ?_; rotate_left 3; (focus (intro w5 hS; have ru := HRU.out _ hS; go_simp; constructor <;> with_reducible rfl)); (focus (intro w5 hS; (first | fail))); (try simp only [Act.put, List.setIfInBounds_toArray, List.set_cons_zero, List.set_cons_succ])))
        refine InText.nil fun w5 hS5 => ?_
        clear hT9
        go_wp2_with fail
        go_ret
        unfold decS
        rw [HPP.out]
        exact ⟨rfl, pc, fun h => absurd rfl h, (by assumption)⟩
      · have HPP : Hid (decP ((x, y, z) :: t) U.ce U.cl = 1) := Lib.hid (by simp only [decP]; rw [if_neg hy, if_neg hl])
        have hlb : decide (U.cl ≤ U.ce) = false := by simpa using hl
        clear hy hl
        go_enter Tryz.func152, Tryz.ntmps152
        go_wp2_with fail
        refine wp_text (S := (Env w0 (boxI b (rav pc h n r) :: LU U R))) (by kernel_rfl) (by kernel_rfl) hE.drew (fun hT => ?_)
        have hT9 := Lib.hid hT
        clear hT
        repeat (first
          | (refine text_value (v := ?_) hT9.out (by rfl) ?_ ?_; rotate_left; (focus (intro w5 hS; have ru := HRU.out _ hS; obtain ⟨c0, c1, c2⟩ := HC.out _ hS; go_simp <;> with_reducible rfl)); (try simp only [Act.put, List.setIfInBounds_toArray, List.set_cons_zero, List.set_cons_succ]))
          | (refine text_off hT9.out (by rfl) ?_; (try simp only [Act.put, List.setIfInBounds_toArray, List.set_cons_zero, List.set_cons_succ]))
          | (refine text_call (v := ?_) (f := ?_) (args := ?_) hT9.out (by rfl) ?_ ?_ ?_; rotate_left 3; (focus (intro w5 hS; have ru := HRU.out _ hS; obtain ⟨c0, c1, c2⟩ := HC.out _ hS; go_simp; constructor <;> with_reducible rfl)); (focus (intro w5 hS; (first | fail))); (try simp only [Act.put, List.setIfInBounds_toArray, List.set_cons_zero, List.set_cons_succ])))
        refine InText.nil fun w5 hS5 => ?_
        clear hT9
        clear ru hE hP f0 rb
        go_wp2_with fail
        have hS6 := hS5
        clear hS5
        refine wp_text (S := (Env w0 (boxI b (rav pc h n r) :: LU U R))) (by kernel_rfl) (by kernel_rfl) hS6.drew (fun hT => ?_)
        have hT9 := Lib.hid hT
        clear hT
        repeat (first
          | (refine text_value (v := ?_) hT9.out (by rfl) ?_ ?_; rotate_left; (focus (intro w5 hS; have ru := HRU.out _ hS; go_simp <;> with_reducible rfl)); (try simp only [Act.put, List.setIfInBounds_toArray, List.set_cons_zero, List.set_cons_succ]))
          | (refine text_off hT9.out (by rfl) ?_; (try simp only [Act.put, List.setIfInBounds_toArray, List.set_cons_zero, List.set_cons_succ]))
          | (refine text_call (v := ?_) (f := ?_) (args := ?_) hT9.out (by rfl) ?_ ?_ ?_; rotate_left 3; (focus (intro w5 hS; have ru := HRU.out _ hS; go_simp; constructor <;> with_reducible rfl)); (focus (intro w5 hS; (first | fail))); (try simp only [Act.put, List.setIfInBounds_toArray, List.set_cons_zero, List.set_cons_succ])))
        refine InText.nil fun w5 hS5 => ?_
        clear hT9
        clear hS6
        have rb := hS5.rule 0 rfl
        unfold rav at rb
        have f0 := hS5.thaw 0 rfl 0 (by simp [rav])
        have hP := fun v => hS5.put 0 rfl (j := 0) (by simp [rav]) v
        go_wp2_with fail
        go_ret
        unfold decS
        rw [HPP.out]
        exact ⟨rfl, 1, fun _ => rfl, hP _⟩
end
end Go.Proofs.YtdknbegcflldjaaGreatDoor

/- The reference's words in a row: Swap, Less. -/

namespace Go.Proofs.YtdknbegcflldjaaGreatDoor
open Go.RowKit Go.Maps
set_option maxRecDepth 100000

def swL (l : List OneR) (x : Plc) (o v : Int) : List OneR := if getL l x = o then setL l x v else l
set_option maxHeartbeats 1600000 in
theorem refSwap_any {u : Nat} {F : Nat → Prop} {l : List OneR} {w : World} (a b d o v : Int) (hl : l.length ≤ 1000000) (hU : IsU w u F l) :
    Calls Tryz.prog 101 #[.pointer (some ⟨u, 0, none⟩), .agg #[.int .i64 a, .int .i64 b, .int .i64 d], .int .u64 o, .int .u64 v] w fun e w' => e = .returned (.bool (decide (getL l (a, b, d) = o))) ∧ ∃ F', IsU w' u F' (swL l (a, b, d) o v) ∧ Step F F' w w' := by
  have hE := (Fr.start w).push w.heap.size rfl [.int .i64 a, .int .i64 b, .int .i64 d] 105
  have r := hE.rule 0 rfl
  have HU := Lib.hid hU
  go_enter Tryz.func101, Tryz.ntmps101
  go_wp2_with fail
  refine (refGet_any a b d hl (HU.out.over hE.below)).mono ?_
  rintro e w1 ⟨rfl, hb⟩
  replace hE := hE.over hb
  have hb0 := hE.below
  clear hb r
  by_cases hg : getL l (a, b, d) = o
  · have r := hE.rule 0 rfl
    have hg' : decide (getL l (a, b, d) = o) = true := by simp [hg]
    go_wp2_with fail
    refine (refSet_any a b d v hl (HU.out.over hb0)).mono ?_
    rintro e w2 ⟨rfl, F', hU2, hs⟩
    go_wp2
    go_ret
    exact ⟨by rw [hg']; rfl, F', by rw [swL, if_pos hg]; exact hU2, (Step.of_below F hb0).trans hs⟩
  · have r := hE.rule 0 rfl
    have hg' : decide (getL l (a, b, d) = o) = false := by simp [hg]
    go_wp2_with fail
    go_ret
    exact ⟨by rw [hg']; rfl, F, by rw [swL, if_neg hg]; exact HU.out.over hb0, Step.of_below F hb0⟩

end Go.Proofs.YtdknbegcflldjaaGreatDoor

/- The reference's Alloc: contracts of Step, the rows 1 to 6. -/
namespace Go.Proofs.YtdknbegcflldjaaGreatDoor
open Go.RowKit Go.Maps
set_option maxRecDepth 100000

section
variable {w0 w : World} {R : List Item} {b : Nat} {U : SU} {pc h n r ok key val lv : Int}
set_option maxHeartbeats 3200000 in
theorem ral1 (he : 0 ≤ U.ce ∧ U.ce ≤ 9223372036854775807) (hml : U.ml.length ≤ 1000000) (hh : InU h) (hE : Env w0 (boxI b (rav 1 h n r) :: LU U R) w) :
    Calls Tryz.prog 108 #[.pointer (some ⟨b, 0, none⟩), .pointer (some ⟨U.u, 0, none⟩), .pointer (some ⟨U.m, 0, none⟩), .agg #[.int .i64 ok, .int .u64 key, .int .u64 val, .int .i64 lv]] w fun o w' => o = .returned (.int .i64 2) ∧ ∃ F5, Env w0 (boxI b (rav 1 h n r) :: LU { U with F := F5, ml := swL U.ml (1, 0, 0) U.ce (U.ce + 1) } R) w' := by
  have hw1 : IntKind.u64.wrap U.ce = U.ce := wrapU _ (by omega) (by omega)
  have hw2 : IntKind.u64.wrap (U.ce + 1) = U.ce + 1 := wrapU _ (by omega) (by omega)
  clear he
  have hE1 := (hE.box w.heap.size rfl [.int .i64 ok, .int .u64 key, .int .u64 val, .int .i64 lv] 50).perm (L' := boxI b (rav 1 h n r) :: LU U (boxI w.heap.size [.int .i64 ok, .int .u64 key, .int .u64 val, .int .i64 lv] :: R)) (List.perm_middle (l₁ := [boxI b (rav 1 h n r), _, _, _])).symm
  have rb := hE1.rule 0 rfl
  unfold rav at rb
  have HSL := Lib.hid (fun (v : World) => slot13_any h hh v)
  clear hE
  go_enter Tryz.func108, Tryz.ntmps108
  go_wp2_with fail
  generalize w.alloc _ = w1 at *
  generalize w.heap.size = O at *
  refine (HSL.out _).mono ?_
  rintro o w2 ⟨rfl, hb⟩
  replace hE1 := hE1.over hb
  clear hb rb
  have rb := hE1.rule 0 rfl
  unfold rav at rb
  go_wp2_with fail
  refine Ord.wp_chain [13] (fun v => Blk 0 v U.u (urv U.ck U.cs U.cb U.ch U.cl U.ce U.A U.ql.length U.c U.N U.hs U.ro)) (fun k w' => ∃ F5, Env w0 (boxI b (rav 1 h n r) :: LU (if k = 0 then U else { U with F := F5, ml := swL U.ml (1, 0, 0) U.ce (U.ce + 1) }) (boxI O [.int .i64 ok, .int .u64 key, .int .u64 val, .int .i64 lv] :: R)) w') (by kernel_rfl) (by kernel_rfl) (by kernel_rfl) (hE1.drew.get 1 rfl) ⟨U.F, hE1.drew⟩ (fun hT => ?_)
  have hT9 := Lib.hid hT
  clear hT
  repeat (first
    | (refine Ord.ch_value (v := ?_) hT9.out (by decide) (by rfl) ?_ ?_; rotate_left; (focus (intro w5 hS; have r9 := hS.rule; unfold urv at r9; go_simp <;> with_reducible rfl)); (try simp only [Act.put, List.setIfInBounds_toArray, List.set_cons_zero, List.set_cons_succ]))
    | (refine Ord.ch_off hT9.out (by decide) (by rfl) ?_; (try simp only [Act.put, List.setIfInBounds_toArray, List.set_cons_zero, List.set_cons_succ]))
    | (refine Ord.ch_call (v := ?_) (f := ?_) (args := ?_) hT9.out (by decide) (by rfl) ?_ ?_ ?_; rotate_left 3; (focus (intro w5 hS; have r9 := hS.rule; unfold urv at r9; go_simp; constructor <;> with_reducible rfl)); (focus (intro w5 hS; (first | (with_reducible refine (epoch13_any _).mono ?_; rintro e w6 ⟨rfl, hb6⟩; constructor; with_reducible rfl; exact ⟨hS.under hb6, fun k h => h.elim fun F5 h => ⟨F5, h.over hb6⟩⟩)))); (try simp only [Act.put, List.setIfInBounds_toArray, List.set_cons_zero, List.set_cons_succ])))
  refine Ord.ch_turn (v := .bool (decide (getL U.ml (1, 0, 0) = U.ce))) 0 hT9.out rfl (by decide) (Or.inl rfl) (by rfl) ?_ ?_
  · rintro w5 hC5 ⟨F5, hA5⟩
    simp only [if_true] at hA5
    go_simp
    simp only [Ord.LandsIn]
    refine (refSwap_any 1 0 0 U.ce (U.ce + 1) hml (hA5.ref 3 rfl)).mono ?_
    rintro e w6 ⟨rfl, F6, hU, hs⟩
    have hE6 := hA5.turnU 3 rfl hU hs
    exact ⟨rfl, hE6.get 1 rfl, F6, hE6⟩
  (try simp only [Act.put, List.setIfInBounds_toArray, List.set_cons_zero, List.set_cons_succ])
  repeat (first
    | (refine Ord.ch_value (v := ?_) hT9.out (by decide) (by rfl) ?_ ?_; rotate_left; (focus (intro w5 hS; skip; go_simp <;> with_reducible rfl)); (try simp only [Act.put, List.setIfInBounds_toArray, List.set_cons_zero, List.set_cons_succ]))
    | (refine Ord.ch_off hT9.out (by decide) (by rfl) ?_; (try simp only [Act.put, List.setIfInBounds_toArray, List.set_cons_zero, List.set_cons_succ])))
  refine Ord.InText.nil fun w5 hS => ?_
  clear hT9
  obtain ⟨hC9, hA9⟩ := Ord.chain_end hS
  clear hS
  obtain ⟨F9, hA9⟩ := hA9
  simp only [List.length_cons, List.length_nil, Nat.zero_add, Nat.one_ne_zero, if_false] at hA9
  go_wp2_with fail
  go_ret
  exact ⟨rfl, F9, hA9.sub (.cons_cons _ (.cons_cons _ (.cons_cons _ (.cons_cons _ (.cons _ (List.Sublist.refl _))))))⟩
set_option maxHeartbeats 3200000 in
theorem ral2No (x : Int) (hfx : getL U.ml (3, 0, 0) = x) (hml : U.ml.length ≤ 999999) (h0 : 0 ≤ x) (hx : U.cs ≤ x) (hcs : 0 ≤ U.cs ∧ U.cs ≤ 9223372036854775806) (hh : InU h) (hE : Env w0 (boxI b (rav 2 h n r) :: LU U R) w) :
    Calls Tryz.prog 108 #[.pointer (some ⟨b, 0, none⟩), .pointer (some ⟨U.u, 0, none⟩), .pointer (some ⟨U.m, 0, none⟩), .agg #[.int .i64 ok, .int .u64 key, .int .u64 val, .int .i64 lv]] w fun o w' => o = .returned (.int .i64 0) ∧ ∃ F5, Env w0 (boxI b (rav 3 h n r) :: LU { U with F := F5, ml := setL U.ml (3, 0, 0) (IntKind.u64.wrap (x + 1)) } R) w' := by
  have hw1 : IntKind.u64.wrap U.cs = U.cs := wrapU _ (by omega) (by omega)
  have hd : decide (U.cs ≤ x) = true := by simpa using hx
  have HX := Lib.hid hfx
  clear h0 hx hcs hfx
  have hE1 := (hE.box w.heap.size rfl [.int .i64 ok, .int .u64 key, .int .u64 val, .int .i64 lv] 50).perm (L' := boxI b (rav 2 h n r) :: LU U (boxI w.heap.size [.int .i64 ok, .int .u64 key, .int .u64 val, .int .i64 lv] :: R)) (List.perm_middle (l₁ := [boxI b (rav 2 h n r), _, _, _])).symm
  have rb := hE1.rule 0 rfl
  unfold rav at rb
  have HSL := Lib.hid (fun (v : World) => slot13_any h hh v)
  clear hE
  go_enter Tryz.func108, Tryz.ntmps108
  go_wp2_with fail
  generalize w.alloc _ = w1 at *
  generalize w.heap.size = O at *
  refine (HSL.out _).mono ?_
  rintro o w2 ⟨rfl, hb⟩
  replace hE1 := hE1.over hb
  clear hb rb
  have rb := hE1.rule 0 rfl
  unfold rav at rb
  go_wp2_with fail
  refine (fresh14_any _).mono ?_
  rintro o w3 ⟨rfl, hb⟩
  replace hE1 := hE1.over hb
  clear hb rb
  have rb := hE1.rule 0 rfl
  unfold rav at rb
  go_wp2_with fail
  refine (refGet_any 3 0 0 (Nat.le_trans hml (by decide)) (hE1.ref 3 rfl)).mono ?_
  rintro o w4 ⟨rfl, hb⟩
  rw [HX.out]
  replace hE1 := hE1.over hb
  clear hb rb
  have rb := hE1.rule 0 rfl
  unfold rav at rb
  go_wp2_with fail
  refine (fresh14_any _).mono ?_
  rintro o w5 ⟨rfl, hb⟩
  replace hE1 := hE1.over hb
  clear hb rb
  have rb := hE1.rule 0 rfl
  unfold rav at rb
  go_wp2_with fail
  refine (refSet_any 3 0 0 _ (Nat.le_trans hml (by decide)) (hE1.ref 3 rfl)).mono ?_
  rintro o w6 ⟨rfl, F6, hU, hs⟩
  have hE2 : Env w0 (boxI b (rav 2 h n r) :: LU { U with F := F6, ml := setL U.ml (3, 0, 0) (IntKind.u64.wrap (x + 1)) } (boxI O [.int .i64 ok, .int .u64 key, .int .u64 val, .int .i64 lv] :: R)) w6 := hE1.turnU 3 rfl hU hs
  clear hE1 hU hs rb
  have rb := hE2.rule 0 rfl
  unfold rav at rb
  have ru := hE2.rule 1 rfl
  unfold urv at ru
  have f0 := hE2.thaw 0 rfl 0 (by simp [rav])
  have hP := hE2.put 0 rfl (j := 0) (by simp [rav]) (.int .i64 3)
  go_wp2_with fail
  go_ret
  exact ⟨rfl, F6, hP.sub (.cons_cons _ (.cons_cons _ (.cons_cons _ (.cons_cons _ (.cons _ (List.Sublist.refl _))))))⟩
set_option maxHeartbeats 3200000 in
theorem ral2Yes (x : Int) (hfx : getL U.ml (3, 0, 0) = x) (hml : U.ml.length ≤ 999999) (h0 : 0 ≤ x) (hx : x < U.cs) (hcs : U.cs ≤ 9223372036854775806) (hl : U.ql.length ≤ 1000000) (hN : 0 ≤ U.N ∧ U.N ≤ 1099511627776) (hh : InU h) (hE : Env w0 (boxI b (rav 2 h n r) :: LU U R) w) :
    Calls Tryz.prog 108 #[.pointer (some ⟨b, 0, none⟩), .pointer (some ⟨U.u, 0, none⟩), .pointer (some ⟨U.m, 0, none⟩), .agg #[.int .i64 ok, .int .u64 key, .int .u64 val, .int .i64 lv]] w fun o w' => o = .returned (.int .i64 (decS (U.ql ++ [(x + 1, 0, 0)]) U.ce U.cl)) ∧ ∃ pc' : Int, ∃ F5 A' c', (decP (U.ql ++ [(x + 1, 0, 0)]) U.ce U.cl ≠ 0 → pc' = ((decP (U.ql ++ [(x + 1, 0, 0)]) U.ce U.cl : Nat) : Int)) ∧ Env w0 (boxI b (rav pc' h n r) :: LU { U with F := F5, ml := setL U.ml (3, 0, 0) (IntKind.u64.wrap (x + 1)), A := A', c := c', N := roomN (room0 U.N) (U.ql.length + 1), ql := U.ql ++ [(x + 1, 0, 0)] } R) w' := by
  have hw1 : IntKind.u64.wrap U.cs = U.cs := wrapU _ (by omega) (by omega)
  have hd : decide (U.cs ≤ x) = false := by simp; omega
  have hw2 : wrap64 x = x := w64 _ (by omega)
  have hw3 : wrap64 (x + 1) = x + 1 := w64 _ (by omega)
  have HX := Lib.hid hfx
  clear h0 hx hcs hfx
  have hE1 := (hE.box w.heap.size rfl [.int .i64 ok, .int .u64 key, .int .u64 val, .int .i64 lv] 50).perm (L' := boxI b (rav 2 h n r) :: LU U (boxI w.heap.size [.int .i64 ok, .int .u64 key, .int .u64 val, .int .i64 lv] :: R)) (List.perm_middle (l₁ := [boxI b (rav 2 h n r), _, _, _])).symm
  have rb := hE1.rule 0 rfl
  unfold rav at rb
  have HSL := Lib.hid (fun (v : World) => slot13_any h hh v)
  clear hE
  go_enter Tryz.func108, Tryz.ntmps108
  go_wp2_with fail
  generalize w.alloc _ = w1 at *
  generalize w.heap.size = O at *
  refine (HSL.out _).mono ?_
  rintro o w2 ⟨rfl, hb⟩
  replace hE1 := hE1.over hb
  clear hb rb
  have rb := hE1.rule 0 rfl
  unfold rav at rb
  go_wp2_with fail
  refine (fresh14_any _).mono ?_
  rintro o w3 ⟨rfl, hb⟩
  replace hE1 := hE1.over hb
  clear hb rb
  have rb := hE1.rule 0 rfl
  unfold rav at rb
  go_wp2_with fail
  refine (refGet_any 3 0 0 (Nat.le_trans hml (by decide)) (hE1.ref 3 rfl)).mono ?_
  rintro o w4 ⟨rfl, hb⟩
  rw [HX.out]
  replace hE1 := hE1.over hb
  clear hb rb
  have rb := hE1.rule 0 rfl
  unfold rav at rb
  go_wp2_with fail
  refine (fresh14_any _).mono ?_
  rintro o w5 ⟨rfl, hb⟩
  replace hE1 := hE1.over hb
  clear hb rb
  have rb := hE1.rule 0 rfl
  unfold rav at rb
  go_wp2_with fail
  refine (refSet_any 3 0 0 _ (Nat.le_trans hml (by decide)) (hE1.ref 3 rfl)).mono ?_
  rintro o w6 ⟨rfl, F6, hU, hs⟩
  have hE2 : Env w0 (boxI b (rav 2 h n r) :: LU { U with F := F6, ml := setL U.ml (3, 0, 0) (IntKind.u64.wrap (x + 1)) } (boxI O [.int .i64 ok, .int .u64 key, .int .u64 val, .int .i64 lv] :: R)) w6 := hE1.turnU 3 rfl hU hs
  clear hE1 hU hs rb
  have rb := hE2.rule 0 rfl
  unfold rav at rb
  have ru := hE2.rule 1 rfl
  unfold urv at ru
  have f0 := hE2.thaw 0 rfl 0 (by simp [rav])
  go_wp2_with fail
  refine (refPush_at (x + 1) 0 0 6 1 hE2 rfl rfl rfl rfl hl hN).mono ?_
  rintro o w7 ⟨rfl, A7, c7, hE7⟩
  have hE8 : Env w0 (boxI b (rav 2 h n r) :: LU { U with F := F6, ml := setL U.ml (3, 0, 0) (IntKind.u64.wrap (x + 1)), A := A7, c := c7, N := roomN (room0 U.N) (U.ql.length + 1), ql := U.ql ++ [(x + 1, 0, 0)] } (boxI O [.int .i64 ok, .int .u64 key, .int .u64 val, .int .i64 lv] :: R)) w7 := by
    have hq : (U.ql ++ [(x + 1, (0 : Int), (0 : Int))]).length = U.ql.length + 1 := by simp
    unfold LU
    rw [hq]
    exact hE7
  clear hE2 hE7 rb ru f0
  go_wp2_with fail
  refine (rdecide_a hE8).mono ?_
  rintro o w8 ⟨rfl, pc8, hpc, hE9⟩
  go_wp2_with fail
  go_ret
  exact ⟨rfl, pc8, F6, A7, c7, hpc, hE9.sub (.cons_cons _ (.cons_cons _ (.cons_cons _ (.cons_cons _ (.cons _ (List.Sublist.refl _))))))⟩
set_option maxHeartbeats 3200000 in
theorem ral3 (x : Int) (hfx : getL U.ml (2, 0, 0) = x) (hxu : InU x) (hml : U.ml.length ≤ 1000000) (hh : InU h) (hE : Env w0 (boxI b (rav 3 h n r) :: LU U R) w) :
    Calls Tryz.prog 108 #[.pointer (some ⟨b, 0, none⟩), .pointer (some ⟨U.u, 0, none⟩), .pointer (some ⟨U.m, 0, none⟩), .agg #[.int .i64 ok, .int .u64 key, .int .u64 val, .int .i64 lv]] w fun o w' => o = .returned (.int .i64 (poolS x U.cl)) ∧ ∃ pc', (poolS x U.cl = 0 → pc' = 4) ∧ Env w0 (boxI b (rav pc' x n r) :: LU U R) w' := by
  have HX := Lib.hid hfx
  have HSX := Lib.hid (fun (v : World) => slot13_any x hxu v)
  have HVX := Lib.hid (fun (v : World) => ver14_any x hxu v)
  clear hfx hxu
  have hE1 := (hE.box w.heap.size rfl [.int .i64 ok, .int .u64 key, .int .u64 val, .int .i64 lv] 50).perm (L' := boxI b (rav 3 h n r) :: LU U (boxI w.heap.size [.int .i64 ok, .int .u64 key, .int .u64 val, .int .i64 lv] :: R)) (List.perm_middle (l₁ := [boxI b (rav 3 h n r), _, _, _])).symm
  have rb := hE1.rule 0 rfl
  unfold rav at rb
  have HSL := Lib.hid (fun (v : World) => slot13_any h hh v)
  clear hE
  go_enter Tryz.func108, Tryz.ntmps108
  go_wp2_with fail
  generalize w.alloc _ = w1 at *
  generalize w.heap.size = O at *
  refine (HSL.out _).mono ?_
  rintro o w2 ⟨rfl, hb⟩
  replace hE1 := hE1.over hb
  clear hb rb
  have rb := hE1.rule 0 rfl
  unfold rav at rb
  go_wp2_with fail
  refine (pool14_any _).mono ?_
  rintro o w3 ⟨rfl, hb⟩
  replace hE1 := hE1.over hb
  clear hb rb
  have rb := hE1.rule 0 rfl
  unfold rav at rb
  go_wp2_with fail
  refine (refGet_any 2 0 0 hml (hE1.ref 3 rfl)).mono ?_
  rintro o w4 ⟨rfl, hb⟩
  rw [HX.out]
  replace hE1 := hE1.over hb
  clear hb rb
  have rb := hE1.rule 0 rfl
  unfold rav at rb
  have f1 := hE1.thaw 0 rfl 1 (by simp [rav])
  have hE2 : Env w0 (boxI b (rav 3 x n r) :: LU U (boxI O [.int .i64 ok, .int .u64 key, .int .u64 val, .int .i64 lv] :: R)) (w4.setCell ⟨b, 1, none⟩ (.int .u64 x)) := hE1.put 0 rfl (j := 1) (by simp [rav]) (.int .u64 x)
  go_wp2_with fail
  clear rb f1 hE1
  generalize w4.setCell _ _ = w9 at *
  refine (HSX.out _).mono ?_
  rintro o w5 ⟨rfl, hb⟩
  replace hE2 := hE2.over hb
  clear hb
  by_cases hs : slotI x = 0
  · have HP := Lib.hid (show poolS x U.cl = 3 from if_pos hs)
    have hsb : (slotI x == 0) = true := by simpa using hs
    clear hs
    go_wp2_with fail
    go_ret
    rw [HP.out]
    exact ⟨rfl, 3, fun h => absurd h (by decide), hE2.sub (.cons_cons _ (.cons_cons _ (.cons_cons _ (.cons_cons _ (.cons _ (List.Sublist.refl _))))))⟩
  · have hsb : (slotI x == 0) = false := by simpa using hs
    have HS := Lib.hid hs
    obtain ⟨y, hy⟩ : ∃ y, verI x = y := ⟨_, rfl⟩
    have hvx := HVX.out
    simp only [hy] at hvx
    have HVY := Lib.hid hvx
    have HY := Lib.hid hy
    clear hs hvx hy HVX
    by_cases hv : U.cl ≤ y
    · have HP := Lib.hid (show poolS x U.cl = 4 by unfold poolS; rw [if_neg HS.out, HY.out, if_pos hv])
      have hvb : decide (U.cl ≤ y) = true := by simpa using hv
      clear hv
      go_wp2_with fail
      refine wp_text (S := (Env w0 (boxI b (rav 3 x n r) :: LU U (boxI O [.int .i64 ok, .int .u64 key, .int .u64 val, .int .i64 lv] :: R)))) (by kernel_rfl) (by kernel_rfl) hE2.drew (fun hT => ?_)
      have hT9 := Lib.hid hT
      clear hT
      repeat (first
        | (refine text_value (v := ?_) hT9.out (by rfl) ?_ ?_; rotate_left; (focus (intro w5 hS; have rb := hS.rule 0 rfl; unfold rav at rb; have ru := hS.rule 1 rfl; unfold urv at ru; go_simp <;> with_reducible rfl)); (try simp only [Act.put, List.setIfInBounds_toArray, List.set_cons_zero, List.set_cons_succ]))
        | (refine text_off hT9.out (by rfl) ?_; (try simp only [Act.put, List.setIfInBounds_toArray, List.set_cons_zero, List.set_cons_succ]))
        | (refine text_call (v := ?_) (f := ?_) (args := ?_) hT9.out (by rfl) ?_ ?_ ?_; rotate_left 3; (focus (intro w5 hS; have rb := hS.rule 0 rfl; unfold rav at rb; have ru := hS.rule 1 rfl; unfold urv at ru; go_simp; constructor <;> with_reducible rfl)); (focus (intro w5 hS; (first | (with_reducible refine (HVY.out _).mono ?_; rintro o w6 ⟨rfl, hb6⟩; constructor; with_reducible rfl; exact hS.over hb6)))); (try simp only [Act.put, List.setIfInBounds_toArray, List.set_cons_zero, List.set_cons_succ])))
      refine InText.nil fun w5 hS5 => ?_
      clear hT9
      clear hE2
      have rb := hS5.rule 0 rfl
      unfold rav at rb
      have f0 := hS5.thaw 0 rfl 0 (by simp [rav])
      have hP := hS5.put 0 rfl (j := 0) (by simp [rav]) (.int .i64 4)
      go_wp2_with fail
      go_ret
      rw [HP.out]
      exact ⟨rfl, 3, fun h => absurd h (by decide), hS5.sub (.cons_cons _ (.cons_cons _ (.cons_cons _ (.cons_cons _ (.cons _ (List.Sublist.refl _))))))⟩
    · have HP := Lib.hid (show poolS x U.cl = 0 by unfold poolS; rw [if_neg HS.out, HY.out, if_neg hv])
      have hvb : decide (U.cl ≤ y) = false := by simpa using hv
      clear hv
      go_wp2_with fail
      refine wp_text (S := (Env w0 (boxI b (rav 3 x n r) :: LU U (boxI O [.int .i64 ok, .int .u64 key, .int .u64 val, .int .i64 lv] :: R)))) (by kernel_rfl) (by kernel_rfl) hE2.drew (fun hT => ?_)
      have hT9 := Lib.hid hT
      clear hT
      repeat (first
        | (refine text_value (v := ?_) hT9.out (by rfl) ?_ ?_; rotate_left; (focus (intro w5 hS; have rb := hS.rule 0 rfl; unfold rav at rb; have ru := hS.rule 1 rfl; unfold urv at ru; go_simp <;> with_reducible rfl)); (try simp only [Act.put, List.setIfInBounds_toArray, List.set_cons_zero, List.set_cons_succ]))
        | (refine text_off hT9.out (by rfl) ?_; (try simp only [Act.put, List.setIfInBounds_toArray, List.set_cons_zero, List.set_cons_succ]))
        | (refine text_call (v := ?_) (f := ?_) (args := ?_) hT9.out (by rfl) ?_ ?_ ?_; rotate_left 3; (focus (intro w5 hS; have rb := hS.rule 0 rfl; unfold rav at rb; have ru := hS.rule 1 rfl; unfold urv at ru; go_simp; constructor <;> with_reducible rfl)); (focus (intro w5 hS; (first | (with_reducible refine (HVY.out _).mono ?_; rintro o w6 ⟨rfl, hb6⟩; constructor; with_reducible rfl; exact hS.over hb6)))); (try simp only [Act.put, List.setIfInBounds_toArray, List.set_cons_zero, List.set_cons_succ])))
      refine InText.nil fun w5 hS5 => ?_
      clear hT9
      clear hE2
      have rb := hS5.rule 0 rfl
      unfold rav at rb
      have f0 := hS5.thaw 0 rfl 0 (by simp [rav])
      have hP := hS5.put 0 rfl (j := 0) (by simp [rav]) (.int .i64 4)
      go_wp2_with fail
      go_ret
      rw [HP.out]
      exact ⟨rfl, 4, fun _ => rfl, hP.sub (.cons_cons _ (.cons_cons _ (.cons_cons _ (.cons_cons _ (.cons _ (List.Sublist.refl _))))))⟩
set_option maxHeartbeats 3200000 in
theorem ral4 (x : Int) (hfx : getL U.ml (5, slotI h, 2) = x) (hml : U.ml.length ≤ 1000000) (hh : InU h) (hE : Env w0 (boxI b (rav 4 h n r) :: LU U R) w) :
    Calls Tryz.prog 108 #[.pointer (some ⟨b, 0, none⟩), .pointer (some ⟨U.u, 0, none⟩), .pointer (some ⟨U.m, 0, none⟩), .agg #[.int .i64 ok, .int .u64 key, .int .u64 val, .int .i64 lv]] w fun o w' => o = .returned (.int .i64 0) ∧ Env w0 (boxI b (rav 5 h x r) :: LU U R) w' := by
  have HX := Lib.hid hfx
  clear hfx
  have hE1 := (hE.box w.heap.size rfl [.int .i64 ok, .int .u64 key, .int .u64 val, .int .i64 lv] 50).perm (L' := boxI b (rav 4 h n r) :: LU U (boxI w.heap.size [.int .i64 ok, .int .u64 key, .int .u64 val, .int .i64 lv] :: R)) (List.perm_middle (l₁ := [boxI b (rav 4 h n r), _, _, _])).symm
  have rb := hE1.rule 0 rfl
  unfold rav at rb
  obtain ⟨sl, hsl⟩ : ∃ sl, slotI h = sl := ⟨_, rfl⟩
  have hs13 := fun (v : World) => slot13_any h hh v
  rw [hsl] at HX
  simp only [hsl] at hs13
  have HSL := Lib.hid hs13
  clear hs13 hsl
  clear hE
  go_enter Tryz.func108, Tryz.ntmps108
  go_wp2_with fail
  generalize w.alloc _ = w1 at *
  generalize w.heap.size = O at *
  refine (HSL.out _).mono ?_
  rintro o w2 ⟨rfl, hb⟩
  replace hE1 := hE1.over hb
  clear hb rb
  have rb := hE1.rule 0 rfl
  unfold rav at rb
  go_wp2_with fail
  refine (cell13_any _ _ _).mono ?_
  rintro o w3 ⟨rfl, hb⟩
  replace hE1 := hE1.over hb
  clear hb rb
  have rb := hE1.rule 0 rfl
  unfold rav at rb
  go_wp2_with fail
  refine (refGet_any 5 sl 2 hml (hE1.ref 3 rfl)).mono ?_
  rintro o w4 ⟨rfl, hb⟩
  rw [HX.out]
  replace hE1 := hE1.over hb
  clear hb rb
  have rb := hE1.rule 0 rfl
  unfold rav at rb
  have f1 := hE1.thaw 0 rfl 2 (by simp [rav])
  have f0 := hE1.thaw 0 rfl 0 (by simp [rav])
  have hP := (hE1.put 0 rfl (j := 2) (by simp [rav]) (.int .u64 x)).put 0 rfl (j := 0) (by simp [rav]) (.int .i64 5)
  go_wp2_with fail
  go_ret
  exact ⟨rfl, hP.sub (.cons_cons _ (.cons_cons _ (.cons_cons _ (.cons_cons _ (.cons _ (List.Sublist.refl _))))))⟩
set_option maxHeartbeats 3200000 in
theorem ral5 (x : Int) (hfx : getL U.ml (5, slotI h, 1) = x) (hml : U.ml.length ≤ 1000000) (hh : InU h) (hE : Env w0 (boxI b (rav 5 h n r) :: LU U R) w) :
    Calls Tryz.prog 108 #[.pointer (some ⟨b, 0, none⟩), .pointer (some ⟨U.u, 0, none⟩), .pointer (some ⟨U.m, 0, none⟩), .agg #[.int .i64 ok, .int .u64 key, .int .u64 val, .int .i64 lv]] w fun o w' => o = .returned (.int .i64 0) ∧ Env w0 (boxI b (rav 6 h n x) :: LU U R) w' := by
  have HX := Lib.hid hfx
  clear hfx
  have hE1 := (hE.box w.heap.size rfl [.int .i64 ok, .int .u64 key, .int .u64 val, .int .i64 lv] 50).perm (L' := boxI b (rav 5 h n r) :: LU U (boxI w.heap.size [.int .i64 ok, .int .u64 key, .int .u64 val, .int .i64 lv] :: R)) (List.perm_middle (l₁ := [boxI b (rav 5 h n r), _, _, _])).symm
  have rb := hE1.rule 0 rfl
  unfold rav at rb
  obtain ⟨sl, hsl⟩ : ∃ sl, slotI h = sl := ⟨_, rfl⟩
  have hs13 := fun (v : World) => slot13_any h hh v
  rw [hsl] at HX
  simp only [hsl] at hs13
  have HSL := Lib.hid hs13
  clear hs13 hsl
  clear hE
  go_enter Tryz.func108, Tryz.ntmps108
  go_wp2_with fail
  generalize w.alloc _ = w1 at *
  generalize w.heap.size = O at *
  refine (HSL.out _).mono ?_
  rintro o w2 ⟨rfl, hb⟩
  replace hE1 := hE1.over hb
  clear hb rb
  have rb := hE1.rule 0 rfl
  unfold rav at rb
  go_wp2_with fail
  refine (cell13_any _ _ _).mono ?_
  rintro o w3 ⟨rfl, hb⟩
  replace hE1 := hE1.over hb
  clear hb rb
  have rb := hE1.rule 0 rfl
  unfold rav at rb
  go_wp2_with fail
  refine (refGet_any 5 sl 1 hml (hE1.ref 3 rfl)).mono ?_
  rintro o w4 ⟨rfl, hb⟩
  rw [HX.out]
  replace hE1 := hE1.over hb
  clear hb rb
  have rb := hE1.rule 0 rfl
  unfold rav at rb
  have f1 := hE1.thaw 0 rfl 3 (by simp [rav])
  have f0 := hE1.thaw 0 rfl 0 (by simp [rav])
  have hP := (hE1.put 0 rfl (j := 3) (by simp [rav]) (.int .u64 x)).put 0 rfl (j := 0) (by simp [rav]) (.int .i64 6)
  go_wp2_with fail
  go_ret
  exact ⟨rfl, hP.sub (.cons_cons _ (.cons_cons _ (.cons_cons _ (.cons_cons _ (.cons _ (List.Sublist.refl _))))))⟩
set_option maxHeartbeats 3200000 in
theorem ral6No (hn : InU n) (hml : U.ml.length ≤ 1000000) (hfx : getL U.ml (2, 0, 0) ≠ h) (hh : InU h) (hE : Env w0 (boxI b (rav 6 h n r) :: LU U R) w) :
    Calls Tryz.prog 108 #[.pointer (some ⟨b, 0, none⟩), .pointer (some ⟨U.u, 0, none⟩), .pointer (some ⟨U.m, 0, none⟩), .agg #[.int .i64 ok, .int .u64 key, .int .u64 val, .int .i64 lv]] w fun o w' => o = .returned (.int .i64 0) ∧ ∃ F5, Env w0 (boxI b (rav 3 h n r) :: LU { U with F := F5, ml := swL U.ml (2, 0, 0) h (wordI false (slotI n) (verI h + 1)) } R) w' := by
  have HD : Hid (decide (getL U.ml (2, 0, 0) = h) = false) := Lib.hid (by simpa using hfx)
  clear hfx
  have hbh := fun (v : World) => behind14_any h (slotI n) hh v
  have hsn := fun (v : World) => slot13_any n hn v
  obtain ⟨y9, hy⟩ : ∃ y, wordI false (slotI n) (verI h + 1) = y := ⟨_, rfl⟩
  rw [hy]
  simp only [hy] at hbh
  obtain ⟨sn, hsn9⟩ : ∃ s, slotI n = s := ⟨_, rfl⟩
  simp only [hsn9] at hbh hsn
  have HBH := Lib.hid hbh
  have HSN := Lib.hid hsn
  clear hy hbh hsn hsn9 hn
  have hE1 := (hE.box w.heap.size rfl [.int .i64 ok, .int .u64 key, .int .u64 val, .int .i64 lv] 50).perm (L' := boxI b (rav 6 h n r) :: LU U (boxI w.heap.size [.int .i64 ok, .int .u64 key, .int .u64 val, .int .i64 lv] :: R)) (List.perm_middle (l₁ := [boxI b (rav 6 h n r), _, _, _])).symm
  have rb := hE1.rule 0 rfl
  unfold rav at rb
  obtain ⟨sl, hsl⟩ : ∃ sl, slotI h = sl := ⟨_, rfl⟩
  have hs13 := fun (v : World) => slot13_any h hh v
  simp only [hsl] at hs13
  have HSL := Lib.hid hs13
  clear hs13 hsl
  clear hE
  go_enter Tryz.func108, Tryz.ntmps108
  go_wp2_with fail
  generalize w.alloc _ = w1 at *
  generalize w.heap.size = O at *
  refine (HSL.out _).mono ?_
  rintro o w2 ⟨rfl, hb⟩
  replace hE1 := hE1.over hb
  clear hb rb
  have rb := hE1.rule 0 rfl
  unfold rav at rb
  go_wp2_with fail
  refine Ord.wp_chain [16] (fun v => Blk 0 v b (rav 6 h n r)) (fun k w' => ∃ F5, Env w0 (boxI b (rav 6 h n r) :: LU (if k = 0 then U else { U with F := F5, ml := swL U.ml (2, 0, 0) h y9 }) (boxI O [.int .i64 ok, .int .u64 key, .int .u64 val, .int .i64 lv] :: R)) w') (by kernel_rfl) (by kernel_rfl) (by kernel_rfl) (hE1.drew.get 0 rfl) ⟨U.F, hE1.drew⟩ (fun hT => ?_)
  have hT9 := Lib.hid hT
  clear hT
  repeat (first
    | (refine Ord.ch_value (v := ?_) hT9.out (by decide) (by rfl) ?_ ?_; rotate_left; (focus (intro w5 hS; have r9 := hS.rule; unfold rav at r9; go_simp <;> with_reducible rfl)); (try simp only [Act.put, List.setIfInBounds_toArray, List.set_cons_zero, List.set_cons_succ]))
    | (refine Ord.ch_off hT9.out (by decide) (by rfl) ?_; (try simp only [Act.put, List.setIfInBounds_toArray, List.set_cons_zero, List.set_cons_succ]))
    | (refine Ord.ch_call (v := ?_) (f := ?_) (args := ?_) hT9.out (by decide) (by rfl) ?_ ?_ ?_; rotate_left 3; (focus (intro w5 hS; have r9 := hS.rule; unfold rav at r9; go_simp; constructor <;> with_reducible rfl)); (focus (intro w5 hS; (first | (with_reducible refine (pool14_any _).mono ?_; rintro e w6 ⟨rfl, hb6⟩; constructor; with_reducible rfl; exact ⟨hS.under hb6, fun k h => h.elim fun F5 h => ⟨F5, h.over hb6⟩⟩) | (with_reducible refine (HSN.out _).mono ?_; rintro e w6 ⟨rfl, hb6⟩; constructor; with_reducible rfl; exact ⟨hS.under hb6, fun k h => h.elim fun F5 h => ⟨F5, h.over hb6⟩⟩) | (with_reducible refine (HBH.out _).mono ?_; rintro e w6 ⟨rfl, hb6⟩; constructor; with_reducible rfl; exact ⟨hS.under hb6, fun k h => h.elim fun F5 h => ⟨F5, h.over hb6⟩⟩)))); (try simp only [Act.put, List.setIfInBounds_toArray, List.set_cons_zero, List.set_cons_succ])))
  refine Ord.ch_turn (v := .bool false) 0 hT9.out rfl (by decide) (Or.inl rfl) (by rfl) ?_ ?_
  · rintro w5 hC5 ⟨F5, hA5⟩
    simp only [if_true] at hA5
    go_simp
    simp only [Ord.LandsIn]
    have hsw := refSwap_any 2 0 0 h y9 hml (hA5.ref 3 rfl)
    rw [HD.out] at hsw
    refine hsw.mono ?_
    rintro e w6 ⟨rfl, F6, hU, hs⟩
    have hE6 := hA5.turnU 3 rfl hU hs
    exact ⟨rfl, hE6.get 0 rfl, F6, hE6⟩
  (try simp only [Act.put, List.setIfInBounds_toArray, List.set_cons_zero, List.set_cons_succ])
  repeat (first
    | (refine Ord.ch_value (v := ?_) hT9.out (by decide) (by rfl) ?_ ?_; rotate_left; (focus (intro w5 hS; skip; go_simp <;> with_reducible rfl)); (try simp only [Act.put, List.setIfInBounds_toArray, List.set_cons_zero, List.set_cons_succ]))
    | (refine Ord.ch_off hT9.out (by decide) (by rfl) ?_; (try simp only [Act.put, List.setIfInBounds_toArray, List.set_cons_zero, List.set_cons_succ])))
  refine Ord.InText.nil fun w5 hS => ?_
  clear hT9
  obtain ⟨hC9, hA9⟩ := Ord.chain_end hS
  clear hS
  obtain ⟨F9, hA9⟩ := hA9
  simp only [List.length_cons, List.length_nil, Nat.zero_add, Nat.one_ne_zero, if_false] at hA9
  clear rb hE1 hC9
  have rb := hA9.rule 0 rfl
  unfold rav at rb
  have f0 := hA9.thaw 0 rfl 0 (by simp [rav])
  have hP := hA9.put 0 rfl (j := 0) (by simp [rav]) (.int .i64 3)
  go_wp2_with fail
  go_ret
  exact ⟨rfl, F9, hP.sub (.cons_cons _ (.cons_cons _ (.cons_cons _ (.cons_cons _ (.cons _ (List.Sublist.refl _))))))⟩
set_option maxHeartbeats 3200000 in
theorem ral6Yes (hn : InU n) (hml : U.ml.length ≤ 1000000) (hfx : getL U.ml (2, 0, 0) = h) (hr : InU r) (hl : U.ql.length ≤ 1000000) (hN : 0 ≤ U.N ∧ U.N ≤ 1099511627776) (hh : InU h) (hE : Env w0 (boxI b (rav 6 h n r) :: LU U R) w) :
    Calls Tryz.prog 108 #[.pointer (some ⟨b, 0, none⟩), .pointer (some ⟨U.u, 0, none⟩), .pointer (some ⟨U.m, 0, none⟩), .agg #[.int .i64 ok, .int .u64 key, .int .u64 val, .int .i64 lv]] w fun o w' => o = .returned (.int .i64 (decS (U.ql ++ [(slotI h, epI r, 0)]) U.ce U.cl)) ∧ ∃ pc' : Int, ∃ F5 A' c', (decP (U.ql ++ [(slotI h, epI r, 0)]) U.ce U.cl ≠ 0 → pc' = ((decP (U.ql ++ [(slotI h, epI r, 0)]) U.ce U.cl : Nat) : Int)) ∧ Env w0 (boxI b (rav pc' h n r) :: LU { U with F := F5, ml := swL U.ml (2, 0, 0) h (wordI false (slotI n) (verI h + 1)), A := A', c := c', N := roomN (room0 U.N) (U.ql.length + 1), ql := U.ql ++ [(slotI h, epI r, 0)] } R) w' := by
  have HD : Hid (decide (getL U.ml (2, 0, 0) = h) = true) := Lib.hid (by rw [hfx]; simp)
  clear hfx
  have hbh := fun (v : World) => behind14_any h (slotI n) hh v
  have hsn := fun (v : World) => slot13_any n hn v
  obtain ⟨y9, hy⟩ : ∃ y, wordI false (slotI n) (verI h + 1) = y := ⟨_, rfl⟩
  rw [hy]
  simp only [hy] at hbh
  obtain ⟨sn, hsn9⟩ : ∃ s, slotI n = s := ⟨_, rfl⟩
  simp only [hsn9] at hbh hsn
  have HBH := Lib.hid hbh
  have HSN := Lib.hid hsn
  clear hy hbh hsn hsn9 hn
  have hE1 := (hE.box w.heap.size rfl [.int .i64 ok, .int .u64 key, .int .u64 val, .int .i64 lv] 50).perm (L' := boxI b (rav 6 h n r) :: LU U (boxI w.heap.size [.int .i64 ok, .int .u64 key, .int .u64 val, .int .i64 lv] :: R)) (List.perm_middle (l₁ := [boxI b (rav 6 h n r), _, _, _])).symm
  have rb := hE1.rule 0 rfl
  unfold rav at rb
  obtain ⟨sl, hsl⟩ : ∃ sl, slotI h = sl := ⟨_, rfl⟩
  have hs13 := fun (v : World) => slot13_any h hh v
  rw [hsl]
  simp only [hsl] at hs13
  have HSL := Lib.hid hs13
  clear hs13 hsl
  clear hE
  go_enter Tryz.func108, Tryz.ntmps108
  go_wp2_with fail
  generalize w.alloc _ = w1 at *
  generalize w.heap.size = O at *
  refine (HSL.out _).mono ?_
  rintro o w2 ⟨rfl, hb⟩
  replace hE1 := hE1.over hb
  clear hb rb
  have rb := hE1.rule 0 rfl
  unfold rav at rb
  go_wp2_with fail
  refine Ord.wp_chain [16] (fun v => Blk 0 v b (rav 6 h n r)) (fun k w' => ∃ F5, Env w0 (boxI b (rav 6 h n r) :: LU (if k = 0 then U else { U with F := F5, ml := swL U.ml (2, 0, 0) h y9 }) (boxI O [.int .i64 ok, .int .u64 key, .int .u64 val, .int .i64 lv] :: R)) w') (by kernel_rfl) (by kernel_rfl) (by kernel_rfl) (hE1.drew.get 0 rfl) ⟨U.F, hE1.drew⟩ (fun hT => ?_)
  have hT9 := Lib.hid hT
  clear hT
  repeat (first
    | (refine Ord.ch_value (v := ?_) hT9.out (by decide) (by rfl) ?_ ?_; rotate_left; (focus (intro w5 hS; have r9 := hS.rule; unfold rav at r9; go_simp <;> with_reducible rfl)); (try simp only [Act.put, List.setIfInBounds_toArray, List.set_cons_zero, List.set_cons_succ]))
    | (refine Ord.ch_off hT9.out (by decide) (by rfl) ?_; (try simp only [Act.put, List.setIfInBounds_toArray, List.set_cons_zero, List.set_cons_succ]))
    | (refine Ord.ch_call (v := ?_) (f := ?_) (args := ?_) hT9.out (by decide) (by rfl) ?_ ?_ ?_; rotate_left 3; (focus (intro w5 hS; have r9 := hS.rule; unfold rav at r9; go_simp; constructor <;> with_reducible rfl)); (focus (intro w5 hS; (first | (with_reducible refine (pool14_any _).mono ?_; rintro e w6 ⟨rfl, hb6⟩; constructor; with_reducible rfl; exact ⟨hS.under hb6, fun k h => h.elim fun F5 h => ⟨F5, h.over hb6⟩⟩) | (with_reducible refine (HSN.out _).mono ?_; rintro e w6 ⟨rfl, hb6⟩; constructor; with_reducible rfl; exact ⟨hS.under hb6, fun k h => h.elim fun F5 h => ⟨F5, h.over hb6⟩⟩) | (with_reducible refine (HBH.out _).mono ?_; rintro e w6 ⟨rfl, hb6⟩; constructor; with_reducible rfl; exact ⟨hS.under hb6, fun k h => h.elim fun F5 h => ⟨F5, h.over hb6⟩⟩)))); (try simp only [Act.put, List.setIfInBounds_toArray, List.set_cons_zero, List.set_cons_succ])))
  refine Ord.ch_turn (v := .bool true) 0 hT9.out rfl (by decide) (Or.inl rfl) (by rfl) ?_ ?_
  · rintro w5 hC5 ⟨F5, hA5⟩
    simp only [if_true] at hA5
    go_simp
    simp only [Ord.LandsIn]
    have hsw := refSwap_any 2 0 0 h y9 hml (hA5.ref 3 rfl)
    rw [HD.out] at hsw
    refine hsw.mono ?_
    rintro e w6 ⟨rfl, F6, hU, hs⟩
    have hE6 := hA5.turnU 3 rfl hU hs
    exact ⟨rfl, hE6.get 0 rfl, F6, hE6⟩
  (try simp only [Act.put, List.setIfInBounds_toArray, List.set_cons_zero, List.set_cons_succ])
  repeat (first
    | (refine Ord.ch_value (v := ?_) hT9.out (by decide) (by rfl) ?_ ?_; rotate_left; (focus (intro w5 hS; skip; go_simp <;> with_reducible rfl)); (try simp only [Act.put, List.setIfInBounds_toArray, List.set_cons_zero, List.set_cons_succ]))
    | (refine Ord.ch_off hT9.out (by decide) (by rfl) ?_; (try simp only [Act.put, List.setIfInBounds_toArray, List.set_cons_zero, List.set_cons_succ])))
  refine Ord.InText.nil fun w5 hS => ?_
  clear hT9
  obtain ⟨hC9, hA9⟩ := Ord.chain_end hS
  clear hS
  obtain ⟨F9, hA9⟩ := hA9
  simp only [List.length_cons, List.length_nil, Nat.zero_add, Nat.one_ne_zero, if_false] at hA9
  clear rb hE1 hC9
  have rb := hA9.rule 0 rfl
  unfold rav at rb
  have HEP : Hid (epI r = if r < 9223372036854775808 then r else 0) := Lib.hid (by unfold epI; split <;> split <;> omega)
  have hru := hr
  unfold InU at hru
  clear hr
  obtain ⟨e9, he9⟩ : ∃ e, epI r = e := ⟨_, rfl⟩
  rw [he9] at HEP
  have HE9 := Lib.hid he9
  clear he9
  by_cases hlt : r < 9223372036854775808
  · have hltb : decide (r < 9223372036854775808) = true := by simpa using hlt
    have he2 : e9 = r := by rw [HEP.out, if_pos hlt]
    have hwr : wrap64 r = r := w64 _ (by omega)
    have HE2 := Lib.hid (HE9.out.trans he2)
    clear hlt hru HEP he2 HE9
    go_wp2_with fail
    refine (refPush_at sl r 0 6 1 hA9 rfl rfl rfl rfl hl hN).mono ?_
    rintro o w7 ⟨rfl, A7, c7, hE7⟩
    have hE8 : Env w0 (boxI b (rav 6 h n r) :: LU { U with F := F9, ml := swL U.ml (2, 0, 0) h y9, A := A7, c := c7, N := roomN (room0 U.N) (U.ql.length + 1), ql := U.ql ++ [(sl, r, 0)] } (boxI O [.int .i64 ok, .int .u64 key, .int .u64 val, .int .i64 lv] :: R)) w7 := by
      have hq : (U.ql ++ [(sl, r, (0 : Int))]).length = U.ql.length + 1 := by simp
      unfold LU
      rw [hq]
      exact hE7
    clear hA9 hE7 rb
    go_wp2_with fail
    refine (rdecide_a hE8).mono ?_
    rintro o w8 ⟨rfl, pc8, hpc, hE9⟩
    go_wp2_with fail
    go_ret
    rw [HE2.out]
    exact ⟨rfl, pc8, F9, A7, c7, hpc, hE9.sub (.cons_cons _ (.cons_cons _ (.cons_cons _ (.cons_cons _ (.cons _ (List.Sublist.refl _))))))⟩
  · have hltb : decide (r < 9223372036854775808) = false := by simpa using hlt
    have he2 : e9 = 0 := by rw [HEP.out, if_neg hlt]
    have HE2 := Lib.hid (HE9.out.trans he2)
    clear hlt hru HEP he2 HE9
    go_wp2_with fail
    refine (refPush_at sl 0 0 6 1 hA9 rfl rfl rfl rfl hl hN).mono ?_
    rintro o w7 ⟨rfl, A7, c7, hE7⟩
    have hE8 : Env w0 (boxI b (rav 6 h n r) :: LU { U with F := F9, ml := swL U.ml (2, 0, 0) h y9, A := A7, c := c7, N := roomN (room0 U.N) (U.ql.length + 1), ql := U.ql ++ [(sl, 0, 0)] } (boxI O [.int .i64 ok, .int .u64 key, .int .u64 val, .int .i64 lv] :: R)) w7 := by
      have hq : (U.ql ++ [(sl, 0, (0 : Int))]).length = U.ql.length + 1 := by simp
      unfold LU
      rw [hq]
      exact hE7
    clear hA9 hE7 rb
    go_wp2_with fail
    refine (rdecide_a hE8).mono ?_
    rintro o w8 ⟨rfl, pc8, hpc, hE9⟩
    go_wp2_with fail
    go_ret
    rw [HE2.out]
    exact ⟨rfl, pc8, F9, A7, c7, hpc, hE9.sub (.cons_cons _ (.cons_cons _ (.cons_cons _ (.cons_cons _ (.cons _ (List.Sublist.refl _))))))⟩
end
end Go.Proofs.YtdknbegcflldjaaGreatDoor
