/- What is proved on the way to the statement, part 8 of 9: contracts of the functions, among other things in memory. -/
import Derived.Test.YtchcdfoncebemaaGreatDoorG7
import Derived.LoopIn
import Derived.Shelf.SlMaps.Clone
import Derived.Ground.SlmcProg
import Derived.Test.YtchcdfoncebemaaGreatDoorProg
import Derived.Maps.RangeWalk
import Derived.LoopTactic
import Derived.OwnWalkIn
import Derived.TacticsInMore
import Derived.LoopNIn
import Derived.Maps.AppendAt
import Derived.Shelf.SlSortCmp.NoneTotal
import Derived.Shelf.SlMaps.Equal
import Derived.Shelf.SlicesG.Cmp
import Derived.Shelf.SlGeneric
import Derived.Ground.SlsfProg
import Derived.Ground.SlmeProg
import Derived.Ground.SlgcProg
import Derived.LoopN
import Derived.RangeFuncNested
import Derived.RangeFuncBound
import Derived.RangeFuncCalls
import Derived.RangeFuncLeaves
import Derived.Sort.MapsRangeIn
import Derived.Laws.IdiomRangeMap
import Derived.Test.YtchcdfoncebemaaGreatDoorTie
import Derived.LaidMore
import Derived.Stop.Joined

/- Searches: the program is awake. -/
namespace Go.Proofs.YtchcdfoncebemaaGreatDoor
open Go.RowKit Go.Maps
set_option maxRecDepth 100000

/-- The list that awake lays. -/
def ns15 : List Nd := [⟨2, 3, 30, false⟩, ⟨1, 4, 0, true⟩, ⟨3, 7, 70, false⟩]
def ml15 : List OneR := layL 0 5 ns15 (4, 0, 0) false (setL [] (1, 0, 0) 5)
/-- So many steps of a search alone. -/
def runS (k key : Int) (vs : Bool) (f : Plc → Int) : Nat → Int × Sm × (Plc → Int)
  | 0 => (0, T0s, f)
  | n + 1 => searchM k key vs (runS k key vs f n).2.1 (runS k key vs f n).2.2
theorem ok15 : ∀ n ∈ ns15, NdOk n := by
  intro n hn
  simp only [ns15, List.mem_cons, List.not_mem_nil, or_false] at hn
  rcases hn with rfl | rfl | rfl <;> simp [NdOk, InU]
theorem words15 : Words (getL ml15) := words_lay (by omega) ns15 _ _ _ ok15 (by unfold Wf In64; simp) ((show Words (getL []) from Words.zero).setL (by unfold Wf In64; simp) (by simp [InU]))
theorem busy15 : ∀ n, n < 16 → (runS 0 7 true (getL ml15) n).1 = 0 := by decide +kernel
theorem done15 : (runS 0 7 true (getL ml15) 16).1 = 1 := by decide +kernel
theorem fin15 : (runS 0 7 true (getL ml15) 16).2.1.L.fd = true ∧ (runS 0 7 true (getL ml15) 16).2.1.L.C = 3 ∧ (runS 0 7 true (getL ml15) 16).2.1.L.V = 70 ∧ (runS 0 7 true (getL ml15) 16).2.1.L.p = (5, 2, 7) := by decide +kernel
theorem runS_ok {k key : Int} {vs : Bool} {f : Plc → Int} {N : Nat} (hk : In64 k) (hw : ∀ n, n ≤ N → ∀ x, InU ((runS k key vs f n).2.2 x)) (h0 : ∀ n, n < N → (runS k key vs f n).1 = 0) : ∀ n, n < N → SmOk (runS k key vs f n).2.1
  | 0, _ => T0s_ok
  | n + 1, hn => search_ok hk (runS_ok hk hw h0 n (by omega)) (hw n (by omega)) (h0 (n + 1) hn)

theorem at_place (v : World) (x y z d : Int) : (Instr.field 72 (.agg #[.int .i64 x, .int .i64 y, .int .i64 z, .int .i64 d]) 0).run Tryz.prog v = .ok (.agg #[.int .i64 x, .int .i64 y, .int .i64 z]) v := by kernel_rfl
set_option maxHeartbeats 6400000 in
theorem awake15 (w : World) (hg : Glo w) : Calls Tryz.prog 7 #[] w fun o w' => o = .returned (.bool true) ∧ Below w.heap.size w w' := by
  have hE := (Env.start w).newU w.heap.size rfl 29
  have hE1 := hE.box (w.heap.size + 1) (by simp) (flatK encN ns15) 87
  have HG := Lib.hid hg
  have HC := Lib.hid (show chkI 2 1000 3 1 1073741824 = 0 by decide)
  clear hg hE
  go_enter Tryz.func7, Tryz.ntmps7
  go_wp2_with fail
  refine (lay_t (R := [boxI (w.heap.size + 1) (flatK encN ns15)]) 0 0 5 (some ⟨w.heap.size + 1, 0, none⟩) 3 ns15 (by omega) (by omega) (by decide) (by decide) (fun F l v hv => Blk.rowK (enc := encN) (k := 4) (fun _ => rfl) (show Blk 0 v (w.heap.size + 1) (flatK encN ns15) from hv.get 1 rfl)) (hE1.perm (List.Perm.swap _ _ _))).mono ?_
  rintro o w1 ⟨rfl, F1, hE2⟩
  replace hE2 : Env w (refI w.heap.size F1 ml15 :: [boxI (w.heap.size + 1) (flatK encN ns15)]) w1 := hE2
  clear hE1
  generalize w.heap.size = m at *
  go_wp2_with fail
  refine (laid_t (by decide) words15 hE2).mono ?_
  rintro o w2 ⟨p, cc, n2, G2, rfl, hn2, hE3⟩
  replace hn2 : n2 ≤ 12 := Nat.le_trans hn2 (by decide)
  have HN2 := Lib.hid hn2
  clear hE2 hn2
  go_wp2_with fail
  refine (conf15 _).mono ?_
  rintro o w3 ⟨rfl, hb⟩
  replace hE3 := hE3.over hb
  clear hb
  go_wp2_with fail
  refine (newYes_c 2 1000 3 1 1073741824 HC.out hE3).mono ?_
  rintro o w4 ⟨c, q, F, rfl, hE4⟩
  clear hE3
  go_wp2_with fail
  refine (newSearch_l c 0 7 true hE4).mono ?_
  rintro o w5 ⟨sb, rfl, hE5⟩
  clear hE4
  have hR : SrchR w [refI m F1 ml15, boxI (m + 1) (flatK encN ns15)] sb 0 7 true (mkS ⟨c, q, p, cc, F, 2⟩ G2 (getL ml15) ⟨0, (n2 : Int), 0, 0, 0⟩ n2 0 0) 0 T0s w5 := SrchR.start hE5
  clear hE5
  go_wp2_with fail
  go_loopw [4, 5, 6] (fun nv sv iv wr => ∃ (j mm : Nat) (G : Nat → Prop) (qc : Cnt) (s : Int) (T : Sm) (f : Plc → Int), nv = .int .i64 j ∧ iv = .int .i64 j ∧ sv = .int .i64 s ∧ j ≤ 16 ∧ mm ≤ 20 + j ∧ Hid (runS 0 7 true (getL ml15) j = (s, T, f)) ∧ Hid (s = 0 → SmOk T) ∧ SrchR w [refI m F1 ml15, boxI (m + 1) (flatK encN ns15)] sb 0 7 true (mkS ⟨c, q, p, cc, F, 2⟩ G f qc mm T.e T.r) s T wr) (fun nv _ _ _ => 40 - (intOf nv).toNat)
  case atStart => exact ⟨0, n2, G2, _, 0, T0s, _, rfl, rfl, rfl, by omega, by have := HN2.out; omega, Lib.hid rfl, Lib.hid (fun _ => T0s_ok), hR⟩
  case round =>
    clear hR
    obtain ⟨j, mm, G, qc, s, T, f, rfl, rfl, rfl, hj, hmm, hrun, hok, hR⟩ := hrel
    by_cases hlt : j < 16
    · have hs : s = 0 := by
        have h1 := busy15 j hlt
        rw [hrun.out] at h1
        exact h1
      subst hs
      have hb1 : decide ((j : Int) < 40) = true := by simp; omega
      have hW := hR.words
      have hT := hok.out rfl
      have hst := search_k hT HG.out (by unfold maxLen; omega) hR
      have HNX : Hid (runS 0 7 true (getL ml15) (j + 1) = searchM 0 7 true T f) := Lib.hid (by show searchM 0 7 true (runS 0 7 true (getL ml15) j).2.1 (runS 0 7 true (getL ml15) j).2.2 = _; rw [hrun.out])
      have HOK : Hid ((searchM 0 7 true T f).1 = 0 → SmOk (searchM 0 7 true T f).2.1) := Lib.hid (search_ok (by unfold In64; omega) hT hW.u)
      have HM : Hid (mM T mm ≤ 20 + (j + 1)) := Lib.hid (by have := mM_le T mm; omega)
      generalize searchM 0 7 true T f = q9 at *
      generalize qcM T f qc = qc9 at *
      generalize mM T mm = mm9 at *
      obtain ⟨s9, T9, f9⟩ := q9
      have HST := Lib.hid hst
      clear hst hR hW hT hok hrun
      go_wp2_with fail
      refine HST.out.mono ?_
      rintro o w6 ⟨rfl, G9, hR9⟩
      go_wp2_with fail
      exact ⟨⟨j + 1, mm9, G9, qc9, s9, T9, f9, by simp, by simp, rfl, by omega, HM.out, HNX, HOK, hR9⟩, by simp [intOf]; omega⟩
    · have hj16 : j = 16 := by omega
      subst hj16
      have hs : s = 1 := by
        have h1 := done15
        rw [hrun.out] at h1
        exact h1
      have hfin := fin15
      rw [hrun.out] at hfin
      subst hs
      obtain ⟨on, ⟨p0, pc, W, X, K, V, C, fd⟩, e, r⟩ := T
      obtain ⟨h1, h2, h3, h4⟩ := hfin
      dsimp only at h1 h2 h3 h4
      subst h1 h2 h3 h4
      obtain ⟨-, -, ⟨-, h0, -⟩ | ⟨-, a, nx, wd, B1, B2, -, hE⟩⟩ := hR
      · exact absurd h0 (by decide)
      clear hok hrun
      have hap := at_place
      have HLK : Hid (∀ v, Calls Tryz.prog 38 #[.int .i64 2, .int .i64 0] v fun e w' => e = .returned (.agg #[.int .i64 5, .int .i64 2, .int .i64 7]) ∧ Below v.heap.size v w') := Lib.hid fun v => by
        have := link_any 2 0 v
        rwa [show wrap64 (7 + 0) = 7 from w64 _ (by omega)] at this
      replace hE : Env w (boxI a (laneC c 0 7 true nx 1 5 2 7 W 3 X wd true 70) :: B1 :: B2 :: LT (mkS ⟨c, q, p, cc, F, 2⟩ G f qc mm e r) [boxI sb (srC c 0 7 true (.pointer (some ⟨a, 0, none⟩))), refI m F1 ml15, boxI (m + 1) (flatK encN ns15)]) wr := hE
      go_wp2_with fail
      refine (lane_g (hE.get 7 rfl)).mono ?_
      rintro o w6 ⟨rfl, rfl⟩
      go_wp2_with (first
        | (with_reducible refine (found_g (hE.get 0 rfl)).mono ?_; rintro o w7 ⟨rfl, rfl⟩)
        | (with_reducible refine (val_g (hE.get 0 rfl)).mono ?_; rintro o w7 ⟨rfl, rfl⟩)
        | (with_reducible refine (who_g (hE.get 0 rfl)).mono ?_; rintro o w7 ⟨rfl, hb⟩; replace hE := hE.over hb; clear hb)
        | (with_reducible refine (at_g (hE.get 0 rfl)).mono ?_; rintro o w7 ⟨rfl, hb⟩; replace hE := hE.over hb; clear hb)
        | (with_reducible refine (HLK.out _).mono ?_; rintro o w7 ⟨rfl, hb⟩; replace hE := hE.over hb; clear hb))
      go_ret
      exact ⟨rfl, hE.below⟩
end Go.Proofs.YtchcdfoncebemaaGreatDoor

/- Shared cells: the contracts of the accesses. -/
namespace Go.Proofs.YtchcdfoncebemaaGreatDoor
open Go.RowKit Go.Maps
set_option maxRecDepth 100000

section
variable {w w' : World} {c n : Nat} {F : Nat → Prop} {f : Plc → Int} {q : Cnt}
end

set_option maxHeartbeats 1600000 in
theorem add_any {c n : Nat} {F : Nat → Prop} {f : Plc → Int} {q : Cnt} {w : World} (a b d v : Int) (hx : Wf (a, b, d)) (hn : n < maxLen) (hC : IsC w c F f q n) :
    Calls Tryz.prog 69 #[.pointer (some ⟨c, 0, none⟩), .agg #[.int .i64 a, .int .i64 b, .int .i64 d], .int .u64 v] w fun e w' => e = .returned (.int .u64 (f (a, b, d))) ∧ ∃ F', IsC w' c F' (upd f (a, b, d) (IntKind.u64.wrap (f (a, b, d) + v))) { q with a := wrap64 (q.a + 1) } (n + 1) ∧ Step F F' w w' := by
  have hFc := hC.at
  obtain ⟨mp, hb, hm, hF⟩ := hC
  have r0 := hb.rule
  have hcl := hb.1
  have r1 := cell_more hcl r0
  have z1 := hb.thaw 5 (by simp [cv])
  have hS0 := ticked hb hm hFc (i := 5) (v := .int .i64 (wrap64 (q.a + 1))) (q1 := { q with a := wrap64 (q.a + 1) }) (by omega) rfl [.int .i64 a, .int .i64 b, .int .i64 d] 58
  unfold cv at r0 r1
  go_enter Tryz.func69, Tryz.ntmps69
  go_wp2_with fail
  generalize (w.setCell ⟨c, 5, none⟩ (.int .i64 (wrap64 (q.a + 1)))).alloc _ = w1 at *
  clear r0 r1 z1
  refine Ord.wp_chain [] (fun w' => At F c w w.heap.size [.int .i64 a, .int .i64 b, .int .i64 d] mp { q with a := wrap64 (q.a + 1) } w' ∧ MapIs w' mp f n) (fun _ _ => True) (by kernel_rfl) (by kernel_rfl) (by kernel_rfl) ⟨hS0.1.drew, hS0.2.drew⟩ trivial (fun hT => ?_)
  have hT9 := Lib.hid hT
  clear hT
  repeat (first
    | (refine Ord.ch_value (v := ?_) hT9.out (by decide) (by rfl) ?_ ?_; rotate_left; (focus (intro w5 hS; have r := hS.1.2.1.rule; unfold cv at r; have r2 := hS.1.2.2.rule; have hl := hS.2.look hx; simp only [pv] at hl; go_simp <;> with_reducible rfl)); (try simp only [Act.put, List.setIfInBounds_toArray, List.set_cons_zero, List.set_cons_succ]))
    | (refine Ord.ch_off hT9.out (by decide) (by rfl) ?_; (try simp only [Act.put, List.setIfInBounds_toArray, List.set_cons_zero, List.set_cons_succ])))
  refine Ord.InText.nil fun w5 hS => ?_
  clear hT9
  obtain ⟨hA9, hM9⟩ := Ord.chain_end hS
  clear hS
  have r2 := hA9.1.2.2.rule
  have HX := Lib.hid hx
  have hu : InU (IntKind.u64.wrap (f (a, b, d) + v)) := by rw [IntKind.wrap_u64]; unfold InU; omega
  clear hx
  go_wp2_with fail
  refine (put_any a b d (IntKind.u64.wrap (f (a, b, d) + v)) HX.out hu hn (.of hA9.1 hA9.2 hF)).mono ?_
  rintro e w2 ⟨rfl, F', hC2, hs2⟩
  clear r2
  go_wp2
  go_ret
  exact ⟨rfl, F', hC2, (Step.mk hA9.1.1 fun k h => .inl h).trans hs2⟩

end Go.Proofs.YtchcdfoncebemaaGreatDoor

/- The plain world: contracts of its accesses: each is the cells' own, among whatever other things there are. -/
namespace Go.Proofs.YtchcdfoncebemaaGreatDoor
open Go.RowKit Go.Maps
set_option maxRecDepth 100000

section
variable {w0 w : World} {L : List Item} {p c n : Nat} {F : Nat → Prop} {f : Plc → Int} {q : Cnt}

set_option maxHeartbeats 1600000 in
theorem add_w (x y z d v : Int) (hx : Wf (x, y, z)) (hn : n < maxLen) (i j : Nat) (hij : j ≠ i) (hE : Env w0 L w) (hi : L[i]? = some (wbox p c)) (hj : L[j]? = some (cellI c F f q n)) :
    Calls Tryz.prog 40 #[.pointer (some ⟨p, 0, none⟩), .agg #[.int .i64 x, .int .i64 y, .int .i64 z, .int .i64 d], .int .u64 v] w fun e w' => e = .returned (.int .u64 (f (x, y, z))) ∧ ∃ F', Env w0 (L.set j (cellI c F' (upd f (x, y, z) (IntKind.u64.wrap (f (x, y, z) + v))) { q with a := wrap64 (q.a + 1) } (n + 1))) w' := by
  replace hE := (hE.box w.heap.size rfl [.int .i64 x, .int .i64 y, .int .i64 z, .int .i64 d] 72)
  have hi' : (boxI (w.heap.size) [.int .i64 x, .int .i64 y, .int .i64 z, .int .i64 d] :: L)[i + 1]? = some (wbox p c) := hi
  have hj' : (boxI (w.heap.size) [.int .i64 x, .int .i64 y, .int .i64 z, .int .i64 d] :: L)[j + 1]? = some (cellI c F f q n) := hj
  have HX := Lib.hid hx
  clear hx
  go_enter Tryz.func40, Tryz.ntmps40
  go_wp2_with fail
  generalize w.heap.size = X at *
  refine Ord.wp_chain [5] (fun w' => Blk 0 w' X [.int .i64 x, .int .i64 y, .int .i64 z, .int .i64 d] ∧ Blk 0 w' p [.pointer (some ⟨c, 0, none⟩)]) (Stage [Env w0 (boxI X [.int .i64 x, .int .i64 y, .int .i64 z, .int .i64 d] :: L), fun w' => ∃ F', Env w0 (boxI X [.int .i64 x, .int .i64 y, .int .i64 z, .int .i64 d] :: L.set j (cellI c F' (upd f (x, y, z) (IntKind.u64.wrap (f (x, y, z) + v))) { q with a := wrap64 (q.a + 1) } (n + 1))) w']) (by kernel_rfl) (by kernel_rfl) (by kernel_rfl) ⟨hE.drew.get 0 rfl, hE.drew.get (i + 1) hi'⟩ ⟨_, rfl, hE.drew⟩ (fun hT => ?_)
  have hT9 := Lib.hid hT
  clear hT
  repeat (first
    | (refine Ord.ch_value (v := ?_) hT9.out (by decide) (by rfl) ?_ ?_; rotate_left; (focus (intro w5 hS; have r0 := hS.1.rule; go_simp <;> with_reducible rfl)); (try simp only [Act.put, List.setIfInBounds_toArray, List.set_cons_zero, List.set_cons_succ]))
    | (refine Ord.ch_off hT9.out (by decide) (by rfl) ?_; (try simp only [Act.put, List.setIfInBounds_toArray, List.set_cons_zero, List.set_cons_succ]))
    | (refine Ord.ch_call (v := ?_) (f := ?_) (args := ?_) hT9.out (by decide) (by rfl) ?_ ?_ ?_; rotate_left 3; (focus (intro w5 hS; have r0 := hS.1.rule; go_simp; constructor <;> with_reducible rfl)); (focus (intro w5 hS; (first | (with_reducible refine (kept_any hS.2).mono ?_; rintro e w6 ⟨rfl, rfl⟩; constructor; with_reducible rfl; exact ⟨hS, fun _ h => h⟩)))); (try simp only [Act.put, List.setIfInBounds_toArray, List.set_cons_zero, List.set_cons_succ])))
  refine Ord.ch_turn (v := .int .u64 (f (x, y, z))) 0 hT9.out rfl (by decide) (Or.inl rfl) (by rfl) ?_ ?_
  · rintro w5 hC5 ⟨P5, hP5, hA5⟩
    cases hP5
    go_simp
    simp only [Ord.LandsIn]
    refine (add_any x y z v HX.out hn (hA5.cell (j + 1) hj')).mono ?_
    rintro e w6 ⟨rfl, F6, hC, hs⟩
    have hE6 := hA5.turn (j + 1) hj' hC hs
    exact ⟨rfl, ⟨hE6.get 0 rfl, hE6.get (i + 1) (wset (j := j + 1) (by omega) hi')⟩, _, rfl, F6, hE6⟩
  (try simp only [Act.put, List.setIfInBounds_toArray, List.set_cons_zero, List.set_cons_succ])
  repeat (first
    | (refine Ord.ch_value (v := ?_) hT9.out (by decide) (by rfl) ?_ ?_; rotate_left; (focus (intro w5 hS; skip; go_simp <;> with_reducible rfl)); (try simp only [Act.put, List.setIfInBounds_toArray, List.set_cons_zero, List.set_cons_succ]))
    | (refine Ord.ch_off hT9.out (by decide) (by rfl) ?_; (try simp only [Act.put, List.setIfInBounds_toArray, List.set_cons_zero, List.set_cons_succ])))
  refine Ord.InText.nil fun w5 hS => ?_
  clear hT9
  obtain ⟨hC9, hA9⟩ := Ord.chain_end hS
  clear hS
  obtain ⟨P9, hP9, hA9⟩ := hA9
  cases hP9
  obtain ⟨F9, hA9⟩ := hA9
  clear hC9
  go_wp2
  go_ret
  exact ⟨rfl, F9, hA9.sub (.cons _ (List.Sublist.refl _))⟩

end
end Go.Proofs.YtchcdfoncebemaaGreatDoor

/- Contracts of layer 4: Peek, Swap. -/
namespace Go.Proofs.YtchcdfoncebemaaGreatDoor
open Go.RowKit Go.Maps
set_option maxRecDepth 100000

set_option maxHeartbeats 800000 in
theorem peek_any {c n : Nat} {F : Nat → Prop} {f : Plc → Int} {q : Cnt} {w : World} (a b d : Int) (hx : Wf (a, b, d)) (hC : IsC w c F f q n) :
    Calls Tryz.prog 67 #[.pointer (some ⟨c, 0, none⟩), .agg #[.int .i64 a, .int .i64 b, .int .i64 d]] w fun e w' => e = .returned (.int .u64 (f (a, b, d))) ∧ Below w.heap.size w w' := by
  obtain ⟨mp, hb, hm, hF⟩ := hC
  go_enter Tryz.func67, Tryz.ntmps67
  go_wp2_with fail
  refine Ord.wp_chain [] (fun w' => (Below w.heap.size w w' ∧ Blk 0 w' c (cv mp q) ∧ Blk 0 w' w.heap.size [.int .i64 a, .int .i64 b, .int .i64 d]) ∧ MapIs w' mp f n) (fun _ _ => True) (by kernel_rfl) (by kernel_rfl) (by kernel_rfl) ⟨⟨((Below.refl _ _).alloc (Nat.le_refl _) _).drew, (hb.more _).drew, (Blk.new 0 w _ _).drew⟩, (hm.more _).drew⟩ trivial (fun hT => ?_)
  have hT9 := Lib.hid hT
  clear hT
  repeat (first
    | (refine Ord.ch_value (v := ?_) hT9.out (by decide) (by rfl) ?_ ?_; rotate_left; (focus (intro w5 hS; have r := hS.1.2.1.rule; unfold cv at r; have r2 := hS.1.2.2.rule; have hl := hS.2.look hx; simp only [pv] at hl; go_simp <;> with_reducible rfl)); (try simp only [Act.put, List.setIfInBounds_toArray, List.set_cons_zero, List.set_cons_succ]))
    | (refine Ord.ch_off hT9.out (by decide) (by rfl) ?_; (try simp only [Act.put, List.setIfInBounds_toArray, List.set_cons_zero, List.set_cons_succ])))
  refine Ord.InText.nil fun w5 hS => ?_
  clear hT9
  obtain ⟨hA9, hM9⟩ := Ord.chain_end hS
  clear hS
  go_wp2
  go_ret
  exact ⟨rfl, hA9.1.1⟩

end Go.Proofs.YtchcdfoncebemaaGreatDoor

/- The plain world: contracts of Swap, Peek. -/
namespace Go.Proofs.YtchcdfoncebemaaGreatDoor
open Go.RowKit Go.Maps
set_option maxRecDepth 100000

section
variable {w0 w : World} {L : List Item} {p c n : Nat} {F : Nat → Prop} {f : Plc → Int} {q : Cnt}
set_option maxHeartbeats 1600000 in
theorem peek_w (x y z : Int) (hx : Wf (x, y, z)) (i j : Nat) (hE : Env w0 L w) (hi : L[i]? = some (wbox p c)) (hj : L[j]? = some (cellI c F f q n)) :
    Calls Tryz.prog 36 #[.pointer (some ⟨p, 0, none⟩), .agg #[.int .i64 x, .int .i64 y, .int .i64 z]] w fun e w' => e = .returned (.int .u64 (f (x, y, z))) ∧ Below w.heap.size w w' := by
  have hb := (Below.refl w.heap.size w).alloc (Nat.le_refl _) (.cells #[.int .i64 x, .int .i64 y, .int .i64 z] 58)
  replace hE := hE.box w.heap.size rfl [.int .i64 x, .int .i64 y, .int .i64 z] 58
  have HX := Lib.hid hx
  clear hx
  go_enter Tryz.func36, Tryz.ntmps36
  go_wp2_with fail
  obtain ⟨X, hXw⟩ : ∃ X, X = w.heap.size := ⟨_, rfl⟩
  rw [← hXw] at hE ⊢
  have HXW := Lib.hid hXw
  clear hXw
  have hi1 : (boxI X [.int .i64 x, .int .i64 y, .int .i64 z] :: L)[i + 1]? = some (wbox p c) := hi
  have hj1 : (boxI X [.int .i64 x, .int .i64 y, .int .i64 z] :: L)[j + 1]? = some (cellI c F f q n) := hj
  refine Ord.wp_chain [] (fun w' => Env w0 (boxI X [.int .i64 x, .int .i64 y, .int .i64 z] :: L) w' ∧ Below w.heap.size w w') (fun _ _ => True) (by kernel_rfl) (by kernel_rfl) (by kernel_rfl) ⟨hE.drew, hb.drew⟩ trivial (fun hT => ?_)
  have hT9 := Lib.hid hT
  clear hT
  repeat (first
    | (refine Ord.ch_value (v := ?_) hT9.out (by decide) (by rfl) ?_ ?_; rotate_left; (focus (intro w5 hS; have r := hS.1.rule 0 rfl; go_simp <;> with_reducible rfl)); (try simp only [Act.put, List.setIfInBounds_toArray, List.set_cons_zero, List.set_cons_succ]))
    | (refine Ord.ch_off hT9.out (by decide) (by rfl) ?_; (try simp only [Act.put, List.setIfInBounds_toArray, List.set_cons_zero, List.set_cons_succ]))
    | (refine Ord.ch_call (v := ?_) (f := ?_) (args := ?_) hT9.out (by decide) (by rfl) ?_ ?_ ?_; rotate_left 3; (focus (intro w5 hS; have r := hS.1.rule 0 rfl; go_simp; constructor <;> with_reducible rfl)); (focus (intro w5 hS; (first | (with_reducible refine (kept_any (hS.1.wblk (i + 1) hi1)).mono ?_; rintro e w6 ⟨rfl, rfl⟩; constructor; with_reducible rfl; exact ⟨hS, fun _ h => h⟩) | (with_reducible refine (peek_any x y z HX.out (hS.1.cell (j + 1) hj1)).mono ?_; rintro e w6 ⟨rfl, hb6⟩; constructor; with_reducible rfl; exact ⟨⟨hS.1.over hb6, hS.2.trans (hb6.mono hS.2.size)⟩, fun _ h => h⟩)))); (try simp only [Act.put, List.setIfInBounds_toArray, List.set_cons_zero, List.set_cons_succ])))
  refine Ord.InText.nil fun w5 hS => ?_
  clear hT9
  obtain ⟨hC9, hA9⟩ := Ord.chain_end hS
  clear hS
  go_wp2
  go_ret
  exact ⟨rfl, hC9.2⟩
end
end Go.Proofs.YtchcdfoncebemaaGreatDoor

/- Places whose words aren't 0. -/
namespace Go.Proofs.YtchcdfoncebemaaGreatDoor

theorem pv_inj {x y : Plc} (h : pv x = pv y) : x = y := by
  obtain ⟨a, b, c⟩ := x
  obtain ⟨a', b', c'⟩ := y
  simp [pv] at h
  simp [h]
/-- ss are the places whose words aren't 0, each once. -/
def OpsF (f : Plc → Int) (ss : List Plc) : Prop := ss.Nodup ∧ ∀ x, x ∈ ss ↔ f x ≠ 0
end Go.Proofs.YtchcdfoncebemaaGreatDoor

/-
  DERIVED: THE SHELF's CONTRACTS AT THIS DUMP, IN PLAIN WORDS (tools/lay-plain.mjs out of 'YtchcdfoncebemaaGreatDoorShelfC.lean', which tools/lay-shelf.mjs wrote): THE SAME DECLARATIONS UNDER THE SAME NAMES: 'import', 'namespace', 'open', 'def', 'theorem' AND NOTHING ELSE: no command of the shelf's: FOR A HAND-IN. Each laying: the table of numbers ('.._ren') and one theorem, a field a fact of the dump's own or the kernel's comparison; each contract: ONE APPLICATION.
-/
namespace Go.Proofs
open Go.Shelf
def Tryz.cloneWords_ren : Go.Shelf.Ren := ⟨fun | 5 => 95 | 7 => 108 | n => n, fun | 23 => 143 | 25 => 58 | 3 => 23 | 4 => 4 | 20 => 20 | n => n, fun | n => n⟩
theorem Tryz.cloneWords : Go.Proofs.SlLaysW.n5 Tryz.prog Tryz.cloneWords_ren := {
  mixed := by kernel_rfl
  f5 := ⟨Tryz.f95.name, by decide, Tryz.func95.trans (congrArg some (by kernel_rfl))⟩
  f7 := Tryz.func108.trans (congrArg some (by kernel_rfl))
  t4 := Tryz.underlying4
  a4 := Tryz.isAgg4
  z4 := Tryz.sizeOf4
  v4 := Tryz.zeroValue4
  t20 := Tryz.underlying20
  a20 := Tryz.isAgg20
  z20 := Tryz.sizeOf20
  v20 := Tryz.zeroValue20
  t23 := Tryz.underlying143
  a23 := Tryz.isAgg143
  z23 := Tryz.sizeOf143
  v23 := Tryz.zeroValue143 }
end Go.Proofs

/- Shared cells: a copy; whether two have the same words. -/
namespace Go.Proofs.YtchcdfoncebemaaGreatDoor
open Go.RowKit Go.Maps Go.Shelf
set_option maxRecDepth 100000

/-! ### copies -/
theorem clone_any {mp : Option Nat} {f : Plc → Int} {n : Nat} {w : World} (hM : MapIs w mp f n) :
    Calls Tryz.prog 95 #[.map mp] w fun e w' => ∃ mp', e = .returned (.map mp') ∧ MapIs w' mp' f n ∧ (∀ b, mp' = some b → w.heap.size ≤ b) ∧ Below w.heap.size w w' := by
  rcases hM with ⟨rfl, rfl⟩ | ⟨b, D, rfl, ho, hr⟩
  · refine Calls.mono (show Calls Tryz.prog 95 #[.map none] w _ from AnyW.maps_Clone_nil Tryz.cloneWords w) ?_
    rintro e w' ⟨rfl, rfl⟩
    exact ⟨none, rfl, .inl ⟨rfl, rfl⟩, fun b e => by (cases e), Below.refl _ _⟩
  · refine Calls.mono (show Calls Tryz.prog 95 #[.map (some b)] w _ from AnyW.maps_Clone_owns Tryz.cloneWords _ _ b n D w ho) ?_
    rintro e w' ⟨rfl, h1, _, h3⟩
    exact ⟨_, rfl, .inr ⟨_, D, rfl, h1, hr⟩, fun b e => by (cases e; exact Nat.le_refl _), h3⟩

set_option maxHeartbeats 800000 in
theorem copy_any {c n : Nat} {F : Nat → Prop} {f : Plc → Int} {q : Cnt} {w : World} (hC : IsC w c F f q n) :
    Calls Tryz.prog 80 #[.pointer (some ⟨c, 0, none⟩)] w fun e w' => ∃ c' F', e = .returned (.pointer (some ⟨c', 0, none⟩)) ∧ IsC w' c' F' f ⟨0, 0, 0, 0, 0⟩ n ∧ (∀ k, F' k → w.heap.size ≤ k) ∧ Below w.heap.size w w' := by
  obtain ⟨mp, hb, hm, hF⟩ := hC
  have r := hb.rule
  unfold cv at r
  have hc := clone_any hm
  clear hm
  go_enter Tryz.func80, Tryz.ntmps80
  go_wp2_with fail
  refine hc.mono ?_
  rintro e w1 ⟨mp', rfl, hM, hnew, hB⟩
  clear hc r
  go_wp2
  go_ret
  have hs := hB.size
  refine ⟨w1.heap.size, fun k => k = w1.heap.size ∨ mp' = some k, rfl, ⟨mp', Blk.new 0 w1 (cv mp' ⟨0, 0, 0, 0, 0⟩) 145, hM.more _, fun k => Iff.rfl⟩, fun k hk => ?_, hB.alloc hs _⟩
  rcases hk with rfl | e
  · exact hs
  · exact hnew k e

/-! ### how many words there are -/
theorem has_key {w : World} {b n : Nat} {D : DataW Unit} (h : w.ownsMap Tryz.prog 58 (plainElem (H := Unit) Tryz.prog 23) b n D) : ∃ es, D = .map es ∧ es.Pairwise (fun p q => p.1 ≠ q.1) ∧ ∀ p ∈ es, ∃ x, Wf x ∧ p.1 = kl x := by
  obtain ⟨es, clock, hb, Ft, hs, rfl⟩ := h
  refine ⟨_, rfl, ((WideShapes.sorted_perm _).pairwise_iff (fun {_ _} hne => Ne.symm hne)).2 (Maps.fit_apart keyPlace Ft), fun p hp => ?_⟩
  obtain ⟨x, hx, rfl⟩ := List.mem_map.1 (mem_sorted.1 hp)
  obtain ⟨y, hy⟩ := Ft.reads x hx
  rw [WideElems.rg_of hy]
  obtain ⟨z, hz, _, he⟩ := key_inv (WideElems.rd_key hy)
  exact ⟨z, hz, he⟩
theorem list_keys : ∀ (es : List (Lit × DataW Unit)), (∀ p ∈ es, ∃ x, Wf x ∧ p.1 = kl x) → ∃ ss : List Plc, ss.map kl = es.map (·.1) ∧ ∀ x ∈ ss, Wf x
  | [], _ => ⟨[], rfl, by simp⟩
  | p :: es, h => by
    obtain ⟨ss, h1, h2⟩ := list_keys es fun q hq => h q (by simp [hq])
    obtain ⟨x, hx, he⟩ := h p (by simp)
    exact ⟨x :: ss, by simp [h1, he], fun y hy => by
      rcases List.mem_cons.1 hy with rfl | hy
      · exact hx
      · exact h2 y hy⟩
/-- The number of entries. -/
def msz (mp : Option Nat) (w : World) (N : Nat) : Prop := ∀ ty, (Builtin.len_ #[143] ty #[.map mp]).run Tryz.prog w = .ok (.int .i64 (N : Nat)) w
theorem MapIs.count {w : World} {mp : Option Nat} {f : Plc → Int} {n : Nat} (h : MapIs w mp f n) : ∃ ss, OpsF f ss ∧ msz mp w ss.length := by
  rcases h with ⟨rfl, rfl⟩ | ⟨b, D, rfl, ho, hr⟩
  · exact ⟨[], ⟨List.nodup_nil, by simp⟩, fun ty => Maps.len_nil Tryz.underlying143 ty⟩
  · obtain ⟨es, rfl, hp, hk⟩ := has_key ho
    obtain ⟨ss, h1, h2⟩ := list_keys es hk
    have hlen : ss.length = es.length := by have := congrArg List.length h1; simpa using this
    refine ⟨ss, ⟨?_, fun x => ?_⟩, fun ty => ?_⟩
    · have hn : (ss.map kl).Pairwise (· ≠ ·) := by rw [h1, List.pairwise_map]; exact hp
      rw [List.pairwise_map] at hn
      exact hn.imp fun hne e => hne (by rw [e])
    · by_cases hw : Wf x
      · have h3 := hr.has' x hw
        rw [Maps.has_eq] at h3
        have h4 : (x ∈ ss) ↔ (es.any fun p => p.1.sameKey (kl x)) = true := by
          rw [List.any_eq_true]
          constructor
          · intro hx
            have : kl x ∈ es.map (·.1) := by rw [← h1]; exact List.mem_map.2 ⟨x, hx, rfl⟩
            obtain ⟨p, hp1, hp2⟩ := List.mem_map.1 this
            exact ⟨p, hp1, by rw [hp2]; exact WideAt.sameKey_self (kl_key x)⟩
          · rintro ⟨p, hp1, hp2⟩
            have : kl x ∈ ss.map kl := by rw [h1]; exact List.mem_map.2 ⟨p, hp1, WideAt.sameKey_eq hp2⟩
            obtain ⟨y, hy, he⟩ := List.mem_map.1 this
            rwa [← kl_inj (h2 y hy) hw he]
        rw [h4, h3]; simp
      · constructor
        · intro hx; exact absurd (h2 x hx) hw
        · intro hx; exact absurd (hr.words.out x hw) hx
    · rw [hlen]
      have := ho.len Tryz.underlying143 ty
      rwa [Maps.size_eq] at this

theorem all_in : ∀ (l m : List Plc), m.Nodup → (∀ x ∈ l, x ∈ m) → l.Nodup → m.length ≤ l.length → ∀ x ∈ m, x ∈ l
  | [], m, _, _, _, h, x, hx => by
    have : m = [] := List.eq_nil_of_length_eq_zero (by simpa using h)
    subst this
    cases hx
  | a :: l, m, hm, hs, hl, h, x, hx => by
    by_cases e : x = a
    · subst e; simp
    · have ham : a ∈ m := hs a (by simp)
      obtain ⟨h1, h2⟩ := List.nodup_cons.1 hl
      have := all_in l (m.erase a) (hm.erase a) (fun y hy => by
        have hya : y ≠ a := fun e => h1 (e ▸ hy)
        exact (List.mem_erase_of_ne hya).2 (hs y (by simp [hy]))) h2 (by rw [List.length_erase_of_mem ham]; simp at h; omega) x ((List.mem_erase_of_ne e).2 hx)
      simp [this]
theorem same_len {f : Plc → Int} {ss tt : List Plc} (h : OpsF f ss) (k : OpsF f tt) : ss.length = tt.length :=
  ((List.perm_ext_iff_of_nodup h.1 k.1).2 fun x => (h.2 x).trans (k.2 x).symm).length_eq
theorem same_of {f g : Plc → Int} {ss tt : List Plc} (h : OpsF f ss) (k : OpsF g tt) (hl : ss.length = tt.length) (hfg : ∀ x, f x ≠ 0 → g x = f x) : f = g := by
  have hsub : ∀ x ∈ ss, x ∈ tt := fun x hx => (k.2 x).2 (by have h1 := (h.2 x).1 hx; rw [hfg x h1]; exact h1)
  have hall := all_in ss tt k.1 hsub h.1 (by omega)
  funext x
  by_cases e : f x = 0
  · rw [e]
    by_cases e2 : g x = 0
    · exact e2.symm
    · exact absurd e ((h.2 x).1 (hall x ((k.2 x).2 e2)))
  · exact (hfg x e).symm
theorem MapIs.look2 {w : World} {mp : Option Nat} {f : Plc → Int} {n : Nat} (h : MapIs w mp f n) {x : Plc} (hx : Wf x) : (Instr.lookup 143 (.map mp) (pv x) true).run Tryz.prog w = .ok (.tuple #[.int .u64 (f x), .bool (decide (f x ≠ 0))]) w := by
  rcases h with ⟨rfl, rfl⟩ | ⟨b, D, rfl, ho, hr⟩
  · have := Maps.look_nil (w := w) true keyPlace Tryz.underlying143 (zeroWord w) (key_mk x hx)
    simpa using this
  · obtain ⟨v, ps, hrun, hv⟩ := ho.look_ok keyPlace Tryz.underlying143 (zeroWord w) (zd := wd 0) (zp := []) (plainElem_int Tryz.underlying23 (by decide)) (key_mk x hx)
    rw [hr.at' x hx] at hv
    obtain ⟨a, rfl, ha, _⟩ := plainElem_int_inv Tryz.underlying23 hv
    have : f x = a := by
      have := congrArg Prod.fst ha
      simpa [wd] using this
    rw [hrun, hr.has' x hx, this]
end Go.Proofs.YtchcdfoncebemaaGreatDoor

/- The plain world: a copy of its cells. -/
namespace Go.Proofs.YtchcdfoncebemaaGreatDoor
open Go.RowKit Go.Maps
set_option maxRecDepth 100000

theorem cells_w {w0 w : World} {L : List Item} {p c n : Nat} {F : Nat → Prop} {f : Plc → Int} {q : Cnt} (i j : Nat) (hE : Env w0 L w) (hi : L[i]? = some (wbox p c)) (hj : L[j]? = some (cellI c F f q n)) :
    Calls Tryz.prog 56 #[.pointer (some ⟨p, 0, none⟩)] w fun e w' => ∃ c' F', e = .returned (.pointer (some ⟨c', 0, none⟩)) ∧ Env w0 (cellI c' F' f ⟨0, 0, 0, 0, 0⟩ n :: L) w' := by
  go_enter Tryz.func56, Tryz.ntmps56
  go_wp2_with fail
  refine (kept_any (hE.wblk i hi)).mono ?_
  rintro e w1 ⟨rfl, rfl⟩
  go_wp2_with fail
  refine (copy_any (hE.cell j hj)).mono ?_
  rintro e w2 ⟨c', F', rfl, hC, hF, hb⟩
  go_wp2
  go_ret
  exact ⟨c', F', rfl, hE.made2 hC hF hb⟩
end Go.Proofs.YtchcdfoncebemaaGreatDoor

/-
  DERIVED: THE SHELF's CONTRACTS AT THIS DUMP, IN PLAIN WORDS (tools/lay-plain.mjs out of 'YtchcdfoncebemaaGreatDoorShelfD.lean', which tools/lay-shelf.mjs wrote): THE SAME DECLARATIONS UNDER THE SAME NAMES: 'import', 'namespace', 'open', 'def', 'theorem' AND NOTHING ELSE: no command of the shelf's: FOR A HAND-IN. Each laying: the table of numbers ('.._ren') and one theorem, a field a fact of the dump's own or the kernel's comparison; each contract: ONE APPLICATION.
-/
namespace Go.Proofs
open Go.Shelf
def Tryz.sortPlaces_ren : Go.Shelf.Ren := ⟨fun | 6 => 97 | 15 => 111 | 14 => 110 | 28 => 124 | 29 => 125 | 20 => 116 | 21 => 117 | 22 => 118 | 23 => 119 | 24 => 120 | 25 => 121 | 26 => 122 | 27 => 123 | 46 => 128 | 47 => 129 | 48 => 130 | 49 => 131 | 50 => 132 | 57 => 135 | n => n, fun | 22 => 102 | 24 => 58 | 25 => 150 | 3 => 3 | 39 => 30 | 0 => 0 | 53 => 186 | 55 => 23 | 4 => 4 | 46 => 180 | 45 => 179 | 50 => 119 | 5 => 5 | 9 => 9 | 66 => 187 | 70 => 190 | 76 => 192 | 77 => 193 | n => n, fun | n => n⟩
theorem Tryz.sortPlaces : Go.Proofs.SlLaysF0.n6 Tryz.prog Tryz.sortPlaces_ren := {
  mixed := by kernel_rfl
  f6 := ⟨Tryz.f97.name, by decide, Tryz.func97.trans (congrArg some (by kernel_rfl))⟩
  f14 := ⟨Tryz.f110.name, by decide, Tryz.func110.trans (congrArg some (by kernel_rfl))⟩
  f15 := Tryz.func111.trans (congrArg some (by kernel_rfl))
  f20 := ⟨Tryz.f116.name, by decide, Tryz.func116.trans (congrArg some (by kernel_rfl))⟩
  f21 := ⟨Tryz.f117.name, by decide, Tryz.func117.trans (congrArg some (by kernel_rfl))⟩
  f22 := ⟨Tryz.f118.name, by decide, Tryz.func118.trans (congrArg some (by kernel_rfl))⟩
  f23 := ⟨Tryz.f119.name, by decide, Tryz.func119.trans (congrArg some (by kernel_rfl))⟩
  f24 := ⟨Tryz.f120.name, by decide, Tryz.func120.trans (congrArg some (by kernel_rfl))⟩
  f25 := ⟨Tryz.f121.name, by decide, Tryz.func121.trans (congrArg some (by kernel_rfl))⟩
  f26 := ⟨Tryz.f122.name, by decide, Tryz.func122.trans (congrArg some (by kernel_rfl))⟩
  f27 := ⟨Tryz.f123.name, by decide, Tryz.func123.trans (congrArg some (by kernel_rfl))⟩
  f28 := Tryz.func124.trans (congrArg some (by kernel_rfl))
  f29 := Tryz.func125.trans (congrArg some (by kernel_rfl))
  f46 := ⟨Tryz.f128.name, by decide, Tryz.func128.trans (congrArg some (by kernel_rfl))⟩
  f47 := Tryz.func129.trans (congrArg some (by kernel_rfl))
  f48 := Tryz.func130.trans (congrArg some (by kernel_rfl))
  f49 := ⟨Tryz.f131.name, by decide, Tryz.func131.trans (congrArg some (by kernel_rfl))⟩
  f50 := ⟨Tryz.f132.name, by decide, Tryz.func132.trans (congrArg some (by kernel_rfl))⟩
  f57 := ⟨Tryz.f135.name, by decide, Tryz.func135.trans (congrArg some (by kernel_rfl))⟩
  t0 := Tryz.underlying0
  a0 := Tryz.isAgg0
  z0 := Tryz.sizeOf0
  v0 := Tryz.zeroValue0
  t3 := Tryz.underlying3
  a3 := Tryz.isAgg3
  z3 := Tryz.sizeOf3
  v3 := Tryz.zeroValue3
  t4 := Tryz.underlying4
  a4 := Tryz.isAgg4
  z4 := Tryz.sizeOf4
  v4 := Tryz.zeroValue4
  t5 := Tryz.underlying5
  a5 := Tryz.isAgg5
  z5 := Tryz.sizeOf5
  v5 := Tryz.zeroValue5
  t9 := Tryz.underlying9
  a9 := Tryz.isAgg9
  z9 := Tryz.sizeOf9
  v9 := Tryz.zeroValue9
  t22 := Tryz.underlying102
  a22 := Tryz.isAgg102
  z22 := Tryz.sizeOf102
  v22 := Tryz.zeroValue102
  t25 := Tryz.underlying150
  a25 := Tryz.isAgg150
  z25 := Tryz.sizeOf150
  v25 := Tryz.zeroValue150
  t39 := Tryz.underlying30
  a39 := Tryz.isAgg30
  z39 := Tryz.sizeOf30
  v39 := Tryz.zeroValue30
  t45 := Tryz.underlying179
  a45 := Tryz.isAgg179
  z45 := Tryz.sizeOf179
  v45 := Tryz.zeroValue179
  t46 := Tryz.underlying180
  a46 := Tryz.isAgg180
  z46 := Tryz.sizeOf180
  v46 := Tryz.zeroValue180
  t50 := Tryz.underlying119
  a50 := Tryz.isAgg119
  z50 := Tryz.sizeOf119
  v50 := Tryz.zeroValue119
  t53 := Tryz.underlying186
  a53 := Tryz.isAgg186
  z53 := Tryz.sizeOf186
  v53 := Tryz.zeroValue186
  t55 := Tryz.underlying23
  a55 := Tryz.isAgg23
  z55 := Tryz.sizeOf23
  v55 := Tryz.zeroValue23
  t66 := Tryz.underlying187
  a66 := Tryz.isAgg187
  z66 := Tryz.sizeOf187
  v66 := Tryz.zeroValue187
  t70 := Tryz.underlying190
  a70 := Tryz.isAgg190
  z70 := Tryz.sizeOf190
  v70 := Tryz.zeroValue190
  t76 := Tryz.underlying192
  a76 := Tryz.isAgg192
  z76 := Tryz.sizeOf192
  v76 := Tryz.zeroValue192
  t77 := Tryz.underlying193
  a77 := Tryz.isAgg193
  z77 := Tryz.sizeOf193
  v77 := Tryz.zeroValue193 }
def Tryz.compareInt_ren : Go.Shelf.Ren := ⟨fun | 5 => 100 | 7 => 112 | n => n, fun | 22 => 3 | 3 => 3 | 4 => 4 | n => n, fun | n => n⟩
theorem Tryz.compareInt : Go.Proofs.SlLaysC2.n5 Tryz.prog Tryz.compareInt_ren := {
  mixed := by kernel_rfl
  f5 := ⟨Tryz.f100.name, by decide, Tryz.func100.trans (congrArg some (by kernel_rfl))⟩
  f7 := ⟨Tryz.f112.name, by decide, Tryz.func112.trans (congrArg some (by kernel_rfl))⟩
  t3 := Tryz.underlying3
  a3 := Tryz.isAgg3
  z3 := Tryz.sizeOf3
  v3 := Tryz.zeroValue3
  t4 := Tryz.underlying4
  a4 := Tryz.isAgg4
  z4 := Tryz.sizeOf4
  v4 := Tryz.zeroValue4
  t22 := Tryz.underlying3
  a22 := Tryz.isAgg3
  z22 := Tryz.sizeOf3
  v22 := Tryz.zeroValue3 }
end Go.Proofs

/- The order of places; the library's sort at it. -/
namespace Go.Proofs.YtchcdfoncebemaaGreatDoor
open Go.RowKit Go.Maps Go.Shelf Go.Sort
set_option maxRecDepth 100000

theorem compareInt_any (x y : Int) (w : World) : Calls Tryz.prog 100 #[.int .i64 x, .int .i64 y] w fun e w' => e = .returned (.int .i64 (Lib.compareInt x y)) ∧ w' = w := AnyG.cmp_Compare_int Tryz.compareInt x y w

set_option maxHeartbeats 1600000 in
theorem or_any (a b c : Int) (N : Nat) (w : World) (h : ∀ i, w.cell? ⟨N, i, none⟩ = [Value.int .i64 a, .int .i64 b, .int .i64 c][i]?) :
    Calls Tryz.prog 99 #[.slice (some ⟨N, 0, none⟩) 3 3] w fun e w' => e = .returned (.int .i64 (orI a b c)) ∧ w' = w := by
  have e1 : (a != 0) = true ∨ ((a != 0) = false ∧ (b != 0) = true) ∨ ((a != 0) = false ∧ (b != 0) = false ∧ (c != 0) = true) ∨ ((a != 0) = false ∧ (b != 0) = false ∧ (c != 0) = false) := by
    cases (a != 0) <;> cases (b != 0) <;> cases (c != 0) <;> simp
  rcases e1 with h1 | ⟨h1, h2⟩ | ⟨h1, h2, h3⟩ | ⟨h1, h2, h3⟩
  · go_enter Tryz.func99, Tryz.ntmps99
    go_wp2
    refine wp_loop_rounds 1 ?_
    rw [rounds_succ]
    go_wp2
    go_ret
    exact ⟨ret_int (by simp at h1; simp [orI, h1]), rfl⟩
  · go_enter Tryz.func99, Tryz.ntmps99
    go_wp2
    refine wp_loop_rounds 2 ?_
    rw [rounds_succ]
    go_wp2
    rw [rounds_succ]
    go_wp2
    go_ret
    exact ⟨ret_int (by simp at h1 h2; simp [orI, h1, h2]), rfl⟩
  · go_enter Tryz.func99, Tryz.ntmps99
    go_wp2
    refine wp_loop_rounds 3 ?_
    rw [rounds_succ]
    go_wp2
    rw [rounds_succ]
    go_wp2
    rw [rounds_succ]
    go_wp2
    go_ret
    exact ⟨ret_int (by simp at h1 h2 h3; simp [orI, h1, h2]), rfl⟩
  · go_enter Tryz.func99, Tryz.ntmps99
    go_wp2
    refine wp_loop_rounds 4 ?_
    rw [rounds_succ]
    go_wp2
    rw [rounds_succ]
    go_wp2
    rw [rounds_succ]
    go_wp2
    rw [rounds_succ]
    go_wp2
    go_ret
    exact ⟨ret_int (by simp at h1 h2 h3; simp [orI, h1, h2, h3]), rfl⟩

set_option maxHeartbeats 1600000 in
theorem compare_any (a b c a' b' c' : Int) (w : World) :
    Calls Tryz.prog 83 #[.agg #[.int .i64 a, .int .i64 b, .int .i64 c], .agg #[.int .i64 a', .int .i64 b', .int .i64 c']] w fun e w' => e = .returned (.int .i64 (cmpP (a, b, c) (a', b', c'))) ∧ ∃ q os', w' = grow (w.drewN q) os' := by
  have k1 : Hid (∀ w', Calls Tryz.prog 100 #[.int .i64 a, .int .i64 a'] w' fun e w'' => e = .returned (.int .i64 (Lib.compareInt a a')) ∧ w'' = w') := Lib.hid fun w' => compareInt_any a a' w'
  have k2 : Hid (∀ w', Calls Tryz.prog 100 #[.int .i64 b, .int .i64 b'] w' fun e w'' => e = .returned (.int .i64 (Lib.compareInt b b')) ∧ w'' = w') := Lib.hid fun w' => compareInt_any b b' w'
  have k3 : Hid (∀ w', Calls Tryz.prog 100 #[.int .i64 c, .int .i64 c'] w' fun e w'' => e = .returned (.int .i64 (Lib.compareInt c c')) ∧ w'' = w') := Lib.hid fun w' => compareInt_any c c' w'
  unfold cmpP
  simp only
  generalize Lib.compareInt a a' = x at *
  generalize Lib.compareInt b b' = y at *
  generalize Lib.compareInt c c' = z at *
  go_enter Tryz.func83, Tryz.ntmps83
  go_wp2_with fail
  have hw2 : ∃ w2, w2 = (w.alloc (.cells #[.int .i64 a, .int .i64 b, .int .i64 c] 58)).alloc (.cells #[.int .i64 a', .int .i64 b', .int .i64 c'] 58) := ⟨_, rfl⟩
  obtain ⟨w2, hw2⟩ := hw2
  have h1 : Blk 0 w2 w.heap.size [.int .i64 a, .int .i64 b, .int .i64 c] := by rw [hw2]; exact (Blk.new 0 w _ _).more _
  have h2 : Blk 0 w2 (w.heap.size + 1) [.int .i64 a', .int .i64 b', .int .i64 c'] := by rw [hw2]; exact (Blk.new 0 (w.alloc _) _ _).at (by simp)
  rw [← hw2]
  have HW := Lib.hid hw2
  clear hw2
  generalize w.heap.size = B at *
  refine Ord.wp_chain [15, 16] (fun w' => Blk 0 w' B [.int .i64 a, .int .i64 b, .int .i64 c] ∧ Blk 0 w' (B + 1) [.int .i64 a', .int .i64 b', .int .i64 c']) (fun j w' => ∃ q, w' = (if j = 0 then w2 else w2.alloc (.cells #[.int .i64 x, .int .i64 y, .int .i64 z] 3)).drewN q) (by kernel_rfl) (by kernel_rfl) (by kernel_rfl) ⟨h1.drew, h2.drew⟩ ⟨1, rfl⟩ (fun hT => ?_)
  have hT9 := Lib.hid hT
  clear hT
  repeat (first
    | (refine Ord.ch_value (v := ?_) hT9.out (by decide) (by rfl) ?_ ?_; rotate_left; (focus (intro w5 hS; have r := hS.1.rule; have r2 := hS.2.rule; go_simp <;> with_reducible rfl)); (try simp only [Act.put, List.setIfInBounds_toArray, List.set_cons_zero, List.set_cons_succ]))
    | (refine Ord.ch_call (v := ?_) (f := ?_) (args := ?_) hT9.out (by decide) (by rfl) ?_ ?_ ?_; rotate_left 3; (focus (intro w5 hS; have r := hS.1.rule; have r2 := hS.2.rule; go_simp; constructor <;> with_reducible rfl)); (focus (intro w5 hS; (first
        | (with_reducible refine (k1.out _).mono ?_; rintro e w6 ⟨rfl, rfl⟩; constructor; with_reducible rfl; exact ⟨hS, fun _ h => h⟩)
        | (with_reducible refine (k2.out _).mono ?_; rintro e w6 ⟨rfl, rfl⟩; constructor; with_reducible rfl; exact ⟨hS, fun _ h => h⟩)
        | (with_reducible refine (k3.out _).mono ?_; rintro e w6 ⟨rfl, rfl⟩; constructor; with_reducible rfl; exact ⟨hS, fun _ h => h⟩)))); (try simp only [Act.put, List.setIfInBounds_toArray, List.set_cons_zero, List.set_cons_succ])))
  refine Ord.ch_turn (v := .slice (some ⟨w2.heap.size, 0, none⟩) 3 3) 0 hT9.out rfl (by decide) (Or.inl rfl) (by rfl) ?_ ?_
  · rintro w5 hC5 ⟨q, hq⟩
    rw [if_pos rfl] at hq
    subst hq
    go_simp
    exact ⟨by first | rfl | simp, ⟨hC5.1.more _, hC5.2.more _⟩, q, rfl⟩
  (try simp only [Act.put, List.setIfInBounds_toArray, List.set_cons_zero, List.set_cons_succ])
  refine Ord.ch_turn (v := .int .i64 (orI x y z)) 1 hT9.out rfl (by decide) (Or.inr ⟨15, rfl, by kernel_rfl⟩) (by rfl) ?_ ?_
  · rintro w5 hC5 ⟨q, hq⟩
    rw [if_neg (by omega)] at hq
    have hcell : ∀ i, w5.cell? ⟨w2.heap.size, i, none⟩ = [Value.int .i64 x, .int .i64 y, .int .i64 z][i]? := fun i => by rw [hq]; exact (Blk.new 0 w2 [Value.int .i64 x, .int .i64 y, .int .i64 z] _).rule i
    have HQ := Lib.hid hq
    clear hq
    go_simp
    simp only [Ord.LandsIn]
    refine (or_any x y z _ w5 hcell).mono ?_
    rintro e w6 ⟨rfl, rfl⟩
    exact ⟨rfl, hC5, q, HQ.out⟩
  (try simp only [Act.put, List.setIfInBounds_toArray, List.set_cons_zero, List.set_cons_succ])
  repeat (first
    | (refine Ord.ch_value (v := ?_) hT9.out (by decide) (by rfl) ?_ ?_; rotate_left; (focus (intro w5 hS; skip; go_simp <;> with_reducible rfl)); (try simp only [Act.put, List.setIfInBounds_toArray, List.set_cons_zero, List.set_cons_succ]))
    | (refine Ord.ch_off hT9.out (by decide) (by rfl) ?_; (try simp only [Act.put, List.setIfInBounds_toArray, List.set_cons_zero, List.set_cons_succ])))
  refine Ord.InText.nil fun w5 hS => ?_
  clear hT9
  obtain ⟨hC9, hA9⟩ := Ord.chain_end hS
  clear hS
  obtain ⟨q, hq⟩ := hA9
  go_wp2
  go_ret
  refine ⟨rfl, q, #[.cells #[.int .i64 a, .int .i64 b, .int .i64 c] 58, .cells #[.int .i64 a', .int .i64 b', .int .i64 c'] 58, .cells #[.int .i64 x, .int .i64 y, .int .i64 z] 3], ?_⟩
  rw [hq, HW.out]
  simp only [List.length_cons, List.length_nil, alloc_eq_grow, grow_grow]
  rfl

theorem cmpLays (blk off size : Nat) (w : World) : CmpLays Tryz.prog 83 #[] encP 3 cmpP blk off size w := fun _ _ _ _ x y => compare_any x.1 x.2.1 x.2.2 y.1 y.2.1 y.2.2 _
theorem aggPlace (w : World) : (isAgg 58).run Tryz.prog w = .ok true w := by kernel_rfl
theorem sizePlace (w : World) : (Go.sizeOf 58).run Tryz.prog w = .ok 3 w := by kernel_rfl

/-- The places in their order. -/
def sortL (l : List Plc) : List Plc := l.mergeSort fun x y => !(ltOf cmpP) y x
theorem sort_any (blk off cap : Nat) (d : Array Plc) (w : World) (hH : HoldsK encP 3 w blk off d) (hblk : blk < w.heap.size) (hsz : d.size < 4611686018427387904) :
    Calls Tryz.prog 97 #[.slice (some ⟨blk, off, none⟩) d.size cap, .func (.func 83) #[] #[]] w fun e w' => e = .returned (.tuple #[]) ∧ ∃ n os, w' = sortWorldK encP 3 w blk off n (sortL d.toList).toArray os :=
  AnyQ.slices_SortFunc_total Tryz.sortPlaces 3 aggPlace sizePlace encP (fun _ => rfl) (fun x v hv => by simp [encP] at hv; rcases hv with rfl | rfl | rfl <;> rfl) cmpP swoP 83 #[] blk off cap d w
    (enters_of Tryz.func83 (by kernel_rfl) rfl) (cmpLays blk off d.size w) hH hblk hsz totP
theorem sort_none (p : Option Addr) (cap : Nat) (fv : Value) (w : World) : Calls Tryz.prog 97 #[.slice p 0 cap, fv] w fun e w' => e = .returned (.tuple #[]) ∧ w' = w :=
  AnyF.slices_SortFunc_none { Tryz.sortPlaces with } p cap fv w
end Go.Proofs.YtchcdfoncebemaaGreatDoor

/- Rows of the call's own: of whole numbers. -/
namespace Go.Proofs.YtchcdfoncebemaaGreatDoor
open Go.RowKit
set_option maxRecDepth 100000

/-- Whole numbers in a row. -/
def ints (zs : List Int) : List Value := zs.map (Value.int .i64)
theorem ints_length (zs : List Int) : (ints zs).length = zs.length * 1 := by simp [ints]
theorem ints_append (a b : List Int) : ints (a ++ b) = ints a ++ ints b := by simp [ints]
def intsI (v : Value) (zs : List Int) : Item := rowI v 3 1 zs.length (ints zs)
theorem infoInt : (Tryz.prog.info? 3).map (fun i => (i.zero, i.size, i.bytes)) = some (some (.int .i64 0), 1, 8) := by kernel_rfl
/-- What the cells of such a row hold. -/
def Cells1 (w : World) (A : Option Addr) (zs : List Int) : Prop := zs = [] ∨ ∃ g, A = some ⟨g, 0, none⟩ ∧ g < w.heap.size ∧ ∀ i, i < zs.length → w.cell? ⟨g, i, none⟩ = some (.int .i64 (zs.getD i 0))
theorem cells1 {w : World} {b : Nat} {A : Option Addr} {cap : Nat} {zs : List Int} (h : w.ownsRow b 3 1 (.slice A zs.length cap) zs.length (ints zs)) : Cells1 w A zs := by
  rcases h.2 with ⟨_, h0⟩ | ⟨g, cap', cur, hv, _, hg, hn, hc, hcs, htk⟩
  · exact .inl (List.eq_nil_of_length_eq_zero h0)
  · simp only [Value.slice.injEq] at hv
    obtain ⟨rfl, -, rfl⟩ := hv
    refine .inr ⟨g, rfl, (Array.getElem?_eq_some_iff.1 hg).1, fun j hj => ?_⟩
    have h1 : (ints zs)[j]? = some (.int .i64 (zs.getD j 0)) := by simp [ints, hj]
    rw [← h1, ← htk, List.getElem?_take_of_lt (by omega)]
    simp [World.cell?, hg]
theorem Cells1.over {w w' : World} {A : Option Addr} {zs : List Int} (h : Cells1 w A zs) (hk : ∀ k, (Value.slice A zs.length 0).ownBlock = some k → w'.heap[k]? = w.heap[k]?) (hs : w.heap.size ≤ w'.heap.size) : Cells1 w' A zs := by
  rcases h with h | ⟨g, rfl, hg, hc⟩
  · exact .inl h
  · exact .inr ⟨g, rfl, Nat.lt_of_lt_of_le hg hs, fun i hi => by rw [World.cell?_of_block (w := w) (hk g rfl)]; exact hc i hi⟩

section
variable {w0 w w' : World} {L : List Item}
theorem Env.row (h : Env w0 L w) (i : Nat) {v : Value} {zs : List Int} (hi : L[i]? = some (intsI v zs)) : w.ownsRow 0 3 1 v zs.length (ints zs) := h.get i hi
theorem Env.rowCells (h : Env w0 L w) (i : Nat) {A : Option Addr} {n cap : Nat} {zs : List Int} (hn : n = zs.length) (hi : L[i]? = some (intsI (.slice A n cap) zs)) : Cells1 w A zs := by subst hn; exact cells1 (h.row i hi)
/-- A row that has come into being. -/
theorem Env.addRow (h : Env w0 L w) {v : Value} {zs : List Int} (ho : w'.ownsRow w.heap.size 3 1 v zs.length (ints zs)) (hb : Below w.heap.size w w') : Env w0 (intsI v zs :: L) w' :=
  h.add (intsI v zs) hb (ownsRow_base ho (Nat.zero_le _)) fun k hk => ho.lt k hk
theorem Env.addNone (h : Env w0 L w) : Env w0 (intsI (.slice none 0 0) [] :: L) w :=
  h.add (intsI (.slice none 0 0) []) (Below.refl _ _) (World.ownsRow_nil _ _ _ _) fun k hk => by cases hk
/-- An empty row that has been made. -/
theorem Env.addEmpty (h : Env w0 L w) (n : Nat) (hn : w.heap.size = n) : Env w0 (intsI (.slice (some ⟨n, 0, none⟩) 0 0) [] :: L) (w.alloc (.cells #[] 3)) := by
  subst hn
  exact h.addRow (v := .slice (some ⟨w.heap.size, 0, none⟩) 0 0) (zs := []) ⟨rfl, .inr ⟨w.heap.size, 0, #[], rfl, Nat.le_refl _, heap_alloc_new w _, Nat.le_refl _, Nat.zero_le _, rfl, rfl⟩⟩ ((Below.refl _ _).alloc (Nat.le_refl _) _)
/-- One number appended to a row. -/
theorem Env.append1 (h : Env w0 L w) (i : Nat) {v : Value} {zs : List Int} (hi : L[i]? = some (intsI v zs)) (x : Int) (hz : zs.length ≤ 1000000) (n : Nat) (hn : w.heap.size = n) :
    ∃ g cap w', (Builtin.append_ #[176, 176] 176 #[v, .slice (some ⟨n, 0, none⟩) 1 1]).run Tryz.prog (w.alloc (.cells #[.int .i64 x] 3)) = .ok (.slice (some ⟨g, 0, none⟩) (zs.length + 1) cap) w' ∧
      Env w0 (L.set i (intsI (.slice (some ⟨g, 0, none⟩) (zs.length + 1) cap) (zs ++ [x]))) w' ∧ Step (fun k => v.ownBlock = some k) (fun k => k = g) w w' := by
  subst hn
  obtain ⟨i0, hi0, hz0, hz1, hz2⟩ := info_parts infoInt
  have hown := h.row i hi
  obtain ⟨g, cap, w', hrun, ho, hgr, hg, hgl⟩ := run_append_lies (P := Tryz.prog) (w.alloc (.cells #[.int .i64 x] 3)) 176 176 0 3 i0 (.int .i64 0) 1 8 Tryz.underlying176 hi0 hz0 hz1 hz2 rfl (by decide) v zs.length (ints zs) (hown.alloc _)
    ⟨w.heap.size, 0, none⟩ 1 1 [.int .i64 x] rfl (cells_new _ _ _) (by simp [Value.oneCell']) (by omega) (by simp [maxLen]; omega) (by omega) (by simp) _ rfl
  have hst : Step (fun k => v.ownBlock = some k) (fun k => k = g) w w' := ⟨((Turn.refl _ w).alloc _).grown hgr fun k _ e => e, fun k hk => by
    subst hk
    rcases hg with e | e
    · exact .inl e
    · right; rw [e]; simp⟩
  refine ⟨g, cap, w', hrun, ?_, hst⟩
  refine h.step i (intsI (.slice (some ⟨g, 0, none⟩) (zs.length + 1) cap) (zs ++ [x])) hi ⟨hst.turn, fun k hk => hst.from' k (by cases hk; rfl)⟩ ?_ fun k hk => by cases hk; exact hgl
  have e1 : (zs ++ [x]).length = zs.length + 1 := by simp
  show w'.ownsRow 0 3 1 _ (zs ++ [x]).length (ints (zs ++ [x]))
  rw [e1, ints_append]
  exact ho
end
end Go.Proofs.YtchcdfoncebemaaGreatDoor

/- The keys of a map of words, collected: each once, in whatever order; then sorted: Places. -/
namespace Go.Proofs.YtchcdfoncebemaaGreatDoor
open Go.RowKit Go.Maps Go.Shelf Go.Sort
set_option maxRecDepth 100000

attribute [local go_sem] Oper.semAt_some

/-- ss are the places that have come: each once, places alone, those of the map that are no longer to come. -/
structure CollP (D : DataW Unit) (left : Lit → Bool) (ss : List Plc) : Prop where
  once : ss.Nodup
  wf : ∀ x ∈ ss, Wf x
  mem : ∀ x, Wf x → (x ∈ ss ↔ Maps.has D (kl x) = true ∧ left (kl x) = false)
theorem CollP.start (D : DataW Unit) : CollP D (Maps.has D) [] := ⟨List.nodup_nil, by simp, fun x _ => by simp⟩
theorem CollP.step {D : DataW Unit} {left : Lit → Bool} {ss : List Plc} (h : CollP D left ss) {x : Plc} (hx : Wf x) (hl : left (kl x) = true) {yd : DataW Unit} (hat : ∀ zd, D.atKey (kl x) zd = yd) : CollP D (fun z => left z && !z.sameKey (kl x)) (ss ++ [x]) := by
  have hnot : x ∉ ss := fun e => by have := ((h.mem x hx).1 e).2; rw [hl] at this; cases this
  refine ⟨List.nodup_append.2 ⟨h.once, by simp, fun a ha b hb e => ?_⟩, fun y hy => ?_, fun y hy => ?_⟩
  · simp at hb; subst hb; subst e; exact hnot ha
  · rcases List.mem_append.1 hy with h1 | h1
    · exact h.wf y h1
    · simp at h1; subst h1; exact hx
  · by_cases e : y = x
    · subst e
      simp [has_true_of_atKey hat, WideAt.sameKey_self (kl_key y)]
    · have hne : kl y ≠ kl x := fun e' => e (kl_inj hy hx e')
      simp [e, h.mem y hy, sameKey_ne hne]


set_option maxRecDepth 100000 in
set_option maxHeartbeats 2000000 in
theorem keys1_any (F : Fence) (n : Nat) (hf : F.fn 98) (hro : F.round = none) (hn : 1 ≤ n) (l Bm b nn : Nat) (D0 : DataW Unit) (J Jx : List Plc → World → Prop)
    (hY : ∀ pre x W, J pre W → pre.length < Maps.size D0 → YieldAt F (n - 1) Tryz.prog l #[pv x] W fun e W' => (e = .returned (.bool true) ∧ J (pre ++ [x]) W' ∧ KeepsWalks W W') ∨ (e = .returned (.bool false) ∧ Jx (pre ++ [x]) W'))
    (W : World) (hJ : AbidesFrom W.heap.size J) (hm : W.cell? ⟨Bm, 0, none⟩ = some (.map (some b))) (hown : W.ownsMap Tryz.prog 58 (plainElem (H := Unit) Tryz.prog 23) b nn D0) (h0 : J [] W) :
    CallsIn F n Tryz.prog 98 #[.func (.yield l) #[] #[], .pointer (some ⟨Bm, 0, none⟩)] W fun e W' => (∃ v, e = .returned v) ∧
      ((∃ ss, (CollP D0 (fun _ => false) ss ∧ ss.length ≤ Maps.size D0) ∧ J ss W') ∨ (∃ pre, True ∧ Jx pre W')) := by
  refine callsIn_of_wp Tryz.func98 rfl hf ?_ hro
  simp only [Tryz.ntmps98, List.size_toArray, List.length_cons, List.length_nil, Nat.reduceAdd, Nat.reduceSub, Array.replicate_succ, Array.replicate_zero, List.push_toArray, List.append_toArray, List.nil_append, List.cons_append]
  gi_wp2_with (first
    | (gi_at_range; refine wpListIn_range_own _ rfl _ 143 rfl 58 23 keyPlace Tryz.underlying143 _ b nn _ rfl hown ?_; intro w0 hrg0 hg0 hs0)
    | gi_in)
  go_frame
  gi_loopw [3] (fun _ wr => ∃ (left : Lit → Bool) (cnt : Nat) (ss : List Plc), wr.ranges Tryz.prog 58 (plainElem (H := Unit) Tryz.prog 23) b W.heap.size nn D0 left cnt ∧ ss.length + cnt ≤ Maps.size D0 ∧ CollP D0 left ss ∧ J ss wr)
    (fun _ wr => wr.rangeLeft b W.heap.size)
  case atStart =>
    exact ⟨_, _, [], hrg0, by simp, CollP.start D0, hJ [] W w0 none h0 hg0 (fun r e => by cases e)⟩
  case round =>
    obtain ⟨left, cnt, ss, hrg, hcs, hC, hJs⟩ := hrel
    gi_wp2_with (first
      | (gi_at_next; refine wpListIn_next_ranges _ rfl _ rfl 58 keyPlace (plainElem (H := Unit) Tryz.prog 23) (fun x : Plc => Value.agg #[.int .i64 x.1, .int .i64 x.2.1, .int .i64 x.2.2]) id (fun key kl hk => by obtain ⟨x, _, hx, _⟩ := key_inv hk; exact ⟨x, hx⟩) (fun v _ _ => ⟨v, rfl⟩) b W.heap.size nn _ _ _ rfl hrg ?_ ?_)
      | gi_in)
    · intro hc0 hl0
      gi_wp2
      go_end0
      exact ⟨⟨_, rfl⟩, .inl ⟨ss, ⟨⟨hC.once, hC.wf, fun x hx => by rw [hC.mem x hx, hl0]⟩, by omega⟩, hJs⟩⟩
    · intro xa xb xc c kx yd yp w2 cnt2 hkey hlk hv hat hrg2 hlt hg2 hs2 hen
      obtain ⟨x, hx', ex, rfl⟩ := key_inv hkey
      obtain ⟨ya, yb, yc⟩ := x
      have ex' := pv_inj (x := (xa, xb, xc)) ex
      obtain ⟨rfl, rfl, rfl⟩ : xa = ya ∧ xb = yb ∧ xc = yc := by simpa using ex'
      clear ex ex'
      have hJ2 : J ss w2 := hJ ss wr w2 (some W.heap.size) hJs hg2 (fun r e => by cases e; exact ⟨Nat.le_refl _, hrg.iter_walk⟩)
      have hJ3 : J ss (w2.alloc (.cells #[.int .i64 xa, .int .i64 xb, .int .i64 xc] 58)) := hJ ss w2 _ none hJ2 (World.grownBy_alloc w2 _ none) (fun r e => by cases e)
      obtain ⟨fn, tmps, assign, body, hy, hR⟩ := hY ss (xa, xb, xc) _ hJ3 (by omega)
      have hrg2' := hrg2.alloc (.cells #[.int .i64 xa, .int .i64 xb, .int .i64 xc] 58)
      have hC2 := hC.step hx' hlk hat
      simp only [pv] at hy
      clear hs2
      gi_wp2
      refine hR.mono ?_
      rintro e W3 (⟨rfl, hJ4, hk3⟩ | ⟨rfl, hJx4⟩)
      · gi_wp2
        have hrg3 := hrg2'.of_walks hk3
        go_roundw
        case rel => exact ⟨_, cnt2, ss ++ [(xa, xb, xc)], hrg3, by simp; omega, hC2, hJ4⟩
        case measure => rw [hrg3.left_eq, hrg.left_eq]; exact hlt
      · gi_wp2
        refine bodyPost_ret (results_none rfl _ _ _) rfl ?_
        exact ⟨⟨_, rfl⟩,   .inr ⟨ss ++ [(xa, xb, xc)], trivial, hJx4⟩⟩

/-- .. and at most n of them. -/
def OpsN (f : Plc → Int) (n : Nat) (ss : List Plc) : Prop := OpsF f ss ∧ ss.length ≤ n

set_option maxRecDepth 100000 in
set_option maxHeartbeats 2000000 in
theorem keys1_none (F : Fence) (n : Nat) (hf : F.fn 98) (hro : F.round = none) (l Bm : Nat) (J : List Plc → World → Prop) (W : World) (hJ : AbidesFrom W.heap.size J)
    (hm : W.cell? ⟨Bm, 0, none⟩ = some (.map none)) (h0 : J [] W) :
    CallsIn F n Tryz.prog 98 #[.func (.yield l) #[] #[], .pointer (some ⟨Bm, 0, none⟩)] W fun e W' => (∃ v, e = .returned v) ∧ J [] W' := by
  have hrg := run_range_nilMap (P := Tryz.prog) W 143 _ _ Tryz.underlying143
  have hnx : ∀ ty, (Instr.next (.pointer (some ⟨W.heap.size, 0, none⟩)) false ty).run Tryz.prog (W.alloc (.mapIter none 0 #[] 0)) = _ := fun ty => run_next_nilMap _ ty 0 0 #[]
  refine callsIn_of_wp Tryz.func98 rfl hf ?_ hro
  simp only [Tryz.ntmps98, List.size_toArray, List.length_cons, List.length_nil, Nat.reduceAdd, Nat.reduceSub, Array.replicate_succ, Array.replicate_zero, List.push_toArray, List.append_toArray, List.nil_append, List.cons_append]
  gi_wp2
  refine wpIn_loop_rounds 1 ?_
  rw [roundsIn_succ]
  gi_wp2
  go_end0
  exact ⟨⟨_, rfl⟩, hJ [] W _ none h0 (World.grownBy_alloc W _ none) (fun r e => by cases e)⟩

theorem keys_stops (F : Fence) (n : Nat) (hf : F.fn 98) (hro : F.round = none) (hn : 1 ≤ n) {Bm nn : Nat} {mp : Option Nat} {f : Plc → Int} {w : World} (hBm : Bm < w.heap.size)
    (hm : w.cell? ⟨Bm, 0, none⟩ = some (.map mp)) (hM : MapIs w mp f nn) :
    SeqStopsK F n Tryz.prog 98 #[.pointer (some ⟨Bm, 0, none⟩)] (fun x : Plc => #[Value.agg #[.int .i64 x.1, .int .i64 x.2.1, .int .i64 x.2.2]]) KeepsWalks (OpsN f nn) (fun _ => True) nn w := fun l J Jx W hW hJ _ hY h0 => by
  rcases hM with ⟨rfl, rfl⟩ | ⟨b, D, rfl, ho, hr⟩
  · exact (keys1_none F n hf hro l Bm J W hJ ((hW.cell (p := ⟨Bm, 0, none⟩) hBm).trans hm) h0).mono fun _ _ ⟨he, hj⟩ => ⟨he, .inl ⟨[], ⟨⟨List.nodup_nil, by simp⟩, Nat.zero_le _⟩, hj⟩⟩
  · have hlt := ho.lt
    have hsz := ho.size_le
    have ho' : W.ownsMap Tryz.prog 58 (plainElem (H := Unit) Tryz.prog 23) b nn D := by
      obtain ⟨es, clock, hb, r⟩ := ho
      exact ⟨es, clock, (hW.block b hlt).trans hb, r⟩
    refine (keys1_any F n hf hro hn l Bm b nn D J Jx (fun pre x W1 h1 h2 => hY pre x W1 h1 (by omega)) W hJ ((hW.cell (p := ⟨Bm, 0, none⟩) hBm).trans hm) ho' h0).mono ?_
    rintro e W' ⟨he, ⟨ss, ⟨hC, hlen⟩, hj⟩ | hx⟩
    · refine ⟨he, .inl ⟨ss, ⟨⟨hC.once, fun x => ?_⟩, Nat.le_trans hlen hsz⟩, hj⟩⟩
      by_cases hw : Wf x
      · rw [hC.mem x hw, hr.has' x hw]; simp
      · constructor
        · intro e; exact absurd (hC.wf x e) hw
        · intro e; exact absurd (hr.words.out x hw) e
    · exact ⟨he, .inr hx⟩

set_option maxHeartbeats 1000000 in
theorem keys_in (F : Fence) (n : Nat) (hf : F.fn 82) (hro : F.round = none) (mp : Option Nat) (w : World) :
    CallsIn F n Tryz.prog 82 #[.map mp] w fun e w' => e = .returned (.func (.func 98) #[] #[.pointer (some ⟨w.heap.size, 0, none⟩)]) ∧ w' = w.alloc (.cells #[.map mp] 143) := by
  refine callsIn_of_wp Tryz.func82 rfl hf ?_ hro
  simp only [Tryz.ntmps82, List.size_toArray, List.length_cons, List.length_nil, Nat.reduceAdd, Nat.reduceSub, Array.replicate_succ, Array.replicate_zero, List.push_toArray, List.append_toArray, List.nil_append, List.cons_append]
  gi_wp2
  go_ret
  exact ⟨rfl, rfl⟩

def Box3 (W : World) (B : Nat) (x : Plc) : Prop := W.heap[B]? = some (.cells #[.int .i64 x.1, .int .i64 x.2.1, .int .i64 x.2.2] 58 (0, 0))
theorem Box3.rule {W : World} {B : Nat} {x : Plc} (h : Box3 W B x) : ∀ i, W.cell? ⟨B, i, none⟩ = [Value.int .i64 x.1, .int .i64 x.2.1, .int .i64 x.2.2][i]? := fun i => by
  unfold Box3 at h
  simp [World.cell?, h]

set_option maxRecDepth 100000 in
set_option maxHeartbeats 2000000 in
theorem append_in (F : Fence) (n : Nat) (hf : F.fn 109) (hk : F.fn 98) (hro : F.round = none) (hn : 3 ≤ n) {Bm nn : Nat} {mp : Option Nat} {f : Plc → Int} {w : World} (hBm : Bm < w.heap.size)
    (hm : w.cell? ⟨Bm, 0, none⟩ = some (.map mp)) (hM : MapIs w mp f nn) (hN : nn ≤ maxLen) (hNb : nn * 24 ≤ 140737488355328) :
    CallsIn F n Tryz.prog 109 #[.slice none 0 0, .func (.func 98) #[] #[.pointer (some ⟨Bm, 0, none⟩)]] w fun e w' => ∃ v ss, e = .returned v ∧ OpsN f nn ss ∧ w'.ownsRow w.heap.size 58 3 v ss.length (flatP ss) ∧ (v = .slice none 0 0 ↔ ss = []) ∧ Below w.heap.size w w' := by
  have h1 : 1 ≤ n := by omega
  obtain ⟨i0, hi, hz0, hz1, hz2⟩ := info_parts infoPlace
  refine callsIn_of_wp_marks Tryz.func109 rfl hf ?_ hro
  simp only [Tryz.ntmps109, List.size_toArray, List.length_cons, List.length_nil, Nat.reduceAdd, Nat.reduceSub, Array.replicate_succ, Array.replicate_zero, List.push_toArray, List.append_toArray, List.nil_append, List.cons_append]
  gi_wp2
  have bO := Boxed.new w 102 (.slice none 0 0)
  have hB0 : Below w.heap.size w (w.alloc (.cells #[.slice none 0 0] 102)) := (Below.refl _ w).alloc (Nat.le_refl _) _
  refine wpIn_rangeFunc_ownH hro h1 (gf := 98) (lb := #[.pointer (some ⟨Bm, 0, none⟩)]) rfl hk (enters_of Tryz.func98 (by kernel_rfl) rfl)
    (keys_stops F (n - 1) hk hro (by omega) (w := w.alloc (.cells #[.slice none 0 0] 102)) (by simp; omega) ((hB0.cell (p := ⟨Bm, 0, none⟩) hBm).trans hm) (hM.more _)) walksK_t walksK_b (Below.refl _ _) (fun _ => rfl)
    (fun pre W => (∃ v, Boxed W w.heap.size 102 v ∧ W.ownsRow w.heap.size 58 3 v pre.length (flatP pre) ∧ (v = .slice none 0 0 ↔ pre = [])) ∧ Below w.heap.size w W)
    (fun _ _ _ => False)
    (OwnFrom.and (Own.from (holdsRow_own w.heap.size w.heap.size 102 58 3 (fun pre : List Plc => pre.length) flatP (fun pre v => v = .slice none 0 0 ↔ pre = [])) _) (ownFrom_below (Nat.le_refl _) (by simp)))
    (fun _ _ _ _ _ hs _ _ => hs)
    ⟨⟨_, bO, World.ownsRow_nil _ _ _ _, by simp⟩, hB0⟩
    (fun x a' W => ∃ Bx, Box3 W Bx x ∧ a' = { tmps := #[.slice none 0 0, .func (.func 98) #[] #[.pointer (some ⟨Bm, 0, none⟩)], .pointer (some ⟨w.heap.size, 0, none⟩), undef, .slice none 0 0, .pointer (some ⟨Bx, 0, none⟩), .func (.func 98) #[] #[.pointer (some ⟨Bm, 0, none⟩)], .agg #[.int .i64 x.1, .int .i64 x.2.1, .int .i64 x.2.2], undef, undef, undef, undef, undef], defers := [] })
    (fun x a' _ X Y row hs hg hr => by
      obtain ⟨Bx, h2, h3⟩ := hs
      refine ⟨Bx, (hg.block Bx (Array.getElem?_eq_some_iff.1 h2).1 (fun e => ?_)).trans h2, h3⟩
      obtain ⟨_, o, ho, hc⟩ := hr Bx e.symm
      rw [show X.heap[Bx]? = _ from h2] at ho
      cases ho
      cases hc) ?assign ?body ?done ?stop
  case assign =>
    rintro l pre x W K ⟨⟨v, bV, hrow, hnil⟩, hB1⟩ hK
    gi_wp2
    exact hK _ _ ((KeepsOthers.alloc _ _).from _) (KeepsWalks.alloc _ _) ⟨⟨v, bV.alloc _, hrow.alloc _, hnil⟩, hB1.alloc hB1.size _⟩ ⟨W.heap.size, World.alloc_heap_new W _, rfl⟩
  case body =>
    rintro l pre x a' W hl ⟨r, hr⟩ ⟨⟨v, hv, hrow, hnil⟩, hB⟩ ⟨Bx, hBx, rfl⟩ hlt
    have hc := hv.cell
    have hx := hBx.rule
    gi_wp2_with (gi_at_builtin; refine wpListIn_append_own _ rfl _ _ 102 rfl w.heap.size 58 i0 (.agg #[.int .i64 0, .int .i64 0, .int .i64 0]) 3 24 Tryz.underlying102 hi hz0 hz1 hz2 rfl (by decide) _ _ _ rfl (hrow.alloc _) ⟨W.heap.size, 0, none⟩ 1 1 [.int .i64 x.1, .int .i64 x.2.1, .int .i64 x.2.2] rfl rfl (cells_new _ _ _) (by simp [Value.oneCell']) (by omega) (by omega) (by have := hB.size; simp; omega) ?_; intro v' w1 hown' hgrow _; obtain ⟨g', cap', rfl⟩ := ownsRow_succ hown'; obtain ⟨hv1, hv2, hr2, hk2, hb2⟩ := hv.appended (by decide) hrow hB.size (Nat.le_refl _) hown' hgrow; have hc1 := hv1.cell; have hf1 := hv1.frozen)
    exact ⟨hk2.from _, hk2.walks, ⟨_, hv2, by rw [flatP_snoc]; simpa [encP] using hr2, by simp⟩, hB.trans hb2⟩
  case done =>
    rintro D ys W hD hS ⟨⟨v, hv, hrow, hnil⟩, hB⟩ hK
    have hc := hv.cell
    gi_wp2
    refine ⟨by simp, .inl ⟨_, _, rfl, run_takeDeferred hK, ?_⟩⟩
    exact ⟨_, results_tmp rfl _ _ _, v, ys, rfl, hS, ownsRow_putObj hrow _ hK rfl, hnil, hB.trans (belowK_b (w := w) (Nat.le_refl _) W D _ _ (by simp at hD; omega) hK rfl rfl)⟩
  case stop =>
    rintro D c pre W _ _ h _
    exact h.elim
end Go.Proofs.YtchcdfoncebemaaGreatDoor

/- Places: those whose words aren't 0, in their order. -/
namespace Go.Proofs.YtchcdfoncebemaaGreatDoor
open Go.RowKit Go.Maps Go.Shelf Go.Sort
set_option maxRecDepth 100000

/-! ### rows of places -/
theorem holds_of_row {w : World} {g cap : Nat} {cur : Array Value} {l : List Plc} {t : TypeId} (hg : w.heap[g]? = some (.cells cur t (0, 0))) (hc : cur.size = cap * 3) (hl : l.length ≤ cap) (ht : cur.toList.take (l.length * 3) = flatP l) : HoldsK encP 3 w g 0 l.toArray := by
  intro j hj
  have hj' : j < l.length * 3 := by simpa using hj
  refine ⟨?_, by simp [World.frozen?, hg]⟩
  have h1 : (cur.toList.take (l.length * 3))[j]? = (flatP l)[j]? := by rw [ht]
  rw [List.getElem?_take_of_lt hj'] at h1
  have h2 := flatP_get l (j / 3) (j % 3) (by omega) (by omega)
  rw [show j / 3 * 3 + j % 3 = j by omega] at h2
  have h3 : (encP (l.getD (j / 3) z3))[j % 3]? = some ((encP (l.getD (j / 3) z3))[j % 3]!) := by
    have : j % 3 < (encP (l.getD (j / 3) z3)).length := by simp [encP]; omega
    rw [List.getElem?_eq_getElem this, getElem!_pos (encP (l.getD (j / 3) z3)) (j % 3) this]
  simp only [World.cell?, hg, Nat.zero_add]
  rw [get_flatK _ _ _ _ (by simpa using hj')]
  have h4 : l.toArray[j / 3]! = l.getD (j / 3) z3 := by
    have hlt : j / 3 < l.length := by omega
    simp [hlt]
  have h5 : cur[j]? = some ((encP (l.getD (j / 3) z3))[j % 3]!) := by
    rw [← h3, ← h2, ← h1]; simp
  rw [h4]
  simpa using h5

theorem grown_sorted {w : World} {g n : Nat} {os : Array Obj} (d : Array Plc) : w.grownBy (sortWorldK encP 3 w g 0 n d os) (some g) := by
  refine ⟨rfl, rfl, rfl, by simp [sortWorldK, putRowK, grow, putRow, mapBlock, Sort.ahead], fun k hk hne => ?_⟩
  have h1 : g ≠ k := fun e => hne (by rw [e])
  unfold sortWorldK putRowK
  rw [heap_grow_old _ _ (by simpa [putRow, mapBlock, Sort.ahead] using hk)]
  simp [putRow, mapBlock, Sort.ahead, Array.getElem?_modify, h1]

theorem row_of_holds {w : World} {g cap : Nat} {l : List Plc} (hg : g < w.heap.size) (h : HoldsK encP 3 w g 0 l.toArray) : RowP w (.slice (some ⟨g, 0, none⟩) l.length cap) l := by
  refine .inr ⟨g, cap, rfl, hg, fun j hj => ?_⟩
  have e : l.toArray[j]! = l.getD j z3 := by simp [hj]
  have h0 := (h.cell (i := j) (c := 0) (by simpa using hj) (by omega)).1
  have h1 := (h.cell (i := j) (c := 1) (by simpa using hj) (by omega)).1
  have h2 := (h.cell (i := j) (c := 2) (by simpa using hj) (by omega)).1
  rw [e] at h0 h1 h2
  simp only [Nat.zero_add, Nat.add_zero] at h0 h1 h2
  exact ⟨h0, h1, h2⟩

/-! ### the order -/
theorem sortL_perm (l : List Plc) : (sortL l).Perm l := List.mergeSort_perm _ _
theorem sortL_rising {l : List Plc} (h : l.Nodup) : Rising (sortL l) := by
  have hs : (sortL l).Pairwise fun x y => (!(ltOf cmpP) y x) = true := by
    unfold sortL
    refine List.pairwise_mergeSort (fun a b c h1 h2 => ?_) (fun a b => ?_) l
    · simp only [Bool.not_eq_true'] at *
      exact swoP.ntrans _ _ _ h2 h1
    · simp only [Bool.or_eq_true, Bool.not_eq_true']
      cases h1 : ltOf cmpP b a
      · exact .inl rfl
      · refine .inr ?_
        cases h2 : ltOf cmpP a b
        · rfl
        · have := swoP.trans _ _ _ h1 h2
          rw [swoP.irrefl] at this
          cases this
  have hn : (sortL l).Nodup := (sortL_perm l).nodup_iff.2 h
  refine (hs.and hn).imp fun {x y} hxy => ?_
  obtain ⟨h1, h2⟩ := hxy
  cases h3 : ltOf cmpP x y
  · exact absurd (totP x y h3 (by simpa using h1)) h2
  · rfl
theorem PlacesOf.sort {f : Plc → Int} {ss : List Plc} (h : OpsF f ss) : PlacesOf f (sortL ss) := ⟨sortL_rising h.1, fun x => ((sortL_perm ss).mem_iff).trans (h.2 x)⟩

/-! ### the calls -/
set_option maxHeartbeats 1000000 in
theorem collect_any {Bm nn : Nat} {mp : Option Nat} {f : Plc → Int} {w : World} (hBm : Bm < w.heap.size)
    (hm : w.cell? ⟨Bm, 0, none⟩ = some (.map mp)) (hM : MapIs w mp f nn) (hN : nn ≤ maxLen) (hNb : nn * 24 ≤ 140737488355328) :
    Calls Tryz.prog 96 #[.func (.func 98) #[] #[.pointer (some ⟨Bm, 0, none⟩)]] w fun e w' => ∃ v ss, e = .returned v ∧ OpsN f nn ss ∧ w'.ownsRow w.heap.size 58 3 v ss.length (flatP ss) ∧ (v = .slice none 0 0 ↔ ss = []) ∧ Below w.heap.size w w' := by
  have h1 : Calls Tryz.prog 109 #[.slice none 0 0, .func (.func 98) #[] #[.pointer (some ⟨Bm, 0, none⟩)]] w _ := (callsIn_wide (n := 6)).1 (append_in Fence.wide 6 trivial trivial rfl (by omega) hBm hm hM hN hNb)
  clear hm hM
  go_enter Tryz.func96, Tryz.ntmps96
  go_wp2_with (refine h1.mono ?_; rintro e w1 ⟨v, ss, rfl, h2, h3, h4, h5⟩)
  go_ret
  exact ⟨v, ss, rfl, h2, h3, h4, h5⟩

set_option maxHeartbeats 1000000 in
theorem sorted_any {Bm nn : Nat} {mp : Option Nat} {f : Plc → Int} {w : World} (hBm : Bm < w.heap.size)
    (hm : w.cell? ⟨Bm, 0, none⟩ = some (.map mp)) (hM : MapIs w mp f nn) (hN : nn ≤ maxLen) (hNb : nn * 24 ≤ 140737488355328) :
    Calls Tryz.prog 81 #[.func (.func 98) #[] #[.pointer (some ⟨Bm, 0, none⟩)], .func (.func 83) #[] #[]] w fun e w' => ∃ v l, e = .returned v ∧ PlacesOf f l ∧ RowP w' v l ∧ Below w.heap.size w w' := by
  have h1 := collect_any hBm hm hM hN hNb
  clear hm hM
  go_enter Tryz.func81, Tryz.ntmps81
  go_wp2_with fail
  refine h1.mono ?_
  rintro e w1 ⟨v, ss, rfl, ⟨h2, h2n⟩, h3, h4, h5⟩
  rcases h3.2 with ⟨rfl, hz⟩ | ⟨g, cap, cur, rfl, hg0, hg, hl, hcap, hcs, htk⟩
  · have hs : ss = [] := h4.1 rfl
    subst hs
    go_wp2_with (refine (sort_none _ _ _ _).mono ?_; rintro e w2 ⟨rfl, rfl⟩)
    go_ret
    exact ⟨_, [], rfl, ⟨List.Pairwise.nil, fun x => by simpa using h2.2 x⟩, .inl ⟨rfl, rfl⟩, h5⟩
  · have hH := holds_of_row hg hcs hl htk
    have hgl : g < w1.heap.size := (Array.getElem?_eq_some_iff.1 hg).1
    have hc := sort_any g 0 cap ss.toArray w1 hH hgl (by simp; omega)
    have h6 := PlacesOf.sort h2
    have hlen : (sortL ss).length = ss.length := (sortL_perm ss).length_eq
    simp only [List.size_toArray] at hc
    have HH := Lib.hid hH
    clear h1 h3 h4 hg htk hcs hH
    go_wp2_with (refine hc.mono ?_; rintro e w2 ⟨rfl, n, os, rfl⟩)
    go_ret
    have hgr := grown_sorted (w := w1) (g := g) (n := n) (os := os) (sortL ss).toArray
    refine ⟨_, sortL ss, rfl, h6, ?_, h5.grown hgr h5.size fun k e => by cases e; exact hg0⟩
    rw [← hlen]
    refine row_of_holds (Nat.lt_of_lt_of_le hgl hgr.size) (holdsK_grow _ _ _ _ _ _ _ (by simpa [putRowK, putRow, mapBlock, Sort.ahead] using hgl) (holdsK_putRowK _ _ _ _ _ ss.toArray _ ?_ (by simp [hlen])))
    exact holdsK_ahead _ _ _ _ _ _ _ HH.out

set_option maxHeartbeats 1000000 in
theorem places_any {c n : Nat} {F : Nat → Prop} {f : Plc → Int} {q : Cnt} {w : World} (hn : n ≤ 1000000) (hC : IsC w c F f q n) :
    Calls Tryz.prog 57 #[.pointer (some ⟨c, 0, none⟩)] w fun e w' => ∃ v l, e = .returned v ∧ PlacesOf f l ∧ RowP w' v l ∧ Below w.heap.size w w' := by
  obtain ⟨mp, hb, hm, hF⟩ := hC
  have r := hb.rule
  unfold cv at r
  have hk := fun w' => (callsIn_wide (n := 6)).1 (keys_in Fence.wide 6 trivial rfl mp w')
  have hs := sorted_any (w := w.alloc (.cells #[.map mp] 143)) (Bm := w.heap.size) (by simp) ((Blk.new 0 w [.map mp] _).rule 0) (hm.more _) (by unfold maxLen; omega) (by omega)
  go_enter Tryz.func57, Tryz.ntmps57
  go_wp2_with fail
  refine (hk _).mono ?_
  rintro e w1 ⟨rfl, rfl⟩
  clear hk
  go_wp2_with fail
  refine hs.mono ?_
  rintro e w2 ⟨v, l, rfl, h1, h2, h3⟩
  clear hs
  go_wp2
  go_ret
  exact ⟨v, l, rfl, h1, h2, ((Below.refl _ _).alloc (Nat.le_refl _) _).trans (h3.mono (by simp))⟩
end Go.Proofs.YtchcdfoncebemaaGreatDoor

/- The contract of memory: the program's words are the reference's. -/
namespace Go.Proofs.YtchcdfoncebemaaGreatDoor
open Go.RowKit Go.Maps
set_option maxRecDepth 100000

section
variable {w0 w : World} {R : List Item} {p c m n : Nat} {G FU : Nat → Prop} {qc : Cnt} {ml : List OneR}
set_option maxHeartbeats 3200000 in
theorem memory15 (hl : ml.length ≤ 900000) (hn : n ≤ 900000) (hE : Env w0 (wbox p c :: cellI c G (getL ml) qc n :: refI m FU ml :: R) w) :
    Calls Tryz.prog 27 #[.pointer (some ⟨p, 0, none⟩), .pointer (some ⟨m, 0, none⟩)] w fun o w' => o = .returned (.bool true) ∧ Env w0 (wbox p c :: cellI c G (getL ml) qc n :: refI m FU ml :: R) w' := by
  go_enter Tryz.func27, Tryz.ntmps27
  go_wp2_with fail
  refine (cells_w 0 1 hE rfl rfl).mono ?_
  rintro o w1 ⟨c2, F2, rfl, hE1⟩
  clear hE
  go_wp2_with fail
  refine (places_any (by omega) (hE1.cell 0 rfl)).mono ?_
  rintro e w5 ⟨v5, m5, rfl, hp5, hr5, hb⟩
  have hE5 := hE1.over hb
  clear hb hE1
  go_wp2_with fail
  refine (refPlaces_any (by omega) (hE5.ref 3 rfl).nodup (hE5.ref 3 rfl)).mono ?_
  rintro e w6 ⟨m6, v6, rfl, hp6, hm6, ho6, hb⟩
  have hE6 := hE5.over hb
  obtain rfl := hp5.eq hp6
  have hr5' := hr5.below hb
  have hr6 := ownsRow_rowP ho6
  have hwf : ∀ x ∈ m5, Wf x := fun x hx => Classical.byContradiction fun h => ((hp5.2 x).1 hx) ((hE6.cell 2 rfl).words.out x h)
  have hm5 : m5.length ≤ 900000 := by omega
  obtain ⟨A1, cp1, rfl⟩ := hr5'.len
  obtain ⟨A2, cp2, rfl⟩ := hr6.len
  have H1 := Lib.hid hr5'
  have H2 := Lib.hid hr6
  have HWF := Lib.hid hwf
  clear hb hE5 hp5 hp6 hr5 ho6 hm6 hr5' hr6 hwf
  go_wp2_with fail
  go_loopw [7] (fun i wr => ∃ k : Nat, k ≤ m5.length ∧ i = .int .i64 k ∧ Env w0 (cellI c2 F2 (getL ml) ⟨0, 0, 0, 0, 0⟩ n :: wbox p c :: cellI c G (getL ml) qc n :: refI m FU ml :: R) wr ∧ Below w6.heap.size w6 wr) (fun i _ => m5.length - (intOf i).toNat)
  case atStart => exact ⟨0, Nat.zero_le _, rfl, hE6, Below.refl _ _⟩
  case round =>
    clear hE6
    obtain ⟨k, hk, rfl, hEr, hB⟩ := hrel
    by_cases hlt : k < m5.length
    · have hb1 : decide ((k : Int) < (m5.length : Int)) = true := by simp; omega
      have hlti : (k : Int) < (m5.length : Int) := by omega
      rcases H1.out with ⟨h0, _⟩ | ⟨g1, cap1, e1, hg1, hc1⟩
      · rw [h0] at hlt; simp at hlt
      rcases H2.out with ⟨h0, _⟩ | ⟨g2, cap2, e2, hg2, hc2⟩
      · rw [h0] at hlt; simp at hlt
      simp only [Value.slice.injEq] at e1 e2
      obtain ⟨rfl, -, rfl⟩ := e1
      obtain ⟨rfl, -, rfl⟩ := e2
      obtain ⟨a0, a1, a2⟩ := hc1 k hlt
      obtain ⟨b0, b1, b2⟩ := hc2 k hlt
      have hx := HWF.out (m5.getD k z3) (by rw [List.getD_eq_getElem?_getD, List.getElem?_eq_getElem hlt]; exact List.getElem_mem hlt)
      clear hc1 hc2
      generalize m5.getD k z3 = o at a0 a1 a2 b0 b1 b2 hx
      obtain ⟨x, y, z⟩ := o
      simp only at a0 a1 a2 b0 b1 b2
      obtain ⟨v, hv⟩ : ∃ v, getL ml (x, y, z) = v := ⟨_, rfl⟩
      have HC : Hid (∀ w', (Env w0 (cellI c2 F2 (getL ml) ⟨0, 0, 0, 0, 0⟩ n :: wbox p c :: cellI c G (getL ml) qc n :: refI m FU ml :: R) w' ∧ Below w6.heap.size w6 w') → (w'.cell? ⟨g1, k * 3, none⟩ = some (.int .i64 x) ∧ w'.cell? ⟨g1, k * 3 + 1, none⟩ = some (.int .i64 y) ∧ w'.cell? ⟨g1, k * 3 + 2, none⟩ = some (.int .i64 z) ∧
          w'.cell? ⟨g2, k * 3, none⟩ = some (.int .i64 x) ∧ w'.cell? ⟨g2, k * 3 + 1, none⟩ = some (.int .i64 y) ∧ w'.cell? ⟨g2, k * 3 + 2, none⟩ = some (.int .i64 z))) := Lib.hid fun w' hb => by
        refine ⟨?_, ?_, ?_, ?_, ?_, ?_⟩
        · rw [hb.2.cell (p := ⟨g1, k * 3, none⟩) hg1]; exact a0
        · rw [hb.2.cell (p := ⟨g1, k * 3 + 1, none⟩) hg1]; exact a1
        · rw [hb.2.cell (p := ⟨g1, k * 3 + 2, none⟩) hg1]; exact a2
        · rw [hb.2.cell (p := ⟨g2, k * 3, none⟩) hg2]; exact b0
        · rw [hb.2.cell (p := ⟨g2, k * 3 + 1, none⟩) hg2]; exact b1
        · rw [hb.2.cell (p := ⟨g2, k * 3 + 2, none⟩) hg2]; exact b2
      have HPK : Hid (∀ w', (Env w0 (cellI c2 F2 (getL ml) ⟨0, 0, 0, 0, 0⟩ n :: wbox p c :: cellI c G (getL ml) qc n :: refI m FU ml :: R) w' ∧ Below w6.heap.size w6 w') → Calls Tryz.prog 36 #[.pointer (some ⟨p, 0, none⟩), .agg #[.int .i64 x, .int .i64 y, .int .i64 z]] w' fun e v' => e = .returned (.int .u64 v) ∧ Below w'.heap.size w' v') := Lib.hid fun w' hb => by
        rw [← hv]
        exact peek_w x y z hx 1 2 hb.1 rfl rfl
      have HGT : Hid (∀ w', (Env w0 (cellI c2 F2 (getL ml) ⟨0, 0, 0, 0, 0⟩ n :: wbox p c :: cellI c G (getL ml) qc n :: refI m FU ml :: R) w' ∧ Below w6.heap.size w6 w') → Calls Tryz.prog 50 #[.pointer (some ⟨m, 0, none⟩), .agg #[.int .i64 x, .int .i64 y, .int .i64 z]] w' fun e v' => e = .returned (.int .u64 v) ∧ Below w'.heap.size w' v') := Lib.hid fun w' hb => by
        rw [← hv]
        exact refGet_any x y z (by omega) (hb.1.ref 3 rfl)
      clear a0 a1 a2 b0 b1 b2 hv hx
      go_wp2_with fail
      refine wp_text (S := (fun w' => Env w0 (cellI c2 F2 (getL ml) ⟨0, 0, 0, 0, 0⟩ n :: wbox p c :: cellI c G (getL ml) qc n :: refI m FU ml :: R) w' ∧ Below w6.heap.size w6 w')) (by kernel_rfl) (by kernel_rfl) ⟨hEr.drew, hB.drew⟩ (fun hT => ?_)
      have hT9 := Lib.hid hT
      clear hT
      repeat (first
        | (refine text_value (v := ?_) hT9.out (by rfl) ?_ ?_; rotate_left; (focus (intro w5 hS; obtain ⟨a0, a1, a2, b0, b1, b2⟩ := HC.out _ hS; go_simp <;> with_reducible rfl)); (try simp only [Act.put, List.setIfInBounds_toArray, List.set_cons_zero, List.set_cons_succ]))
        | (refine text_off hT9.out (by rfl) ?_; (try simp only [Act.put, List.setIfInBounds_toArray, List.set_cons_zero, List.set_cons_succ]))
        | (refine text_call (v := ?_) (f := ?_) (args := ?_) hT9.out (by rfl) ?_ ?_ ?_; rotate_left 3; (focus (intro w5 hS; obtain ⟨a0, a1, a2, b0, b1, b2⟩ := HC.out _ hS; go_simp; constructor <;> with_reducible rfl)); (focus (intro w5 hS; (first | (with_reducible refine (HPK.out _ hS).mono ?_; rintro o w8 ⟨rfl, hb5⟩; constructor; with_reducible rfl; exact ⟨hS.1.over hb5, hS.2.trans (hb5.mono hS.2.size)⟩) | (with_reducible refine (HGT.out _ hS).mono ?_; rintro o w8 ⟨rfl, hb5⟩; constructor; with_reducible rfl; exact ⟨hS.1.over hb5, hS.2.trans (hb5.mono hS.2.size)⟩)))); (try simp only [Act.put, List.setIfInBounds_toArray, List.set_cons_zero, List.set_cons_succ])))
      refine InText.nil fun w5 hS5 => ?_
      clear hT9
      clear hEr hB HC HPK HGT
      go_wp2_with fail
      exact ⟨⟨k + 1, by omega, by simp, hS5⟩, by simp [intOf]; omega⟩
    · have hb1 : decide ((k : Int) < (m5.length : Int)) = false := by simp; omega
      go_wp2_with fail
      go_ret
      exact ⟨rfl, hEr.sub (.cons _ (List.Sublist.refl _))⟩
end
end Go.Proofs.YtchcdfoncebemaaGreatDoor

/- Contracts of the functions of layer 3. -/
namespace Go.Proofs.YtchcdfoncebemaaGreatDoor
open Go.RowKit
set_option maxRecDepth 100000

set_option maxHeartbeats 400000 in
theorem alone_any (k s b h l : Int) (w : World) : Calls Tryz.prog 35 #[.agg #[.int .i64 k, .int .i64 s, .int .i64 b, .int .i64 h, .int .i64 l]] w fun e w' => e = .returned (.int .i64 (aloneI k s b h l)) ∧ Below w.heap.size w w' := by
  have hF := (Fr.start w).push w.heap.size rfl [.int .i64 k, .int .i64 s, .int .i64 b, .int .i64 h, .int .i64 l] 38
  have r := hF.rule 0 rfl
  go_enter Tryz.func35, Tryz.ntmps35
  go_wp2_with
    (with_reducible refine (check_any _ _ _ _ _ _).mono ?_; rintro e w1 ⟨rfl, hb⟩; replace hF := hF.over hb; clear hb r; have r := hF.rule 0 rfl)
  all_goals
    go_ret
    (try go_light)
    (try simp only [bne_iff_ne, ne_eq, bne_eq_false_iff_eq, beq_iff_eq, beq_eq_false_iff_ne, Bool.or_eq_true, Bool.and_eq_true, decide_eq_true_eq, decide_eq_false_iff_not, Bool.or_eq_false_iff, Bool.not_eq_true', Bool.not_eq_false'] at *)
    refine ⟨ret_int ?_, hF.below⟩
    by_cases hc : chkI k s b h l = 0
    · have hy := chk_yes hc
      simp only [aloneI, hc, if_true]
      first | exact alone_wrap (by omega) (by omega) | omega
    · simp only [aloneI, hc, if_false]
      (try (first | rfl | omega))

end Go.Proofs.YtchcdfoncebemaaGreatDoor

/- What the condition on the package's variables gives: the three fields stand in them; and that the program's own start meets it. -/
namespace Go.Proofs.YtchcdfoncebemaaGreatDoor
open Go.ChangeShapes Go.WideShapes Go.ChangeAt Go.RowKit
set_option maxRecDepth 100000

section
variable {P : Program} {w : World}
theorem cell_lt {b o : Nat} {v : Value} (h : w.cell? ⟨b, o, none⟩ = some v) : b < w.heap.size := by
  rcases Nat.lt_or_ge b w.heap.size with h' | h'
  · exact h'
  · simp [World.cell?, Array.getElem?_eq_none h'] at h
/-- The head of a list of laid variables: a struct of two ints. -/
theorem laid_pair {n : String} {g : Nat} {t k : TypeId} {f0 f1 : Field} {a b : Int} {r : List (String × DataW Unit)} {ps : List MemPlace}
    (h : DataW.LaidVars P w ((n, .agg [.lit (.int .i64 a), .lit (.int .i64 b)]) :: r) ps) (hg : P.globalNamed n = some g) (ht : (P.globals[g]?).map (·.type) = some t)
    (hs : P.underlying t = some (.struct #[f0, f1])) (hc : P.cellsOf t = 2) (h0 : f0.offset = 0) (h1 : f1.offset = 1) (hk0 : f0.type = k) (hk1 : f1.type = k) (hk : P.cellsOf k = 1) (hi : P.underlying k = some (.int .i64)) :
    w.cell? ⟨g, 0, none⟩ = some (.int .i64 a) ∧ w.cell? ⟨g, 1, none⟩ = some (.int .i64 b) ∧ ∃ q, DataW.LaidVars P w r q := by
  obtain ⟨g', t', cs, fuel, p, q, hg', ht', hv, hd, hr, -⟩ := h
  obtain rfl := Option.some.inj (hg.symm.trans hg')
  obtain rfl := Option.some.inj (ht.symm.trans ht')
  obtain ⟨xs, m, -, hx, hl, hn, hel⟩ := DataW.trod_struct hs hd
  have e0 := hel 0 f0 rfl
  have e1 := hel 1 f1 rfl
  rw [h0, hk0, hk] at e0
  rw [h1, hk1, hk] at e1
  obtain ⟨l⟩ := cs
  rw [hc] at hl
  match l, hl, xs, hn, hx, e0, e1, hv with
  | [c0, c1], _, [x0, x1], _, hx, e0, e1, hv =>
    simp only [Prod.mk.injEq, List.map_cons, List.map_nil, DataW.agg.injEq, List.cons.injEq] at hx
    obtain ⟨n0, s0, y0, -⟩ := DataW.trod_int hi (show DataW.trod _ P w 0 _ false m k [c0] = some x0 from e0)
    obtain ⟨n1, s1, y1, -⟩ := DataW.trod_int hi (show DataW.trod _ P w 0 _ false m k [c1] = some x1 from e1)
    simp at s0 s1
    subst s0 s1
    have k0 := hx.1.1
    have k1 := hx.1.2.1
    rw [y0] at k0
    rw [y1] at k1
    simp at k0 k1
    subst k0 k1
    exact ⟨by rw [World.var?_cell hg hv 0]; rfl, by rw [World.var?_cell hg hv 1]; rfl, q, hr⟩
end

def laid3 : List (String × DataW Unit) := [("revenant/link.versionPart", Rows.laid_revenant_link_versionPart), ("revenant/link.slotPart", Rows.laid_revenant_link_slotPart), ("revenant/link.markPart", Rows.laid_revenant_link_markPart)]

/-- What the condition gives the walks. -/
theorem glo_of_laid {W : World} (h : laidMetH Tryz.prog laid3 W) : Glo W := by
  rw [MakeChecks.laidMetH_plain _ _ _ (by kernel_rfl)] at h
  obtain ⟨ps, h, -, -⟩ := h
  obtain ⟨a0, a1, q1, h⟩ := laid_pair (g := 2) (t := 124) (k := 3) h (by kernel_rfl) (by kernel_rfl) Tryz.underlying124 (by kernel_rfl) rfl rfl rfl rfl (by kernel_rfl) Tryz.underlying3
  obtain ⟨b0, b1, q2, h⟩ := laid_pair (g := 0) (t := 124) (k := 3) h (by kernel_rfl) (by kernel_rfl) Tryz.underlying124 (by kernel_rfl) rfl rfl rfl rfl (by kernel_rfl) Tryz.underlying3
  obtain ⟨c0, c1, q3, h⟩ := laid_pair (g := 1) (t := 124) (k := 3) h (by kernel_rfl) (by kernel_rfl) Tryz.underlying124 (by kernel_rfl) rfl rfl rfl rfl (by kernel_rfl) Tryz.underlying3
  exact ⟨⟨a0, a1⟩, ⟨b0, b1⟩, ⟨c0, c1⟩, cell_lt a0, cell_lt b0, cell_lt c0⟩

/-- The program's own start meets the condition. -/
theorem door_met (os : Os) (args : Array Value) : laidMetH Tryz.prog laid3 ((World.doorLaid Tryz.prog 24 os).forCall (fun _ _ => 0) ⟨#[], args, []⟩).memory :=
  laidMetH_of_parts3 (fuel := 8) (laidMet_of_run' 8 (by kernel_rfl) (by kernel_rfl)) (by kernel_rfl) (by kernel_rfl)
end Go.Proofs.YtchcdfoncebemaaGreatDoor
