/- What is proved on the way to the statement, part 13 of 15: contracts of the functions, among other things in memory. -/
import Derived.Test.YtmifdkbpbkafjaaGreatDoorE12
import Derived.LoopIn

/- Threads: the contract of step, where a Retire begins. -/
namespace Go.Proofs.YtmifdkbpbkafjaaGreatDoor
open Go.RowKit Go.Maps
set_option maxRecDepth 100000

section
variable {w0 w9 : World} {R : List Item} {C : Cf} {d : Dd} {X0 : Tm} {V : Wm} {T : Th} {G FU : Nat → Prop} {qc : Cnt} {ml : List OneR} {n : Nat}
set_option maxHeartbeats 6400000 in
theorem step03_t (hpc : T.pc = 3) (hn : n < maxLen) (hl : T.ql.length + 1 ≤ 1000000) (he : InU T.re) (hs : In64 T.rs) (hre : T.rpc ≠ 0 → epI T.re = T.re) (hrp : T.rpc = 0 ∨ T.rpc = 1) (hml : ml.length ≤ 999999)
    (r70 : w9.cell? ⟨X0.thr, 4, none⟩ = some (.int .i64 0)) (hbg : Calls Tryz.prog 39 #[.pointer (some ⟨X0.thr, 0, none⟩)] w9 fun o w' => o = .returned (.bool true) ∧ ∃ (X : Tm) (a b : Nat), X.pr = .pointer (some ⟨a, 0, none⟩) ∧ X.pq = .pointer (some ⟨b, 0, none⟩) ∧ Same X0 X ∧ 0 ≤ X.N ∧ X.N ≤ 4000000 ∧ Env w0 (LT (SP C X V T (getL ml) G qc n) (LU (SR C X V T FU ml) (boxI X0.thr (thv X T) :: boxI a (rtv X.c (nxR a T.rpc) T.rs T.re) :: boxI b (rrv T.rs (T.rpc : Int) T.re) :: R))) w') :
        Calls Tryz.prog 14 #[.pointer (some ⟨X0.thr, 0, none⟩), .pointer (some ⟨V.p, 0, none⟩), .pointer (some ⟨V.m, 0, none⟩)] w9 fun o w' => o = .returned (.bool true) ∧ ∃ (X' : Tm) (G' FU' : Nat → Prop) (qc' : Cnt) (n' : Nat) (ml' : List OneR) (ms' : List Item), Same X0 X' ∧ getL ml' = (actM C d T (getL ml)).2 ∧ ml'.length ≤ ml.length + 1 ∧ n' ≤ n + 1 ∧ 0 ≤ X'.N ∧ X'.N ≤ 4000000 ∧ Mach C d X' (actM C d T (getL ml)).1 ms' ∧ Env w0 (LT (SP C X' V (actM C d T (getL ml)).1 (getL ml') G' qc' n') (LU (SR C X' V (actM C d T (getL ml)).1 FU' ml') (boxI X'.thr (thv X' (actM C d T (getL ml)).1) :: (ms' ++ R)))) w' := by
  obtain ⟨hk1, hk2, hst⟩ := retireM_keep T (getL ml)
  have hact : actM C d T (getL ml) = ({ (retireM T (getL ml)).2.1 with pc := if (retireM T (getL ml)).1 = 0 then 3 else 0, full := false }, (retireM T (getL ml)).2.2) := by
    unfold actM
    rw [if_neg (by omega), if_neg (by omega), if_pos hpc]
  rw [hact]
  clear hact
  obtain ⟨⟨st, T', f'⟩, hr⟩ : ∃ r, retireM T (getL ml) = r := ⟨_, rfl⟩
  rw [hr] at hst hk1 hk2 ⊢
  dsimp only at hst hk1 hk2 ⊢
  have HKP := Lib.hid (And.intro hk1 hk2)
  have HR := Lib.hid hr
  have HSIDE := Lib.hid (And.intro hpc (And.intro hn (And.intro hl (And.intro he (And.intro hs (And.intro hre (And.intro hrp (And.intro hml (True.intro)))))))))
  have HBG := Lib.hid hbg
  clear hbg hr hk1 hk2 hpc hn hl he hs hre hrp hml
  refine gen_post fun PP HPP => ?_
  go_enter Tryz.func14, Tryz.ntmps14
  go_wp2_with fail
  refine HBG.out.mono ?_
  rintro o w ⟨rfl, X, a, b, hpr, hpq, hsm, hN0, hN1, hE⟩
  have HSM := Lib.hid hsm
  have hN := And.intro hN0 hN1
  obtain ⟨hpc, hn, hl, he, hs, hre, hrp, hml, -⟩ := HSIDE.out
  clear hN0 hN1 HBG r70 hsm HSIDE
  have hthv : thv X T = [Value.pointer (some ⟨X.c, 0, none⟩), .pointer (some ⟨X.u, 0, none⟩), .slice X.dA X.dn X.dc, .int .i64 T.nd, .int .i64 3, X.pa, X.pb, .pointer (some ⟨a, 0, none⟩), .pointer (some ⟨b, 0, none⟩), X.pg, X.ph, .int .i64 T.done, .bool T.full] := by
    unfold thv
    rw [hpr, hpq, hpc]
    rfl
  rw [hthv] at hE
  have r7 := hE.rule 7 rfl
  have f12 := hE.thaw 7 rfl 12 (by simp)
  have hE1 := hE.put 7 rfl (j := 12) (by simp) (.bool false)
  have hA : Env w0 (boxI a (rtv X.c (nxR a T.rpc) T.rs T.re) :: LT (SP C X V T (getL ml) G qc n) (LU (SR C X V T FU ml) (boxI X0.thr [Value.pointer (some ⟨X.c, 0, none⟩), .pointer (some ⟨X.u, 0, none⟩), .slice X.dA X.dn X.dc, .int .i64 T.nd, .int .i64 3, X.pa, X.pb, .pointer (some ⟨a, 0, none⟩), .pointer (some ⟨b, 0, none⟩), X.pg, X.ph, .int .i64 T.done, .bool false] :: boxI b (rrv T.rs (T.rpc : Int) T.re) :: R))) (w.setCell ⟨X0.thr, 12, none⟩ (.bool false)) := hE1.perm (perm_of fun z => by
      simp only [LT, LU, SP, SR, List.count_append, List.count_cons, List.set_cons_succ, List.set_cons_zero]
      omega)
  have r7b : ∀ j, (w.setCell ⟨X0.thr, 12, none⟩ (.bool false)).cell? ⟨X0.thr, j, none⟩ = [Value.pointer (some ⟨X.c, 0, none⟩), .pointer (some ⟨X.u, 0, none⟩), .slice X.dA X.dn X.dc, .int .i64 T.nd, .int .i64 3, X.pa, X.pb, .pointer (some ⟨a, 0, none⟩), .pointer (some ⟨b, 0, none⟩), X.pg, X.ph, .int .i64 T.done, .bool false][j]? := hE1.rule 7 rfl
  have hP := reP hn hl he hs hA
  have har := fun (v : World) (L : List Item) => reR (C := C) (w0 := w0) (w := v) (R := L) (b := b) (FU := FU) (X := X) (V := V) hl he hre hrp hml hN
  rw [HR.out] at hP
  simp only [HR.out] at har
  have HP := Lib.hid hP
  have HAR := Lib.hid har
  clear HR har hP hA hE hE1 hl he hs hre hrp hml hN
  go_wp2_with fail
  refine HP.out.mono ?_
  rintro o w1 ⟨rfl, F', k', G', qc', n', hn', hcase⟩
  clear HP r7 r7b f12
  obtain ⟨X1, hX1⟩ : ∃ X1 : Tm, X1 = { X with F := F', kq := k' } := ⟨_, rfl⟩
  obtain ⟨L, hL, hmem, hfin⟩ : ∃ L, Env w0 (boxI b (rrv T.rs (T.rpc : Int) T.re) :: LU (SR C X V T FU ml) L) w1 ∧ boxI X0.thr [Value.pointer (some ⟨X.c, 0, none⟩), .pointer (some ⟨X.u, 0, none⟩), .slice X.dA X.dn X.dc, .int .i64 T.nd, .int .i64 3, X.pa, X.pb, .pointer (some ⟨a, 0, none⟩), .pointer (some ⟨b, 0, none⟩), X.pg, X.ph, .int .i64 T.done, .bool false] ∈ L ∧ ((st = 0 ∧ L = boxI a (rtv X.c (nxR a T'.rpc) T'.rs T'.re) :: LT (SP C X1 V T' f' G' qc' n') (boxI X0.thr [Value.pointer (some ⟨X.c, 0, none⟩), .pointer (some ⟨X.u, 0, none⟩), .slice X.dA X.dn X.dc, .int .i64 T.nd, .int .i64 3, X.pa, X.pb, .pointer (some ⟨a, 0, none⟩), .pointer (some ⟨b, 0, none⟩), X.pg, X.ph, .int .i64 T.done, .bool false] :: R)) ∨ (st ≠ 0 ∧ L = LT (SP C X1 V T' f' G' qc' n') (boxI X0.thr [Value.pointer (some ⟨X.c, 0, none⟩), .pointer (some ⟨X.u, 0, none⟩), .slice X.dA X.dn X.dc, .int .i64 T.nd, .int .i64 3, X.pa, X.pb, .pointer (some ⟨a, 0, none⟩), .pointer (some ⟨b, 0, none⟩), X.pg, X.ph, .int .i64 T.done, .bool false] :: R))) := by
    subst hX1
    rcases hcase with ⟨h0, hE1⟩ | ⟨h0, hE1⟩
    · refine ⟨_, hE1.perm (perm_of fun z => by
        simp only [LT, LU, List.count_append, List.count_cons]
        omega), by simp [LT], .inl ⟨h0, rfl⟩⟩
    · refine ⟨_, hE1.perm (perm_of fun z => by
        simp only [LT, LU, List.count_append, List.count_cons]
        omega), by simp [LT], .inr ⟨h0, rfl⟩⟩
  have HFIN := Lib.hid hfin
  have HMEM := Lib.hid hmem
  clear hfin hmem hcase
  have r7 : ∀ j, w1.cell? ⟨X0.thr, j, none⟩ = [Value.pointer (some ⟨X.c, 0, none⟩), .pointer (some ⟨X.u, 0, none⟩), .slice X.dA X.dn X.dc, .int .i64 T.nd, .int .i64 3, X.pa, X.pb, .pointer (some ⟨a, 0, none⟩), .pointer (some ⟨b, 0, none⟩), X.pg, X.ph, .int .i64 T.done, .bool false][j]? := Blk.rule (hL.mem (List.mem_append_right [_, _, _, _] HMEM.out))
  go_wp2_with fail
  clear r7
  refine Ord.wp_chain [10] (fun v => Blk 0 v X0.thr [Value.pointer (some ⟨X.c, 0, none⟩), .pointer (some ⟨X.u, 0, none⟩), .slice X.dA X.dn X.dc, .int .i64 T.nd, .int .i64 3, X.pa, X.pb, .pointer (some ⟨a, 0, none⟩), .pointer (some ⟨b, 0, none⟩), X.pg, X.ph, .int .i64 T.done, .bool false]) (fun k v => if k = 0 then Env w0 (boxI b (rrv T.rs (T.rpc : Int) T.re) :: LU (SR C X V T FU ml) L) v else ∃ A' rc' N' FU' ml', getL ml' = f' ∧ ml'.length ≤ ml.length + 1 ∧ 0 ≤ N' ∧ N' ≤ 4000000 ∧ ((st = 0 ∧ Env w0 (boxI b (rrv T'.rs (T'.rpc : Int) T'.re) :: LU (SR C { X with A := A', rc := rc', N := N' } V T' FU' ml') L) v) ∨ (st ≠ 0 ∧ Env w0 (LU (SR C { X with A := A', rc := rc', N := N' } V T' FU' ml') L) v))) (by kernel_rfl) (by kernel_rfl) (by kernel_rfl) (hL.drew.mem (List.mem_append_right [_, _, _, _] HMEM.out)) (by rw [if_pos rfl]; exact hL.drew) (fun hT => ?_)
  have hT9 := Lib.hid hT
  clear hT
  repeat (first
    | (refine Ord.ch_value (v := ?_) hT9.out (by decide) (by rfl) ?_ ?_; rotate_left; (focus (intro w5 hS; have r := Blk.rule hS; go_simp <;> with_reducible rfl)); (try simp only [Act.put, List.setIfInBounds_toArray, List.set_cons_zero, List.set_cons_succ]))
    | (refine Ord.ch_off hT9.out (by decide) (by rfl) ?_; (try simp only [Act.put, List.setIfInBounds_toArray, List.set_cons_zero, List.set_cons_succ])))
  refine Ord.ch_turn (v := .int .i64 st) 0 hT9.out rfl (by decide) (Or.inl rfl) (by rfl) ?_ ?_
  · rintro w5 hC5 hA5
    rw [if_pos rfl] at hA5
    go_simp
    simp only [Ord.LandsIn]
    refine (HAR.out w5 L hA5).mono ?_
    rintro e w6 ⟨rfl, A', rc', N', FU', ml', h1, h2, h3, h4, h5⟩
    refine ⟨rfl, ?_, ?_⟩
    · rcases h5 with ⟨-, h5⟩ | ⟨-, h5⟩
      · exact h5.mem (List.mem_append_right [_, _, _, _] HMEM.out)
      · exact h5.mem (List.mem_append_right [_, _, _] HMEM.out)
    · exact ⟨A', rc', N', FU', ml', h1, h2, h3, h4, h5⟩
  (try simp only [Act.put, List.setIfInBounds_toArray, List.set_cons_zero, List.set_cons_succ])
  repeat (first
    | (refine Ord.ch_value (v := ?_) hT9.out (by decide) (by rfl) ?_ ?_; rotate_left; (focus (intro w5 hS; skip; go_simp <;> with_reducible rfl)); (try simp only [Act.put, List.setIfInBounds_toArray, List.set_cons_zero, List.set_cons_succ]))
    | (refine Ord.ch_off hT9.out (by decide) (by rfl) ?_; (try simp only [Act.put, List.setIfInBounds_toArray, List.set_cons_zero, List.set_cons_succ])))
  refine Ord.InText.nil fun w5 hS => ?_
  clear hT9
  obtain ⟨hC9, hA9⟩ := Ord.chain_end hS
  clear hS
  rw [if_neg (by decide)] at hA9
  obtain ⟨A', rc', N', FU', ml', h1, h2, h3, h4, h5⟩ := hA9
  have HH := Lib.hid (And.intro h1 (And.intro h2 (And.intro h3 h4)))
  have H5 := Lib.hid h5
  clear h1 h2 h3 h4 h5 hC9 hL
  rcases hst with hst | hst
  · obtain ⟨h1, h2, h3, h4⟩ := HH.out
    have HS := Lib.hid hst
    have b0 : (st != 0) = false := by rw [hst]; decide
    clear hst
    rcases HFIN.out with ⟨-, hLe⟩ | ⟨h0, -⟩
    rotate_left
    · exact absurd HS.out h0
    rcases H5.out with ⟨-, hE5⟩ | ⟨h0, -⟩
    rotate_left
    · exact absurd HS.out h0
    subst hLe
    subst hX1
    have hF : Env w0 (LT (SP C ({ X with F := F', kq := k', A := A', rc := rc', N := N' } : Tm) V T' f' G' qc' n') (LU (SR C ({ X with F := F', kq := k', A := A', rc := rc', N := N' } : Tm) V T' FU' ml') (boxI X0.thr [Value.pointer (some ⟨X.c, 0, none⟩), .pointer (some ⟨X.u, 0, none⟩), .slice X.dA X.dn X.dc, .int .i64 T.nd, .int .i64 3, X.pa, X.pb, .pointer (some ⟨a, 0, none⟩), .pointer (some ⟨b, 0, none⟩), X.pg, X.ph, .int .i64 T.done, .bool false] :: boxI a (rtv X.c (nxR a T'.rpc) T'.rs T'.re) :: boxI b (rrv T'.rs (T'.rpc : Int) T'.re) :: R))) w5 := hE5.perm (perm_of fun z => by
      simp only [LT, LU, SP, SR, List.count_append, List.count_cons, List.set_cons_succ, List.set_cons_zero]
      omega)
    have HPF := Lib.hid hF
    have HT9 : Hid (thv ({ X with F := F', kq := k', A := A', rc := rc', N := N' } : Tm) ({ T' with pc := 3, full := false } : Th) = [Value.pointer (some ⟨X.c, 0, none⟩), .pointer (some ⟨X.u, 0, none⟩), .slice X.dA X.dn X.dc, .int .i64 T.nd, .int .i64 3, X.pa, X.pb, .pointer (some ⟨a, 0, none⟩), .pointer (some ⟨b, 0, none⟩), X.pg, X.ph, .int .i64 T.done, .bool false]) := Lib.hid (by
      unfold thv
      dsimp only
      rw [hpr, hpq, HKP.out.1, HKP.out.2]
      rfl)
    clear hE5 hF HFIN HMEM H5
    go_wp2_with fail
    (try go_ret)
    have hs9 := HS.out
    clear HS b0
    subst hs9
    refine HPP.out _ _ ?_
    have hr1 : ({ T' with pc := if (0 : Int) = 0 then 3 else 0, full := false } : Th) = ({ T' with pc := 3, full := false } : Th) := rfl
    rw [hr1]
    refine ⟨rfl, ({ X with F := F', kq := k', A := A', rc := rc', N := N' } : Tm), G', FU', qc', n', ml', [boxI a (rtv X.c (nxR a T'.rpc) T'.rs T'.re), boxI b (rrv T'.rs (T'.rpc : Int) T'.re)], HSM.out, h1, h2, hn', h3, h4, (by unfold Mach; rw [if_neg (show ¬ (3 : Nat) = 2 by decide), if_pos rfl]; exact ⟨a, b, hpr, hpq, rfl⟩), ?_⟩
    rw [HT9.out, h1, show (({ X with F := F', kq := k', A := A', rc := rc', N := N' } : Tm)).thr = X0.thr from HSM.out.1]
    exact HPF.out
  · obtain ⟨h1, h2, h3, h4⟩ := HH.out
    have HS := Lib.hid hst
    have b0 : (st != 0) = true := by rw [hst]; decide
    clear hst
    rcases HFIN.out with ⟨h0, -⟩ | ⟨-, hLe⟩
    · exact absurd (HS.out.symm.trans h0) (by decide)
    rcases H5.out with ⟨h0, -⟩ | ⟨-, hE5⟩
    · exact absurd (HS.out.symm.trans h0) (by decide)
    subst hLe
    subst hX1
    have hF : Env w0 (LT (SP C ({ X with F := F', kq := k', A := A', rc := rc', N := N' } : Tm) V T' f' G' qc' n') (LU (SR C ({ X with F := F', kq := k', A := A', rc := rc', N := N' } : Tm) V T' FU' ml') (boxI X0.thr [Value.pointer (some ⟨X.c, 0, none⟩), .pointer (some ⟨X.u, 0, none⟩), .slice X.dA X.dn X.dc, .int .i64 T.nd, .int .i64 3, X.pa, X.pb, .pointer (some ⟨a, 0, none⟩), .pointer (some ⟨b, 0, none⟩), X.pg, X.ph, .int .i64 T.done, .bool false] :: R))) w5 := hE5.perm (perm_of fun z => by
      simp only [LT, LU, SP, SR, List.count_append, List.count_cons, List.set_cons_succ, List.set_cons_zero]
      omega)
    have q0 := hF.rule 7 rfl
    have g0 := hF.thaw 7 rfl 4 (by simp)
    have HPF := Lib.hid (hF.put 7 rfl (j := 4) (by simp) (Value.int .i64 0))
    have HT9 : Hid (thv ({ X with F := F', kq := k', A := A', rc := rc', N := N' } : Tm) ({ T' with pc := 0, full := false } : Th) = [Value.pointer (some ⟨X.c, 0, none⟩), .pointer (some ⟨X.u, 0, none⟩), .slice X.dA X.dn X.dc, .int .i64 T.nd, .int .i64 0, X.pa, X.pb, .pointer (some ⟨a, 0, none⟩), .pointer (some ⟨b, 0, none⟩), X.pg, X.ph, .int .i64 T.done, .bool false]) := Lib.hid (by
      unfold thv
      dsimp only
      rw [hpr, hpq, HKP.out.1, HKP.out.2]
      rfl)
    clear hE5 hF HFIN HMEM H5
    go_wp2_with fail
    (try go_ret)
    have hs9 := HS.out
    clear HS b0
    subst hs9
    refine HPP.out _ _ ?_
    have hr1 : ({ T' with pc := if (1 : Int) = 0 then 3 else 0, full := false } : Th) = ({ T' with pc := 0, full := false } : Th) := rfl
    rw [hr1]
    refine ⟨rfl, ({ X with F := F', kq := k', A := A', rc := rc', N := N' } : Tm), G', FU', qc', n', ml', [], HSM.out, h1, h2, hn', h3, h4, (by unfold Mach; rw [if_neg (show ¬ (0 : Nat) = 2 by decide), if_neg (show ¬ (0 : Nat) = 3 by decide), if_neg (show ¬ (0 : Nat) = 4 by decide)]), ?_⟩
    rw [HT9.out, h1, show (({ X with F := F', kq := k', A := A', rc := rc', N := N' } : Tm)).thr = X0.thr from HSM.out.1]
    exact HPF.out
end
end Go.Proofs.YtmifdkbpbkafjaaGreatDoor

/- Threads: the contract of step, where a Give goes on. -/
namespace Go.Proofs.YtmifdkbpbkafjaaGreatDoor
open Go.RowKit Go.Maps
set_option maxRecDepth 100000

theorem giveM_keep (C : Cf) (T : Th) (f : Mem) : (giveM C T f).2.1.nd = T.nd ∧ (giveM C T f).2.1.done = T.done ∧ ((giveM C T f).1 = 0 ∨ (giveM C T f).1 = 1 ∨ (giveM C T f).1 = 4) := by
  unfold giveM gdS poolG
  repeat' split
  all_goals first | exact ⟨rfl, rfl, .inl rfl⟩ | exact ⟨rfl, rfl, .inr (.inl rfl)⟩ | exact ⟨rfl, rfl, .inr (.inr rfl)⟩ | (dsimp only; refine ⟨rfl, rfl, ?_⟩; repeat' split) <;> simp

section
variable {w0 w : World} {R : List Item} {C : Cf} {d : Dd} {X : Tm} {V : Wm} {T : Th} {G FU : Nat → Prop} {qc : Cnt} {ml : List OneR} {n a b : Nat}
set_option maxHeartbeats 6400000 in
theorem step4_t (hpc : T.pc = 4) (hpg : X.pg = .pointer (some ⟨a, 0, none⟩)) (hph : X.ph = .pointer (some ⟨b, 0, none⟩))
    (hg : Glo w0) (hn : n < maxLen) (hl : T.ql.length + 1 ≤ 1000000) (hgh : InU T.gh) (hgp : T.gpc ≤ 3) (hq : 2 ≤ T.gpc → ∃ x y t, T.ql = (x, y, 0) :: t ∧ 0 ≤ x ∧ x ≤ 8388607) (hv : T.gpc = 3 → verI T.gh < 1099511627775) (hml : ml.length ≤ 999999) (hN : 0 ≤ X.N ∧ X.N ≤ 4000000)
    (hE : Env w0 (LT (SP C X V T (getL ml) G qc n) (LU (SR C X V T FU ml) (boxI X.thr (thv X T) :: boxI a (gvv X.c (nxG a T.gpc) T.gh T.gg) :: boxI b (rgv (T.gpc : Int) T.gh T.gg) :: R))) w) :
    Calls Tryz.prog 14 #[.pointer (some ⟨X.thr, 0, none⟩), .pointer (some ⟨V.p, 0, none⟩), .pointer (some ⟨V.m, 0, none⟩)] w fun o w' => o = .returned (.bool true) ∧ ∃ (X' : Tm) (G' FU' : Nat → Prop) (qc' : Cnt) (n' : Nat) (ml' : List OneR) (ms' : List Item), Same X X' ∧ getL ml' = (actM C d T (getL ml)).2 ∧ ml'.length ≤ ml.length + 1 ∧ n' ≤ n + 1 ∧ 0 ≤ X'.N ∧ X'.N ≤ 4000000 ∧ Mach C d X' (actM C d T (getL ml)).1 ms' ∧ Env w0 (LT (SP C X' V (actM C d T (getL ml)).1 (getL ml') G' qc' n') (LU (SR C X' V (actM C d T (getL ml)).1 FU' ml') (boxI X'.thr (thv X' (actM C d T (getL ml)).1) :: (ms' ++ R)))) w' := by
  have hfu : ∀ x, InU (getL ml x) := fun x => (hE.cell 3 rfl).words.1 x
  obtain ⟨hk1, hk2, hst⟩ := giveM_keep C T (getL ml)
  have hact : actM C d T (getL ml) = ({ (giveM C T (getL ml)).2.1 with pc := if (giveM C T (getL ml)).1 = 0 then 4 else 0, full := false }, (giveM C T (getL ml)).2.2) := by
    unfold actM
    rw [if_neg (by omega), if_neg (by omega), if_neg (by omega)]
  rw [hact]
  clear hact
  have hthv : thv X T = [Value.pointer (some ⟨X.c, 0, none⟩), .pointer (some ⟨X.u, 0, none⟩), .slice X.dA X.dn X.dc, .int .i64 T.nd, .int .i64 4, X.pa, X.pb, X.pr, X.pq, .pointer (some ⟨a, 0, none⟩), .pointer (some ⟨b, 0, none⟩), .int .i64 T.done, .bool T.full] := by
    unfold thv
    rw [hpg, hph, hpc]
    rfl
  rw [hthv] at hE
  have r7 := hE.rule 7 rfl
  have f12 := hE.thaw 7 rfl 12 (by simp)
  have hE1 := hE.put 7 rfl (j := 12) (by simp) (.bool false)
  have hA : Env w0 (boxI a (gvv X.c (nxG a T.gpc) T.gh T.gg) :: LT (SP C X V T (getL ml) G qc n) (LU (SR C X V T FU ml) (boxI X.thr [Value.pointer (some ⟨X.c, 0, none⟩), .pointer (some ⟨X.u, 0, none⟩), .slice X.dA X.dn X.dc, .int .i64 T.nd, .int .i64 4, X.pa, X.pb, X.pr, X.pq, .pointer (some ⟨a, 0, none⟩), .pointer (some ⟨b, 0, none⟩), .int .i64 T.done, .bool false] :: boxI b (rgv (T.gpc : Int) T.gh T.gg) :: R))) (w.setCell ⟨X.thr, 12, none⟩ (.bool false)) := hE1.perm (perm_of fun z => by
      simp only [LT, LU, SP, SR, List.count_append, List.count_cons, List.set_cons_succ, List.set_cons_zero]
      omega)
  have r7b : ∀ j, (w.setCell ⟨X.thr, 12, none⟩ (.bool false)).cell? ⟨X.thr, j, none⟩ = [Value.pointer (some ⟨X.c, 0, none⟩), .pointer (some ⟨X.u, 0, none⟩), .slice X.dA X.dn X.dc, .int .i64 T.nd, .int .i64 4, X.pa, X.pb, X.pr, X.pq, .pointer (some ⟨a, 0, none⟩), .pointer (some ⟨b, 0, none⟩), .int .i64 T.done, .bool false][j]? := hE1.rule 7 rfl
  have hP := geP hg hn hgh hgp (fun h => by obtain ⟨x, y, t, h1, h2, h3⟩ := hq h; exact ⟨x, y, t, h1, by constructor <;> omega⟩) hA
  have har := fun (v : World) (L : List Item) => geR (C := C) (w0 := w0) (w := v) (R := L) (b := b) (FU := FU) (X := X) (V := V) hl hgh hfu hgp hq hv hml hN
  obtain ⟨⟨st, T', f'⟩, hr⟩ : ∃ r, giveM C T (getL ml) = r := ⟨_, rfl⟩
  rw [hr] at hP hst hk1 hk2 ⊢
  simp only [hr] at har
  have HP := Lib.hid hP
  have HAR := Lib.hid har
  dsimp only at hst hk1 hk2 ⊢
  have HKP := Lib.hid (And.intro hk1 hk2)
  have HN := Lib.hid hN
  have HPGH := Lib.hid (And.intro hpg hph)
  clear har hr hP hA hE hE1 hl hgh hq hv hgp hml hN hk1 hk2 hfu hpg hph hthv
  refine gen_post fun PP HPP => ?_
  go_enter Tryz.func14, Tryz.ntmps14
  go_wp2_with fail
  refine HP.out.mono ?_
  rintro o w1 ⟨rfl, G', qc', n', nx, hn', hnx, hE1⟩
  clear HP r7 r7b f12
  obtain ⟨L, hLL⟩ : ∃ L, L = (boxI a (gvv X.c nx T'.gh T'.gg) :: LT (SP C X V T' f' G' qc' n') (boxI X.thr [Value.pointer (some ⟨X.c, 0, none⟩), .pointer (some ⟨X.u, 0, none⟩), .slice X.dA X.dn X.dc, .int .i64 T.nd, .int .i64 4, X.pa, X.pb, X.pr, X.pq, .pointer (some ⟨a, 0, none⟩), .pointer (some ⟨b, 0, none⟩), .int .i64 T.done, .bool false] :: R)) := ⟨_, rfl⟩
  have hL : Env w0 (boxI b (rgv (T.gpc : Int) T.gh T.gg) :: LU (SR C X V T FU ml) L) w1 := by
    rw [hLL]
    exact hE1.perm (perm_of fun z => by
        simp only [LT, LU, List.count_append, List.count_cons]
        omega)
  have hmem : boxI X.thr [Value.pointer (some ⟨X.c, 0, none⟩), .pointer (some ⟨X.u, 0, none⟩), .slice X.dA X.dn X.dc, .int .i64 T.nd, .int .i64 4, X.pa, X.pb, X.pr, X.pq, .pointer (some ⟨a, 0, none⟩), .pointer (some ⟨b, 0, none⟩), .int .i64 T.done, .bool false] ∈ L ∧ boxI a (gvv X.c nx T'.gh T'.gg) ∈ L := by
    rw [hLL]
    simp [LT]
  have HLL := Lib.hid hLL
  have HMEM := Lib.hid hmem
  have HNX := Lib.hid hnx
  clear hmem hE1 hLL hnx
  have r7 : ∀ j, w1.cell? ⟨X.thr, j, none⟩ = [Value.pointer (some ⟨X.c, 0, none⟩), .pointer (some ⟨X.u, 0, none⟩), .slice X.dA X.dn X.dc, .int .i64 T.nd, .int .i64 4, X.pa, X.pb, X.pr, X.pq, .pointer (some ⟨a, 0, none⟩), .pointer (some ⟨b, 0, none⟩), .int .i64 T.done, .bool false][j]? := Blk.rule (hL.mem (List.mem_append_right [_, _, _, _] HMEM.out.1))
  go_wp2_with fail
  clear r7
  refine Ord.wp_chain2 [10] (fun v => Blk 0 v X.thr [Value.pointer (some ⟨X.c, 0, none⟩), .pointer (some ⟨X.u, 0, none⟩), .slice X.dA X.dn X.dc, .int .i64 T.nd, .int .i64 4, X.pa, X.pb, X.pr, X.pq, .pointer (some ⟨a, 0, none⟩), .pointer (some ⟨b, 0, none⟩), .int .i64 T.done, .bool false] ∧ Blk 0 v a (gvv X.c nx T'.gh T'.gg)) (fun k v => if k = 0 then Env w0 (boxI b (rgv (T.gpc : Int) T.gh T.gg) :: LU (SR C X V T FU ml) L) v else (∃ A' rc' FU' ml', getL ml' = f' ∧ ml'.length ≤ ml.length + 1 ∧ ∃ pc', (st = 0 → pc' = (T'.gpc : Int)) ∧ Env w0 (boxI b (rgv pc' T'.gh T'.gg) :: LU (SR C { X with A := A', rc := rc' } V T' FU' ml') L) v)) (by kernel_rfl) (by kernel_rfl) (by kernel_rfl) ⟨hL.drew.mem (List.mem_append_right [_, _, _, _] HMEM.out.1), hL.drew.mem (List.mem_append_right [_, _, _, _] HMEM.out.2)⟩ (by rw [if_pos rfl]; exact hL.drew) (fun hT => ?_)
  have hT9 := Lib.hid hT
  clear hT
  repeat (refine Ord.ch2_value (v := ?_) hT9.out (by decide) (by rfl) ?_ ?_; rotate_left; (focus (intro w5 hS; have r := hS.1.rule; go_simp <;> with_reducible rfl)); (try simp only [Act.put, List.setIfInBounds_toArray, List.set_cons_zero, List.set_cons_succ]))
  refine Ord.ch2_turn (v := .int .i64 st) 0 hT9.out rfl (by decide) (Or.inl rfl) (by rfl) ?_ ?_
  · rintro w5 hC5 hA5
    rw [if_pos rfl] at hA5
    go_simp
    simp only [Ord.LandsIn]
    refine (HAR.out w5 L hA5).mono ?_
    rintro e w6 ⟨rfl, A', rc', FU', ml', pc', h1, h2, h3, h5⟩
    refine ⟨rfl, ?_, ?_⟩
    · exact ⟨h5.mem (List.mem_append_right [_, _, _, _] HMEM.out.1), h5.mem (List.mem_append_right [_, _, _, _] HMEM.out.2)⟩
    · exact ⟨A', rc', FU', ml', h1, h2, pc', h3, h5⟩
  (try simp only [Act.put, List.setIfInBounds_toArray, List.set_cons_zero, List.set_cons_succ])
  repeat (refine Ord.ch2_value (v := ?_) hT9.out (by decide) (by rfl) ?_ ?_; rotate_left; (focus (intro w5 hS; have r := hS.1.rule; go_simp <;> with_reducible rfl)); (try simp only [Act.put, List.setIfInBounds_toArray, List.set_cons_zero, List.set_cons_succ]))
  refine Ord.ch2_late_call 0 12 [11, 10] hT9.out (by decide) (by kernel_rfl) (by kernel_rfl) rfl rfl (by rfl) (v := .int .i64 T'.gg) ?_ ?_
  · rintro w5 j hj hj1 hC5 hA5
    go_simp
    simp only [Ord.LandsIn]
    refine (given_g (S := SP C X V T' f' G' qc' n') hC5.2).mono ?_
    rintro e w6 ⟨rfl, rfl⟩
    exact ⟨rfl, hC5, hA5⟩
  (try simp only [Act.put, List.setIfInBounds_toArray, List.set_cons_zero, List.set_cons_succ])
  repeat (refine Ord.ch2_value (v := ?_) hT9.out (by decide) (by rfl) ?_ ?_; rotate_left; (focus (intro w5 hS; have r := hS.1.rule; go_simp <;> with_reducible rfl)); (try simp only [Act.put, List.setIfInBounds_toArray, List.set_cons_zero, List.set_cons_succ]))
  refine Ord.ch2_late 0 12 [11, 10] hT9.out (by decide) (by kernel_rfl) (by kernel_rfl) rfl rfl (by rfl) (v := .int .i64 T'.gg) ?_ ?_
  · rintro w5 j hj hj1 hC5 hA5
    rw [if_neg (by omega)] at hA5
    obtain ⟨A', rc', FU', ml', -, -, pc', -, h5⟩ := hA5
    have r := h5.rule 0 rfl
    unfold rgv at r
    go_simp
  (try simp only [Act.put, List.setIfInBounds_toArray, List.set_cons_zero, List.set_cons_succ])
  repeat (refine Ord.ch2_value (v := ?_) hT9.out (by decide) (by rfl) ?_ ?_; rotate_left; (focus (intro w5 hS; skip; go_simp <;> with_reducible rfl)); (try simp only [Act.put, List.setIfInBounds_toArray, List.set_cons_zero, List.set_cons_succ]))
  refine Ord.InText.nil fun w5 hS => ?_
  clear hT9
  obtain ⟨hC9, hA9⟩ := Ord.chain2_end hS
  clear hS
  rw [if_neg (by decide)] at hA9
  obtain ⟨A', rc', FU', ml', h1, h2, pc', h3, h5⟩ := hA9
  have HH := Lib.hid (And.intro h1 (And.intro h2 h3))
  have H5 := Lib.hid h5
  clear h1 h2 h3 h5 hC9 hL
  rcases hst with hst | hst | hst
  · obtain ⟨h1, h2, h3⟩ := HH.out
    have HS := Lib.hid hst
    have b0 : (st != 0) = false := by rw [hst]; decide
    clear hst
    have hLL := HLL.out
    subst hLL
    have hE5 := H5.out
    rw [h3 HS.out, HNX.out HS.out] at hE5
    have hF : Env w0 (LT (SP C ({ X with A := A', rc := rc' } : Tm) V T' f' G' qc' n') (LU (SR C ({ X with A := A', rc := rc' } : Tm) V T' FU' ml') (boxI X.thr [Value.pointer (some ⟨X.c, 0, none⟩), .pointer (some ⟨X.u, 0, none⟩), .slice X.dA X.dn X.dc, .int .i64 T.nd, .int .i64 4, X.pa, X.pb, X.pr, X.pq, .pointer (some ⟨a, 0, none⟩), .pointer (some ⟨b, 0, none⟩), .int .i64 T.done, .bool false] :: boxI a (gvv X.c (nxG a T'.gpc) T'.gh T'.gg) :: boxI b (rgv (T'.gpc : Int) T'.gh T'.gg) :: R))) w5 := hE5.perm (perm_of fun z => by
      simp only [LT, LU, SP, SR, List.count_append, List.count_cons, List.set_cons_succ, List.set_cons_zero]
      omega)
    have HPF := Lib.hid hF
    have HT9 : Hid (thv ({ X with A := A', rc := rc' } : Tm) ({ T' with pc := 4, full := false } : Th) = [Value.pointer (some ⟨X.c, 0, none⟩), .pointer (some ⟨X.u, 0, none⟩), .slice X.dA X.dn X.dc, .int .i64 T.nd, .int .i64 4, X.pa, X.pb, X.pr, X.pq, .pointer (some ⟨a, 0, none⟩), .pointer (some ⟨b, 0, none⟩), .int .i64 T.done, .bool false]) := Lib.hid (by
      unfold thv
      dsimp only
      rw [HPGH.out.1, HPGH.out.2, HKP.out.1, HKP.out.2]
      rfl)
    clear hE5 hF HMEM H5
    go_wp2_with fail
    (try go_ret)
    have hs9 := HS.out
    clear HS b0
    subst hs9
    refine HPP.out _ _ ?_
    have hr1 : ({ T' with pc := if (0 : Int) = 0 then 4 else 0, full := false } : Th) = ({ T' with pc := 4, full := false } : Th) := rfl
    rw [hr1]
    refine ⟨rfl, ({ X with A := A', rc := rc' } : Tm), G', FU', qc', n', ml', [boxI a (gvv X.c (nxG a T'.gpc) T'.gh T'.gg), boxI b (rgv (T'.gpc : Int) T'.gh T'.gg)], ⟨rfl, rfl, rfl, rfl, rfl, rfl, rfl⟩, h1, h2, hn', HN.out.1, HN.out.2, (by unfold Mach; rw [if_neg (show ¬ (4 : Nat) = 2 by decide), if_neg (show ¬ (4 : Nat) = 3 by decide), if_pos rfl]; exact ⟨a, b, HPGH.out.1, HPGH.out.2, rfl⟩), ?_⟩
    rw [HT9.out, h1]
    exact HPF.out
  · obtain ⟨h1, h2, h3⟩ := HH.out
    have HS := Lib.hid hst
    have b0 : (st != 0) = true := by rw [hst]; decide
    clear hst
    have hLL := HLL.out
    subst hLL
    have hE5 := H5.out
    have hF0 : Env w0 (boxI a (gvv X.c nx T'.gh T'.gg) :: boxI b (rgv pc' T'.gh T'.gg) :: LT (SP C ({ X with A := A', rc := rc' } : Tm) V T' f' G' qc' n') (LU (SR C ({ X with A := A', rc := rc' } : Tm) V T' FU' ml') (boxI X.thr [Value.pointer (some ⟨X.c, 0, none⟩), .pointer (some ⟨X.u, 0, none⟩), .slice X.dA X.dn X.dc, .int .i64 T.nd, .int .i64 4, X.pa, X.pb, X.pr, X.pq, .pointer (some ⟨a, 0, none⟩), .pointer (some ⟨b, 0, none⟩), .int .i64 T.done, .bool false] :: R))) w5 := hE5.perm (perm_of fun z => by
      simp only [LT, LU, SP, SR, List.count_append, List.count_cons, List.set_cons_succ, List.set_cons_zero]
      omega)
    have hF : Env w0 (LT (SP C ({ X with A := A', rc := rc' } : Tm) V T' f' G' qc' n') (LU (SR C ({ X with A := A', rc := rc' } : Tm) V T' FU' ml') (boxI X.thr [Value.pointer (some ⟨X.c, 0, none⟩), .pointer (some ⟨X.u, 0, none⟩), .slice X.dA X.dn X.dc, .int .i64 T.nd, .int .i64 4, X.pa, X.pb, X.pr, X.pq, .pointer (some ⟨a, 0, none⟩), .pointer (some ⟨b, 0, none⟩), .int .i64 T.done, .bool false] :: R))) w5 := hF0.sub (.cons _ (.cons _ (List.Sublist.refl _)))
    have q0 := hF.rule 7 rfl
    have g0 := hF.thaw 7 rfl 4 (by simp)
    have HPF := Lib.hid (hF.put 7 rfl (j := 4) (by simp) (Value.int .i64 0))
    clear hF0
    have HT9 : Hid (thv ({ X with A := A', rc := rc' } : Tm) ({ T' with pc := 0, full := false } : Th) = [Value.pointer (some ⟨X.c, 0, none⟩), .pointer (some ⟨X.u, 0, none⟩), .slice X.dA X.dn X.dc, .int .i64 T.nd, .int .i64 0, X.pa, X.pb, X.pr, X.pq, .pointer (some ⟨a, 0, none⟩), .pointer (some ⟨b, 0, none⟩), .int .i64 T.done, .bool false]) := Lib.hid (by
      unfold thv
      dsimp only
      rw [HPGH.out.1, HPGH.out.2, HKP.out.1, HKP.out.2]
      rfl)
    clear hE5 hF HMEM H5
    go_wp2_with fail
    (try go_ret)
    have hs9 := HS.out
    clear HS b0
    subst hs9
    refine HPP.out _ _ ?_
    have hr1 : ({ T' with pc := if (1 : Int) = 0 then 4 else 0, full := false } : Th) = ({ T' with pc := 0, full := false } : Th) := rfl
    rw [hr1]
    refine ⟨rfl, ({ X with A := A', rc := rc' } : Tm), G', FU', qc', n', ml', [], ⟨rfl, rfl, rfl, rfl, rfl, rfl, rfl⟩, h1, h2, hn', HN.out.1, HN.out.2, (by unfold Mach; rw [if_neg (show ¬ (0 : Nat) = 2 by decide), if_neg (show ¬ (0 : Nat) = 3 by decide), if_neg (show ¬ (0 : Nat) = 4 by decide)]), ?_⟩
    rw [HT9.out, h1]
    exact HPF.out
  · obtain ⟨h1, h2, h3⟩ := HH.out
    have HS := Lib.hid hst
    have b0 : (st != 0) = true := by rw [hst]; decide
    clear hst
    have hLL := HLL.out
    subst hLL
    have hE5 := H5.out
    have hF0 : Env w0 (boxI a (gvv X.c nx T'.gh T'.gg) :: boxI b (rgv pc' T'.gh T'.gg) :: LT (SP C ({ X with A := A', rc := rc' } : Tm) V T' f' G' qc' n') (LU (SR C ({ X with A := A', rc := rc' } : Tm) V T' FU' ml') (boxI X.thr [Value.pointer (some ⟨X.c, 0, none⟩), .pointer (some ⟨X.u, 0, none⟩), .slice X.dA X.dn X.dc, .int .i64 T.nd, .int .i64 4, X.pa, X.pb, X.pr, X.pq, .pointer (some ⟨a, 0, none⟩), .pointer (some ⟨b, 0, none⟩), .int .i64 T.done, .bool false] :: R))) w5 := hE5.perm (perm_of fun z => by
      simp only [LT, LU, SP, SR, List.count_append, List.count_cons, List.set_cons_succ, List.set_cons_zero]
      omega)
    have hF : Env w0 (LT (SP C ({ X with A := A', rc := rc' } : Tm) V T' f' G' qc' n') (LU (SR C ({ X with A := A', rc := rc' } : Tm) V T' FU' ml') (boxI X.thr [Value.pointer (some ⟨X.c, 0, none⟩), .pointer (some ⟨X.u, 0, none⟩), .slice X.dA X.dn X.dc, .int .i64 T.nd, .int .i64 4, X.pa, X.pb, X.pr, X.pq, .pointer (some ⟨a, 0, none⟩), .pointer (some ⟨b, 0, none⟩), .int .i64 T.done, .bool false] :: R))) w5 := hF0.sub (.cons _ (.cons _ (List.Sublist.refl _)))
    have q0 := hF.rule 7 rfl
    have g0 := hF.thaw 7 rfl 4 (by simp)
    have HPF := Lib.hid (hF.put 7 rfl (j := 4) (by simp) (Value.int .i64 0))
    clear hF0
    have HT9 : Hid (thv ({ X with A := A', rc := rc' } : Tm) ({ T' with pc := 0, full := false } : Th) = [Value.pointer (some ⟨X.c, 0, none⟩), .pointer (some ⟨X.u, 0, none⟩), .slice X.dA X.dn X.dc, .int .i64 T.nd, .int .i64 0, X.pa, X.pb, X.pr, X.pq, .pointer (some ⟨a, 0, none⟩), .pointer (some ⟨b, 0, none⟩), .int .i64 T.done, .bool false]) := Lib.hid (by
      unfold thv
      dsimp only
      rw [HPGH.out.1, HPGH.out.2, HKP.out.1, HKP.out.2]
      rfl)
    clear hE5 hF HMEM H5
    go_wp2_with fail
    (try go_ret)
    have hs9 := HS.out
    clear HS b0
    subst hs9
    refine HPP.out _ _ ?_
    have hr1 : ({ T' with pc := if (4 : Int) = 0 then 4 else 0, full := false } : Th) = ({ T' with pc := 0, full := false } : Th) := rfl
    rw [hr1]
    refine ⟨rfl, ({ X with A := A', rc := rc' } : Tm), G', FU', qc', n', ml', [], ⟨rfl, rfl, rfl, rfl, rfl, rfl, rfl⟩, h1, h2, hn', HN.out.1, HN.out.2, (by unfold Mach; rw [if_neg (show ¬ (0 : Nat) = 2 by decide), if_neg (show ¬ (0 : Nat) = 3 by decide), if_neg (show ¬ (0 : Nat) = 4 by decide)]), ?_⟩
    rw [HT9.out, h1]
    exact HPF.out
end
end Go.Proofs.YtmifdkbpbkafjaaGreatDoor

/- Threads: the contract of step, where a Give begins. -/
namespace Go.Proofs.YtmifdkbpbkafjaaGreatDoor
open Go.RowKit Go.Maps
set_option maxRecDepth 100000

section
variable {w0 w9 : World} {R : List Item} {C : Cf} {d : Dd} {X0 : Tm} {V : Wm} {T : Th} {G FU : Nat → Prop} {qc : Cnt} {ml : List OneR} {n : Nat}
set_option maxHeartbeats 6400000 in
theorem step04_t (hpc : T.pc = 4) (hg : Glo w0) (hn : n < maxLen) (hl : T.ql.length + 1 ≤ 1000000) (hgh : InU T.gh) (hgp : T.gpc ≤ 3) (hq : 2 ≤ T.gpc → ∃ x y t, T.ql = (x, y, 0) :: t ∧ 0 ≤ x ∧ x ≤ 8388607) (hv : T.gpc = 3 → verI T.gh < 1099511627775) (hml : ml.length ≤ 999999)
    (r70 : w9.cell? ⟨X0.thr, 4, none⟩ = some (.int .i64 0)) (hbg : Calls Tryz.prog 39 #[.pointer (some ⟨X0.thr, 0, none⟩)] w9 fun o w' => o = .returned (.bool true) ∧ ∃ (X : Tm) (a b : Nat), X.pg = .pointer (some ⟨a, 0, none⟩) ∧ X.ph = .pointer (some ⟨b, 0, none⟩) ∧ Same X0 X ∧ 0 ≤ X.N ∧ X.N ≤ 4000000 ∧ Env w0 (LT (SP C X V T (getL ml) G qc n) (LU (SR C X V T FU ml) (boxI X0.thr (thv X T) :: boxI a (gvv X.c (nxG a T.gpc) T.gh T.gg) :: boxI b (rgv (T.gpc : Int) T.gh T.gg) :: R))) w') :
        Calls Tryz.prog 14 #[.pointer (some ⟨X0.thr, 0, none⟩), .pointer (some ⟨V.p, 0, none⟩), .pointer (some ⟨V.m, 0, none⟩)] w9 fun o w' => o = .returned (.bool true) ∧ ∃ (X' : Tm) (G' FU' : Nat → Prop) (qc' : Cnt) (n' : Nat) (ml' : List OneR) (ms' : List Item), Same X0 X' ∧ getL ml' = (actM C d T (getL ml)).2 ∧ ml'.length ≤ ml.length + 1 ∧ n' ≤ n + 1 ∧ 0 ≤ X'.N ∧ X'.N ≤ 4000000 ∧ Mach C d X' (actM C d T (getL ml)).1 ms' ∧ Env w0 (LT (SP C X' V (actM C d T (getL ml)).1 (getL ml') G' qc' n') (LU (SR C X' V (actM C d T (getL ml)).1 FU' ml') (boxI X'.thr (thv X' (actM C d T (getL ml)).1) :: (ms' ++ R)))) w' := by
  obtain ⟨hk1, hk2, hst⟩ := giveM_keep C T (getL ml)
  have hact : actM C d T (getL ml) = ({ (giveM C T (getL ml)).2.1 with pc := if (giveM C T (getL ml)).1 = 0 then 4 else 0, full := false }, (giveM C T (getL ml)).2.2) := by
    unfold actM
    rw [if_neg (by omega), if_neg (by omega), if_neg (by omega)]
  rw [hact]
  clear hact
  obtain ⟨⟨st, T', f'⟩, hr⟩ : ∃ r, giveM C T (getL ml) = r := ⟨_, rfl⟩
  rw [hr] at hst hk1 hk2 ⊢
  dsimp only at hst hk1 hk2 ⊢
  have HKP := Lib.hid (And.intro hk1 hk2)
  have HR := Lib.hid hr
  have HSIDE := Lib.hid (And.intro hpc (And.intro hg (And.intro hn (And.intro hl (And.intro hgh (And.intro hgp (And.intro hq (And.intro hv (And.intro hml (True.intro))))))))))
  have HBG := Lib.hid hbg
  clear hbg hr hk1 hk2 hpc hg hn hl hgh hgp hq hv hml
  refine gen_post fun PP HPP => ?_
  go_enter Tryz.func14, Tryz.ntmps14
  go_wp2_with fail
  refine HBG.out.mono ?_
  rintro o w ⟨rfl, X, a, b, hpg, hph, hsm, hN0, hN1, hE⟩
  have HSM := Lib.hid hsm
  have hN := And.intro hN0 hN1
  obtain ⟨hpc, hg, hn, hl, hgh, hgp, hq, hv, hml, -⟩ := HSIDE.out
  clear hN0 hN1 HBG r70 hsm HSIDE
  have hfu : ∀ x, InU (getL ml x) := fun x => (hE.cell 3 rfl).words.1 x
  have hthv : thv X T = [Value.pointer (some ⟨X.c, 0, none⟩), .pointer (some ⟨X.u, 0, none⟩), .slice X.dA X.dn X.dc, .int .i64 T.nd, .int .i64 4, X.pa, X.pb, X.pr, X.pq, .pointer (some ⟨a, 0, none⟩), .pointer (some ⟨b, 0, none⟩), .int .i64 T.done, .bool T.full] := by
    unfold thv
    rw [hpg, hph, hpc]
    rfl
  rw [hthv] at hE
  have r7 := hE.rule 7 rfl
  have f12 := hE.thaw 7 rfl 12 (by simp)
  have hE1 := hE.put 7 rfl (j := 12) (by simp) (.bool false)
  have hA : Env w0 (boxI a (gvv X.c (nxG a T.gpc) T.gh T.gg) :: LT (SP C X V T (getL ml) G qc n) (LU (SR C X V T FU ml) (boxI X0.thr [Value.pointer (some ⟨X.c, 0, none⟩), .pointer (some ⟨X.u, 0, none⟩), .slice X.dA X.dn X.dc, .int .i64 T.nd, .int .i64 4, X.pa, X.pb, X.pr, X.pq, .pointer (some ⟨a, 0, none⟩), .pointer (some ⟨b, 0, none⟩), .int .i64 T.done, .bool false] :: boxI b (rgv (T.gpc : Int) T.gh T.gg) :: R))) (w.setCell ⟨X0.thr, 12, none⟩ (.bool false)) := hE1.perm (perm_of fun z => by
      simp only [LT, LU, SP, SR, List.count_append, List.count_cons, List.set_cons_succ, List.set_cons_zero]
      omega)
  have r7b : ∀ j, (w.setCell ⟨X0.thr, 12, none⟩ (.bool false)).cell? ⟨X0.thr, j, none⟩ = [Value.pointer (some ⟨X.c, 0, none⟩), .pointer (some ⟨X.u, 0, none⟩), .slice X.dA X.dn X.dc, .int .i64 T.nd, .int .i64 4, X.pa, X.pb, X.pr, X.pq, .pointer (some ⟨a, 0, none⟩), .pointer (some ⟨b, 0, none⟩), .int .i64 T.done, .bool false][j]? := hE1.rule 7 rfl
  have hP := geP hg hn hgh hgp (fun h => by obtain ⟨x, y, t, h1, h2, h3⟩ := hq h; exact ⟨x, y, t, h1, by constructor <;> omega⟩) hA
  have har := fun (v : World) (L : List Item) => geR (C := C) (w0 := w0) (w := v) (R := L) (b := b) (FU := FU) (X := X) (V := V) hl hgh hfu hgp hq hv hml hN
  rw [HR.out] at hP
  simp only [HR.out] at har
  have HP := Lib.hid hP
  have HAR := Lib.hid har
  have HN := Lib.hid hN
  have HPGH := Lib.hid (And.intro hpg hph)
  clear HR har hP hA hE hE1 hl hgh hq hv hgp hml hN hfu hpg hph hthv
  go_wp2_with fail
  refine HP.out.mono ?_
  rintro o w1 ⟨rfl, G', qc', n', nx, hn', hnx, hE1⟩
  clear HP r7 r7b f12
  obtain ⟨L, hLL⟩ : ∃ L, L = (boxI a (gvv X.c nx T'.gh T'.gg) :: LT (SP C X V T' f' G' qc' n') (boxI X0.thr [Value.pointer (some ⟨X.c, 0, none⟩), .pointer (some ⟨X.u, 0, none⟩), .slice X.dA X.dn X.dc, .int .i64 T.nd, .int .i64 4, X.pa, X.pb, X.pr, X.pq, .pointer (some ⟨a, 0, none⟩), .pointer (some ⟨b, 0, none⟩), .int .i64 T.done, .bool false] :: R)) := ⟨_, rfl⟩
  have hL : Env w0 (boxI b (rgv (T.gpc : Int) T.gh T.gg) :: LU (SR C X V T FU ml) L) w1 := by
    rw [hLL]
    exact hE1.perm (perm_of fun z => by
        simp only [LT, LU, List.count_append, List.count_cons]
        omega)
  have hmem : boxI X0.thr [Value.pointer (some ⟨X.c, 0, none⟩), .pointer (some ⟨X.u, 0, none⟩), .slice X.dA X.dn X.dc, .int .i64 T.nd, .int .i64 4, X.pa, X.pb, X.pr, X.pq, .pointer (some ⟨a, 0, none⟩), .pointer (some ⟨b, 0, none⟩), .int .i64 T.done, .bool false] ∈ L ∧ boxI a (gvv X.c nx T'.gh T'.gg) ∈ L := by
    rw [hLL]
    simp [LT]
  have HLL := Lib.hid hLL
  have HMEM := Lib.hid hmem
  have HNX := Lib.hid hnx
  clear hmem hE1 hLL hnx
  have r7 : ∀ j, w1.cell? ⟨X0.thr, j, none⟩ = [Value.pointer (some ⟨X.c, 0, none⟩), .pointer (some ⟨X.u, 0, none⟩), .slice X.dA X.dn X.dc, .int .i64 T.nd, .int .i64 4, X.pa, X.pb, X.pr, X.pq, .pointer (some ⟨a, 0, none⟩), .pointer (some ⟨b, 0, none⟩), .int .i64 T.done, .bool false][j]? := Blk.rule (hL.mem (List.mem_append_right [_, _, _, _] HMEM.out.1))
  go_wp2_with fail
  clear r7
  refine Ord.wp_chain2 [10] (fun v => Blk 0 v X0.thr [Value.pointer (some ⟨X.c, 0, none⟩), .pointer (some ⟨X.u, 0, none⟩), .slice X.dA X.dn X.dc, .int .i64 T.nd, .int .i64 4, X.pa, X.pb, X.pr, X.pq, .pointer (some ⟨a, 0, none⟩), .pointer (some ⟨b, 0, none⟩), .int .i64 T.done, .bool false] ∧ Blk 0 v a (gvv X.c nx T'.gh T'.gg)) (fun k v => if k = 0 then Env w0 (boxI b (rgv (T.gpc : Int) T.gh T.gg) :: LU (SR C X V T FU ml) L) v else (∃ A' rc' FU' ml', getL ml' = f' ∧ ml'.length ≤ ml.length + 1 ∧ ∃ pc', (st = 0 → pc' = (T'.gpc : Int)) ∧ Env w0 (boxI b (rgv pc' T'.gh T'.gg) :: LU (SR C { X with A := A', rc := rc' } V T' FU' ml') L) v)) (by kernel_rfl) (by kernel_rfl) (by kernel_rfl) ⟨hL.drew.mem (List.mem_append_right [_, _, _, _] HMEM.out.1), hL.drew.mem (List.mem_append_right [_, _, _, _] HMEM.out.2)⟩ (by rw [if_pos rfl]; exact hL.drew) (fun hT => ?_)
  have hT9 := Lib.hid hT
  clear hT
  repeat (refine Ord.ch2_value (v := ?_) hT9.out (by decide) (by rfl) ?_ ?_; rotate_left; (focus (intro w5 hS; have r := hS.1.rule; go_simp <;> with_reducible rfl)); (try simp only [Act.put, List.setIfInBounds_toArray, List.set_cons_zero, List.set_cons_succ]))
  refine Ord.ch2_turn (v := .int .i64 st) 0 hT9.out rfl (by decide) (Or.inl rfl) (by rfl) ?_ ?_
  · rintro w5 hC5 hA5
    rw [if_pos rfl] at hA5
    go_simp
    simp only [Ord.LandsIn]
    refine (HAR.out w5 L hA5).mono ?_
    rintro e w6 ⟨rfl, A', rc', FU', ml', pc', h1, h2, h3, h5⟩
    refine ⟨rfl, ?_, ?_⟩
    · exact ⟨h5.mem (List.mem_append_right [_, _, _, _] HMEM.out.1), h5.mem (List.mem_append_right [_, _, _, _] HMEM.out.2)⟩
    · exact ⟨A', rc', FU', ml', h1, h2, pc', h3, h5⟩
  (try simp only [Act.put, List.setIfInBounds_toArray, List.set_cons_zero, List.set_cons_succ])
  repeat (refine Ord.ch2_value (v := ?_) hT9.out (by decide) (by rfl) ?_ ?_; rotate_left; (focus (intro w5 hS; have r := hS.1.rule; go_simp <;> with_reducible rfl)); (try simp only [Act.put, List.setIfInBounds_toArray, List.set_cons_zero, List.set_cons_succ]))
  refine Ord.ch2_late_call 0 12 [11, 10] hT9.out (by decide) (by kernel_rfl) (by kernel_rfl) rfl rfl (by rfl) (v := .int .i64 T'.gg) ?_ ?_
  · rintro w5 j hj hj1 hC5 hA5
    go_simp
    simp only [Ord.LandsIn]
    refine (given_g (S := SP C X V T' f' G' qc' n') hC5.2).mono ?_
    rintro e w6 ⟨rfl, rfl⟩
    exact ⟨rfl, hC5, hA5⟩
  (try simp only [Act.put, List.setIfInBounds_toArray, List.set_cons_zero, List.set_cons_succ])
  repeat (refine Ord.ch2_value (v := ?_) hT9.out (by decide) (by rfl) ?_ ?_; rotate_left; (focus (intro w5 hS; have r := hS.1.rule; go_simp <;> with_reducible rfl)); (try simp only [Act.put, List.setIfInBounds_toArray, List.set_cons_zero, List.set_cons_succ]))
  refine Ord.ch2_late 0 12 [11, 10] hT9.out (by decide) (by kernel_rfl) (by kernel_rfl) rfl rfl (by rfl) (v := .int .i64 T'.gg) ?_ ?_
  · rintro w5 j hj hj1 hC5 hA5
    rw [if_neg (by omega)] at hA5
    obtain ⟨A', rc', FU', ml', -, -, pc', -, h5⟩ := hA5
    have r := h5.rule 0 rfl
    unfold rgv at r
    go_simp
  (try simp only [Act.put, List.setIfInBounds_toArray, List.set_cons_zero, List.set_cons_succ])
  repeat (refine Ord.ch2_value (v := ?_) hT9.out (by decide) (by rfl) ?_ ?_; rotate_left; (focus (intro w5 hS; skip; go_simp <;> with_reducible rfl)); (try simp only [Act.put, List.setIfInBounds_toArray, List.set_cons_zero, List.set_cons_succ]))
  refine Ord.InText.nil fun w5 hS => ?_
  clear hT9
  obtain ⟨hC9, hA9⟩ := Ord.chain2_end hS
  clear hS
  rw [if_neg (by decide)] at hA9
  obtain ⟨A', rc', FU', ml', h1, h2, pc', h3, h5⟩ := hA9
  have HH := Lib.hid (And.intro h1 (And.intro h2 h3))
  have H5 := Lib.hid h5
  clear h1 h2 h3 h5 hC9 hL
  rcases hst with hst | hst | hst
  · obtain ⟨h1, h2, h3⟩ := HH.out
    have HS := Lib.hid hst
    have b0 : (st != 0) = false := by rw [hst]; decide
    clear hst
    have hLL := HLL.out
    subst hLL
    have hE5 := H5.out
    rw [h3 HS.out, HNX.out HS.out] at hE5
    have hF : Env w0 (LT (SP C ({ X with A := A', rc := rc' } : Tm) V T' f' G' qc' n') (LU (SR C ({ X with A := A', rc := rc' } : Tm) V T' FU' ml') (boxI X0.thr [Value.pointer (some ⟨X.c, 0, none⟩), .pointer (some ⟨X.u, 0, none⟩), .slice X.dA X.dn X.dc, .int .i64 T.nd, .int .i64 4, X.pa, X.pb, X.pr, X.pq, .pointer (some ⟨a, 0, none⟩), .pointer (some ⟨b, 0, none⟩), .int .i64 T.done, .bool false] :: boxI a (gvv X.c (nxG a T'.gpc) T'.gh T'.gg) :: boxI b (rgv (T'.gpc : Int) T'.gh T'.gg) :: R))) w5 := hE5.perm (perm_of fun z => by
      simp only [LT, LU, SP, SR, List.count_append, List.count_cons, List.set_cons_succ, List.set_cons_zero]
      omega)
    have HPF := Lib.hid hF
    have HT9 : Hid (thv ({ X with A := A', rc := rc' } : Tm) ({ T' with pc := 4, full := false } : Th) = [Value.pointer (some ⟨X.c, 0, none⟩), .pointer (some ⟨X.u, 0, none⟩), .slice X.dA X.dn X.dc, .int .i64 T.nd, .int .i64 4, X.pa, X.pb, X.pr, X.pq, .pointer (some ⟨a, 0, none⟩), .pointer (some ⟨b, 0, none⟩), .int .i64 T.done, .bool false]) := Lib.hid (by
      unfold thv
      dsimp only
      rw [HPGH.out.1, HPGH.out.2, HKP.out.1, HKP.out.2]
      rfl)
    clear hE5 hF HMEM H5
    go_wp2_with fail
    (try go_ret)
    have hs9 := HS.out
    clear HS b0
    subst hs9
    refine HPP.out _ _ ?_
    have hr1 : ({ T' with pc := if (0 : Int) = 0 then 4 else 0, full := false } : Th) = ({ T' with pc := 4, full := false } : Th) := rfl
    rw [hr1]
    refine ⟨rfl, ({ X with A := A', rc := rc' } : Tm), G', FU', qc', n', ml', [boxI a (gvv X.c (nxG a T'.gpc) T'.gh T'.gg), boxI b (rgv (T'.gpc : Int) T'.gh T'.gg)], HSM.out, h1, h2, hn', HN.out.1, HN.out.2, (by unfold Mach; rw [if_neg (show ¬ (4 : Nat) = 2 by decide), if_neg (show ¬ (4 : Nat) = 3 by decide), if_pos rfl]; exact ⟨a, b, HPGH.out.1, HPGH.out.2, rfl⟩), ?_⟩
    rw [HT9.out, h1, show (({ X with A := A', rc := rc' } : Tm)).thr = X0.thr from HSM.out.1]
    exact HPF.out
  · obtain ⟨h1, h2, h3⟩ := HH.out
    have HS := Lib.hid hst
    have b0 : (st != 0) = true := by rw [hst]; decide
    clear hst
    have hLL := HLL.out
    subst hLL
    have hE5 := H5.out
    have hF0 : Env w0 (boxI a (gvv X.c nx T'.gh T'.gg) :: boxI b (rgv pc' T'.gh T'.gg) :: LT (SP C ({ X with A := A', rc := rc' } : Tm) V T' f' G' qc' n') (LU (SR C ({ X with A := A', rc := rc' } : Tm) V T' FU' ml') (boxI X0.thr [Value.pointer (some ⟨X.c, 0, none⟩), .pointer (some ⟨X.u, 0, none⟩), .slice X.dA X.dn X.dc, .int .i64 T.nd, .int .i64 4, X.pa, X.pb, X.pr, X.pq, .pointer (some ⟨a, 0, none⟩), .pointer (some ⟨b, 0, none⟩), .int .i64 T.done, .bool false] :: R))) w5 := hE5.perm (perm_of fun z => by
      simp only [LT, LU, SP, SR, List.count_append, List.count_cons, List.set_cons_succ, List.set_cons_zero]
      omega)
    have hF : Env w0 (LT (SP C ({ X with A := A', rc := rc' } : Tm) V T' f' G' qc' n') (LU (SR C ({ X with A := A', rc := rc' } : Tm) V T' FU' ml') (boxI X0.thr [Value.pointer (some ⟨X.c, 0, none⟩), .pointer (some ⟨X.u, 0, none⟩), .slice X.dA X.dn X.dc, .int .i64 T.nd, .int .i64 4, X.pa, X.pb, X.pr, X.pq, .pointer (some ⟨a, 0, none⟩), .pointer (some ⟨b, 0, none⟩), .int .i64 T.done, .bool false] :: R))) w5 := hF0.sub (.cons _ (.cons _ (List.Sublist.refl _)))
    have q0 := hF.rule 7 rfl
    have g0 := hF.thaw 7 rfl 4 (by simp)
    have HPF := Lib.hid (hF.put 7 rfl (j := 4) (by simp) (Value.int .i64 0))
    clear hF0
    have HT9 : Hid (thv ({ X with A := A', rc := rc' } : Tm) ({ T' with pc := 0, full := false } : Th) = [Value.pointer (some ⟨X.c, 0, none⟩), .pointer (some ⟨X.u, 0, none⟩), .slice X.dA X.dn X.dc, .int .i64 T.nd, .int .i64 0, X.pa, X.pb, X.pr, X.pq, .pointer (some ⟨a, 0, none⟩), .pointer (some ⟨b, 0, none⟩), .int .i64 T.done, .bool false]) := Lib.hid (by
      unfold thv
      dsimp only
      rw [HPGH.out.1, HPGH.out.2, HKP.out.1, HKP.out.2]
      rfl)
    clear hE5 hF HMEM H5
    go_wp2_with fail
    (try go_ret)
    have hs9 := HS.out
    clear HS b0
    subst hs9
    refine HPP.out _ _ ?_
    have hr1 : ({ T' with pc := if (1 : Int) = 0 then 4 else 0, full := false } : Th) = ({ T' with pc := 0, full := false } : Th) := rfl
    rw [hr1]
    refine ⟨rfl, ({ X with A := A', rc := rc' } : Tm), G', FU', qc', n', ml', [], HSM.out, h1, h2, hn', HN.out.1, HN.out.2, (by unfold Mach; rw [if_neg (show ¬ (0 : Nat) = 2 by decide), if_neg (show ¬ (0 : Nat) = 3 by decide), if_neg (show ¬ (0 : Nat) = 4 by decide)]), ?_⟩
    rw [HT9.out, h1, show (({ X with A := A', rc := rc' } : Tm)).thr = X0.thr from HSM.out.1]
    exact HPF.out
  · obtain ⟨h1, h2, h3⟩ := HH.out
    have HS := Lib.hid hst
    have b0 : (st != 0) = true := by rw [hst]; decide
    clear hst
    have hLL := HLL.out
    subst hLL
    have hE5 := H5.out
    have hF0 : Env w0 (boxI a (gvv X.c nx T'.gh T'.gg) :: boxI b (rgv pc' T'.gh T'.gg) :: LT (SP C ({ X with A := A', rc := rc' } : Tm) V T' f' G' qc' n') (LU (SR C ({ X with A := A', rc := rc' } : Tm) V T' FU' ml') (boxI X0.thr [Value.pointer (some ⟨X.c, 0, none⟩), .pointer (some ⟨X.u, 0, none⟩), .slice X.dA X.dn X.dc, .int .i64 T.nd, .int .i64 4, X.pa, X.pb, X.pr, X.pq, .pointer (some ⟨a, 0, none⟩), .pointer (some ⟨b, 0, none⟩), .int .i64 T.done, .bool false] :: R))) w5 := hE5.perm (perm_of fun z => by
      simp only [LT, LU, SP, SR, List.count_append, List.count_cons, List.set_cons_succ, List.set_cons_zero]
      omega)
    have hF : Env w0 (LT (SP C ({ X with A := A', rc := rc' } : Tm) V T' f' G' qc' n') (LU (SR C ({ X with A := A', rc := rc' } : Tm) V T' FU' ml') (boxI X0.thr [Value.pointer (some ⟨X.c, 0, none⟩), .pointer (some ⟨X.u, 0, none⟩), .slice X.dA X.dn X.dc, .int .i64 T.nd, .int .i64 4, X.pa, X.pb, X.pr, X.pq, .pointer (some ⟨a, 0, none⟩), .pointer (some ⟨b, 0, none⟩), .int .i64 T.done, .bool false] :: R))) w5 := hF0.sub (.cons _ (.cons _ (List.Sublist.refl _)))
    have q0 := hF.rule 7 rfl
    have g0 := hF.thaw 7 rfl 4 (by simp)
    have HPF := Lib.hid (hF.put 7 rfl (j := 4) (by simp) (Value.int .i64 0))
    clear hF0
    have HT9 : Hid (thv ({ X with A := A', rc := rc' } : Tm) ({ T' with pc := 0, full := false } : Th) = [Value.pointer (some ⟨X.c, 0, none⟩), .pointer (some ⟨X.u, 0, none⟩), .slice X.dA X.dn X.dc, .int .i64 T.nd, .int .i64 0, X.pa, X.pb, X.pr, X.pq, .pointer (some ⟨a, 0, none⟩), .pointer (some ⟨b, 0, none⟩), .int .i64 T.done, .bool false]) := Lib.hid (by
      unfold thv
      dsimp only
      rw [HPGH.out.1, HPGH.out.2, HKP.out.1, HKP.out.2]
      rfl)
    clear hE5 hF HMEM H5
    go_wp2_with fail
    (try go_ret)
    have hs9 := HS.out
    clear HS b0
    subst hs9
    refine HPP.out _ _ ?_
    have hr1 : ({ T' with pc := if (4 : Int) = 0 then 4 else 0, full := false } : Th) = ({ T' with pc := 0, full := false } : Th) := rfl
    rw [hr1]
    refine ⟨rfl, ({ X with A := A', rc := rc' } : Tm), G', FU', qc', n', ml', [], HSM.out, h1, h2, hn', HN.out.1, HN.out.2, (by unfold Mach; rw [if_neg (show ¬ (0 : Nat) = 2 by decide), if_neg (show ¬ (0 : Nat) = 3 by decide), if_neg (show ¬ (0 : Nat) = 4 by decide)]), ?_⟩
    rw [HT9.out, h1, show (({ X with A := A', rc := rc' } : Tm)).thr = X0.thr from HSM.out.1]
    exact HPF.out
end
end Go.Proofs.YtmifdkbpbkafjaaGreatDoor

/- Threads: the contract of step, over the model. -/
namespace Go.Proofs.YtmifdkbpbkafjaaGreatDoor
open Go.RowKit Go.Maps
set_option maxRecDepth 100000

theorem actM_nd (C : Cf) (d : Dd) (T : Th) (f : Mem) : (actM C d T f).1.nd = T.nd := by
  unfold actM
  split
  · rfl
  · split
    · exact (allocM_keep C d T f).2.1
    · split
      · exact (retireM_keep T f).1
      · exact (giveM_keep C T f).1
theorem getD_in {ds : List Dd} {i : Nat} (hi : i < ds.length) : ds.getD i default ∈ ds := by
  rw [List.getD_eq_getElem?_getD, List.getElem?_eq_getElem hi]
  exact List.getElem_mem hi

section
variable {w0 w : World} {R : List Item} {C : Cf} {X : Tm} {V : Wm} {T : Th} {G FU : Nat → Prop} {qc : Cnt} {ml : List OneR} {n : Nat}
theorem rowOk_of {ds : List Dd} {B : Nat} (hC : COk C) (hT : OkT C ds B T) (hB : B + 1 ≤ 1000000) (hn : n < maxLen) (hp : T.pc = 2) : RowOk C T n := by
  have hl := hC.l
  have hs := hC.s
  refine ⟨by have := hT.e; constructor <;> omega, hn, by have := hT.len; omega, by constructor <;> omega, hT.w, hT.apc hp, fun h => ⟨hT.low hp (by omega), ?_⟩, by have := hT.hs; unfold In64; constructor <;> omega⟩
  rcases hq : T.ql with _ | ⟨⟨x, y, z⟩, t⟩
  · exact absurd hq (hT.born hp h)
  · have := hT.ql (x, y, z) (by rw [hq]; simp)
    obtain ⟨h1, h2, rfl⟩ := this
    exact ⟨x, y, t, rfl, h1, h2⟩
theorem give_of {ds : List Dd} {B : Nat} (hC : COk C) (hT : OkT C ds B T) (hp : T.pc = 4) : 2 ≤ T.gpc → ∃ x y t, T.ql = (x, y, 0) :: t ∧ 0 ≤ x ∧ x ≤ 8388607 := by
  intro h
  have hs := hC.s
  rcases hq : T.ql with _ | ⟨⟨x, y, z⟩, t⟩
  · exact absurd hq (hT.give hp (by omega))
  · have := hT.ql (x, y, z) (by rw [hq]; simp)
    obtain ⟨h1, h2, rfl⟩ := this
    dsimp only at h1 h2
    exact ⟨x, y, t, rfl, by omega, by omega⟩
theorem epI_le {x l : Int} (h0 : 0 ≤ x) (h : x ≤ l) (hl : l ≤ 1099511627775) : epI x = x := by
  unfold epI
  rw [if_pos (by omega)]
set_option maxHeartbeats 3200000 in
theorem step_t (ds : List Dd) (B : Nat) (ms : List Item) (hg : Glo w0) (hC : COk C) (hF : OkF C (getL ml)) (hT : OkT C ds B T) (hB : B + 1 ≤ 1000000) (hds : DsAt w0 R X.dA ds) (hdn : X.dn = ds.length) (hdl : ds.length ≤ 1000) (hdI : ∀ d ∈ ds, InU d.key ∧ InU d.val) (hn : n < maxLen) (hml : ml.length ≤ 999999) (hN : 0 ≤ X.N ∧ X.N ≤ 4000000)
    (hM : Mach C (ds.getD (T.nd - 1) default) X T ms)
    (hE : Env w0 (LT (SP C X V T (getL ml) G qc n) (LU (SR C X V T FU ml) (boxI X.thr (thv X T) :: (ms ++ R)))) w) :
    Calls Tryz.prog 14 #[.pointer (some ⟨X.thr, 0, none⟩), .pointer (some ⟨V.p, 0, none⟩), .pointer (some ⟨V.m, 0, none⟩)] w fun o w' => o = .returned (.bool true) ∧ ∃ (X' : Tm) (G' FU' : Nat → Prop) (qc' : Cnt) (n' : Nat) (ml' : List OneR) (ms' : List Item), Same X X' ∧ getL ml' = (stepM C ds T (getL ml)).2 ∧ ml'.length ≤ ml.length + 1 ∧ n' ≤ n + 1 ∧ 0 ≤ X'.N ∧ X'.N ≤ 4000000 ∧ Mach C (ds.getD ((stepM C ds T (getL ml)).1.nd - 1) default) X' (stepM C ds T (getL ml)).1 ms' ∧ Env w0 (LT (SP C X' V (stepM C ds T (getL ml)).1 (getL ml') G' qc' n') (LU (SR C X' V (stepM C ds T (getL ml)).1 FU' ml') (boxI X'.thr (thv X' (stepM C ds T (getL ml)).1) :: (ms' ++ R)))) w' := by
  have hl40 := hC.l
  have hs40 := hC.s
  have hlen := hT.len
  by_cases hp : T.pc = 0
  · have hms : ms = [] := by
      unfold Mach at hM
      rw [if_neg (by omega), if_neg (by omega), if_neg (by omega)] at hM
      exact hM
    subst hms
    have r70 : w.cell? ⟨X.thr, 4, none⟩ = some (.int .i64 0) := by
      have := hE.rule 7 rfl 4
      rw [this]
      show some (Value.int .i64 (T.pc : Int)) = _
      rw [hp]
      rfl
    have hbg := begin_T (V := V) (C := C) (G := G) (FU := FU) (qc := qc) (ml := ml) (n := n) ds hds hdn hdl hT.nd hT.hs.1 (by omega) hN hp hE
    obtain ⟨h1, h2, h3⟩ := begin_ok 0 (ds.drop T.nd) T rfl hT hp
    obtain ⟨⟨b, T'⟩, hr⟩ : ∃ r, beginM (ds.drop T.nd) T = r := ⟨_, rfl⟩
    have hst : stepM C ds T (getL ml) = if b then actM C (ds.getD (T'.nd - 1) default) T' (getL ml) else (T', getL ml) := by
      unfold stepM
      rw [if_pos hp, hr]
      rfl
    rw [hst]
    rw [hr] at h1 h2 h3 hbg
    dsimp only at h1 h2 h3
    have hl1 := h1.len
    rcases b with _ | _
    · rw [if_neg (by decide)]
      refine step00_t (V := V) _ r70 (hbg.mono ?_)
      rintro o w' ⟨X', T2, hsm, hN0, hN1, h⟩
      rcases h with ⟨hb, hp2, ho, hE'⟩ | ⟨hb, -⟩ | ⟨a, b, hb, -⟩ | ⟨a, b, hb, -⟩
      · cases hb
        refine ⟨ho, X', G, FU, qc, n, ml, [], hsm, rfl, by omega, by omega, hN0, hN1, ?_, ?_⟩
        · unfold Mach
          dsimp only
          rw [if_neg (by omega), if_neg (by omega), if_neg (by omega)]
        · rw [hsm.1]
          exact hE'
      all_goals cases hb
    · rw [if_pos rfl, actM_nd]
      have hnd9 := h1.nd1
      rcases h3 rfl with hp2 | hp2 | hp2
      · refine step01_t (X0 := X) (V := V) (G := G) (FU := FU) (qc := qc) hp2 ds hds hdn hdl ⟨hnd9 (by omega), h1.nd⟩ rfl (h1.p1 hp2) hml r70 (hbg.mono ?_)
        rintro o w' ⟨X', T2, hsm, hN0, hN1, h⟩
        rcases h with ⟨hb, -⟩ | ⟨hb, hp3, ho, hE'⟩ | ⟨a, b, hb, hp3, -⟩ | ⟨a, b, hb, hp3, -⟩
        · cases hb
        · cases hb
          exact ⟨ho, X', hsm, hN0, hN1, hE'⟩
        · cases hb
          omega
        · cases hb
          omega
      · refine step03_t (X0 := X) (V := V) (G := G) (FU := FU) (qc := qc) hp2 hn (by omega) (by have := h1.re; unfold InU; omega) (by have := h1.rs; unfold In64; omega) (fun _ => epI_le h1.re.1 h1.re.2 hl40.2) (h1.rpc hp2) hml r70 (hbg.mono ?_)
        rintro o w' ⟨X', T2, hsm, hN0, hN1, h⟩
        rcases h with ⟨hb, -⟩ | ⟨hb, hp3, -⟩ | ⟨a, b, hb, hp3, hr0, ha, hb9, ho, hE'⟩ | ⟨a, b, hb, hp3, -⟩
        · cases hb
        · cases hb
          omega
        · cases hb
          exact ⟨ho, X', a, b, ha, hb9, hsm, hN0, hN1, hE'⟩
        · cases hb
          omega
      · refine step04_t (X0 := X) (V := V) (G := G) (FU := FU) (qc := qc) hp2 hg hn (by omega) h1.ghu h1.gpc (give_of hC h1 hp2) (fun h => by have := h1.gv hp2 (by omega); omega) hml r70 (hbg.mono ?_)
        rintro o w' ⟨X', T2, hsm, hN0, hN1, h⟩
        rcases h with ⟨hb, -⟩ | ⟨hb, hp3, -⟩ | ⟨a, b, hb, hp3, -⟩ | ⟨a, b, hb, hp3, hr0, ha, hb9, ho, hE'⟩
        · cases hb
        · cases hb
          omega
        · cases hb
          omega
        · cases hb
          exact ⟨ho, X', a, b, ha, hb9, hsm, hN0, hN1, hE'⟩
  · have hnd := hT.nd1 hp
    have hst : stepM C ds T (getL ml) = actM C (ds.getD (T.nd - 1) default) T (getL ml) := by
      unfold stepM
      rw [if_neg hp]
      rfl
    rw [hst, actM_nd]
    rcases hT.pc with h | h | h | h | h
    · exact absurd h hp
    · have hms : ms = [] := by
        unfold Mach at hM
        rw [if_neg (by omega), if_neg (by omega), if_neg (by omega)] at hM
        exact hM
      subst hms
      exact step1_t ds hds hdn hdl ⟨hnd, hT.nd⟩ rfl h (hT.p1 h) hml hN hE
    · unfold Mach at hM
      rw [if_pos h] at hM
      obtain ⟨a, b, left, s, gl, ha, hb, hlf, rfl⟩ := hM
      exact step2_t ds hds hdn hdl ⟨hnd, hT.nd⟩ rfl h ha hb (by have := hT.done; constructor <;> omega) hg (rowOk_of hC hT hB hn h) (hdI _ (getD_in (by have := hT.nd; omega))) hlf hml hN (fun h6 => by have := hT.pool h (by omega) (by omega); omega) hE
    · unfold Mach at hM
      rw [if_neg (by omega), if_pos h] at hM
      obtain ⟨a, b, ha, hb, rfl⟩ := hM
      exact step3_t h ha hb hn (by omega) (by have := hT.re; unfold InU; omega) (by have := hT.rs; unfold In64; omega) (fun _ => epI_le hT.re.1 hT.re.2 hl40.2) (hT.rpc h) hml hN hE
    · unfold Mach at hM
      rw [if_neg (by omega), if_neg (by omega), if_pos h] at hM
      obtain ⟨a, b, ha, hb, rfl⟩ := hM
      exact step4_t h ha hb hg hn (by omega) hT.ghu hT.gpc (give_of hC hT h) (fun h3 => by have := hT.gv h (by omega); omega) hml hN hE
end
end Go.Proofs.YtmifdkbpbkafjaaGreatDoor

/- Contracts of layer 3: the reference's functions that later layers call. -/
namespace Go.Proofs.YtmifdkbpbkafjaaGreatDoor
open Go.RowKit
set_option maxRecDepth 100000

set_option maxHeartbeats 800000 in
theorem refCheck_any (k s b h l : Int) (w : World) : Calls Tryz.prog 36 #[.agg #[.int .i64 k, .int .i64 s, .int .i64 b, .int .i64 h, .int .i64 l]] w fun e w' => e = .returned (.int .i64 (chkI k s b h l)) ∧ Below w.heap.size w w' := by
  have hF := (Fr.start w).push w.heap.size rfl [.int .i64 k, .int .i64 s, .int .i64 b, .int .i64 h, .int .i64 l] 23
  go_enter Tryz.func36, Tryz.ntmps36
  go_wp2
  all_goals
    go_ret
    (try go_light)
    (try simp only [bne_iff_ne, ne_eq, bne_eq_false_iff_eq, beq_iff_eq, beq_eq_false_iff_ne, Bool.or_eq_true, Bool.and_eq_true, decide_eq_true_eq, decide_eq_false_iff_not, Bool.or_eq_false_iff, Bool.not_eq_true', Bool.not_eq_false'] at *)
    (try subst_vars)
    refine ⟨ret_int ?_, hF.below⟩
    first
      | exact (chk_eight (by omega)).symm
      | exact (chk_zero (by omega) (by unfold Cfg; omega)).symm
      | exact (chk_three (by omega) (by unfold Cfg; omega)).symm
end Go.Proofs.YtmifdkbpbkafjaaGreatDoor

/- Threads: rows of rows of deeds; great. -/
namespace Go.Proofs.YtmifdkbpbkafjaaGreatDoor
open Go.RowKit Go.Maps
set_option maxRecDepth 100000

/-- A row of deeds. -/
structure Rw where
  (A : Option Addr)
  (cap : Nat)
  (ds : List Dd)
instance : Inhabited Rw := ⟨⟨none, 0, []⟩⟩
def encRw (r : Rw) : List Value := [.slice r.A r.ds.length r.cap]
theorem rowRw {w0 v : World} {A : Option Addr} {rs : List Rw} (hd : RowX encRw 1 w0 A rs) (hb : Below w0.heap.size w0 v) (i : Nat) (hi : i < rs.length) :
    ∃ g off, A = some ⟨g, off, none⟩ ∧ ∀ v, Below w0.heap.size w0 v → v.cell? ⟨g, off + i, none⟩ = some (.slice (rs.getD i default).A (rs.getD i default).ds.length (rs.getD i default).cap) := by
  rcases hd with h | ⟨b, off, hA, hl, hc⟩
  · rw [h] at hi; simp at hi
  · refine ⟨b, off, hA, fun v hv => ?_⟩
    have := ((hc i hi).below hv hl) 0 _ rfl
    simpa using this

section
variable {w0 : World}
set_option maxHeartbeats 1600000 in
theorem great_t (k s b h l : Int) (A Ap : Option Addr) (cap capp np : Nat) (rs : List Rw) (hrs : rs.length ≤ 9223372036854775807) (hnp : np ≤ 9223372036854775807) (hrow : RowX encRw 1 w0 A rs) (hlen : ∀ r ∈ rs, r.ds.length ≤ 9223372036854775807) (w : World) (hw : Below w0.heap.size w0 w) :
    Calls Tryz.prog 8 #[.agg #[.int .i64 k, .int .i64 s, .int .i64 b, .int .i64 h, .int .i64 l], .slice A rs.length cap, .slice Ap np capp] w fun o w' => Below w.heap.size w w' ∧ (o = .returned (.bool true) ∨ (o = .returned (.bool false) ∧ chkI k s b h l = 0 ∧ 1 ≤ rs.length ∧ rs.length ≤ 4 ∧ np ≤ 400 ∧ ∀ i, i < rs.length → (rs.getD i default).ds.length ≤ 40)) := by
  have hE := (Env.start w).box w.heap.size rfl [.int .i64 k, .int .i64 s, .int .i64 b, .int .i64 h, .int .i64 l] 23
  have r0 := hE.rule 0 rfl
  have HROW := Lib.hid hrow
  have HLEN := Lib.hid hlen
  have HW := Lib.hid hw
  clear hrow hlen hw
  by_cases h1 : chkI k s b h l = 0
  · by_cases h2 : rs.length < 1
    · have b1 : (chkI k s b h l != 0) = false := by simp [h1]
      have b2 : decide ((rs.length : Int) < 1) = true := by simp; omega
      have H1 := Lib.hid h1
      have H2 := Lib.hid h2
      clear h1 h2
      go_enter Tryz.func8, Tryz.ntmps8
      go_wp2_with fail
      refine (refCheck_any k s b h l _).mono ?_
      rintro o w3 ⟨rfl, hb⟩
      replace hE := hE.over hb
      go_wp2_with fail
      go_ret
      exact ⟨hE.below, .inl rfl⟩
    · by_cases h3 : 4 < rs.length
      · have b1 : (chkI k s b h l != 0) = false := by simp [h1]
        have b2 : decide ((rs.length : Int) < 1) = false := by simp; omega
        have b3 : decide (4 < (rs.length : Int)) = true := by simp; omega
        have H1 := Lib.hid h1
        have H2 := Lib.hid h2
        have H3 := Lib.hid h3
        clear h1 h2 h3
        go_enter Tryz.func8, Tryz.ntmps8
        go_wp2_with fail
        refine (refCheck_any k s b h l _).mono ?_
        rintro o w3 ⟨rfl, hb⟩
        replace hE := hE.over hb
        go_wp2_with fail
        go_ret
        exact ⟨hE.below, .inl rfl⟩
      · by_cases h4 : 400 < np
        · have b1 : (chkI k s b h l != 0) = false := by simp [h1]
          have b2 : decide ((rs.length : Int) < 1) = false := by simp; omega
          have b3 : decide (4 < (rs.length : Int)) = false := by simp; omega
          have b4 : decide (400 < (np : Int)) = true := by simp; omega
          have H1 := Lib.hid h1
          have H2 := Lib.hid h2
          have H3 := Lib.hid h3
          have H4 := Lib.hid h4
          clear h1 h2 h3 h4
          go_enter Tryz.func8, Tryz.ntmps8
          go_wp2_with fail
          refine (refCheck_any k s b h l _).mono ?_
          rintro o w3 ⟨rfl, hb⟩
          replace hE := hE.over hb
          go_wp2_with fail
          go_ret
          exact ⟨hE.below, .inl rfl⟩
        · have b1 : (chkI k s b h l != 0) = false := by simp [h1]
          have b2 : decide ((rs.length : Int) < 1) = false := by simp; omega
          have b3 : decide (4 < (rs.length : Int)) = false := by simp; omega
          have b4 : decide (400 < (np : Int)) = false := by simp; omega
          have H1 := Lib.hid h1
          have H2 := Lib.hid h2
          have H3 := Lib.hid h3
          have H4 := Lib.hid h4
          clear h1 h2 h3 h4
          go_enter Tryz.func8, Tryz.ntmps8
          go_wp2_with fail
          refine (refCheck_any k s b h l _).mono ?_
          rintro o w3 ⟨rfl, hb⟩
          replace hE := hE.over hb
          clear r0 hb
          go_wp2_with fail
          clear b1 b2 b3 b4
          go_loopw [7] (fun iv wr => ∃ (j : Nat), j ≤ rs.length ∧ iv = .int .i64 j ∧ Hid (∀ i, i < j → (rs.getD i default).ds.length ≤ 40) ∧ Below w.heap.size w wr) (fun iv _ => rs.length - (intOf iv).toNat)
          case atStart => exact ⟨0, Nat.zero_le _, rfl, Lib.hid (fun i hi => absurd hi (Nat.not_lt_zero _)), hE.below⟩
          case round =>
            obtain ⟨j, hj, rfl, hall, hbe⟩ := hrel
            clear hE
            by_cases hlt : j < rs.length
            · have hb1 : decide ((j : Int) < (rs.length : Int)) = true := by simp; omega
              obtain ⟨g, off, hA, hc⟩ := rowRw HROW.out HW.out j hlt
              have hA9 := hA
              subst hA
              have hbw : Below w0.heap.size w0 wr := HW.out.trans (hbe.mono HW.out.size)
              have c0 := hc wr hbw
              have hmem : rs.getD j default ∈ rs := by rw [show rs.getD j default = rs[j] by simp [hlt]]; exact List.getElem_mem _
              have hl9 := HLEN.out _ hmem
              obtain ⟨r, hr⟩ : ∃ r, rs.getD j default = r := ⟨_, rfl⟩
              rw [hr] at c0 hl9
              have HR := Lib.hid hr
              have HHL := Lib.hid hlt
              clear hc hA9 hr hmem hlt
              by_cases h40 : 40 < r.ds.length
              · have b5 : decide (40 < (r.ds.length : Int)) = true := by simp; omega
                clear h40
                go_wp2_with fail
                go_ret
                exact ⟨hbe, .inl rfl⟩
              · have b5 : decide (40 < (r.ds.length : Int)) = false := by simp; omega
                have H40 := Lib.hid h40
                clear h40
                go_wp2_with fail
                have hlt := HHL.out
                refine ⟨⟨j + 1, by omega, by simp, Lib.hid ?_, hbe⟩, ?_⟩
                · intro i hi
                  by_cases he : i = j
                  · subst he
                    rw [HR.out]
                    have := H40.out
                    omega
                  · exact hall.out i (by omega)
                · simp only [intOf]
                  omega
            · have hb1 : decide ((j : Int) < (rs.length : Int)) = false := by simp; omega
              have HHL := Lib.hid hlt
              clear hlt
              go_wp2_with fail
              go_ret
              refine ⟨hbe, .inr ⟨rfl, H1.out, ?_, ?_, ?_, ?_⟩⟩
              · have := H2.out; omega
              · have := H3.out; omega
              · have := H4.out; omega
              · intro i hi
                exact hall.out i (by have := HHL.out; omega)
  · have b1 : (chkI k s b h l != 0) = true := by simp [h1]
    have H1 := Lib.hid h1
    clear h1
    go_enter Tryz.func8, Tryz.ntmps8
    go_wp2_with fail
    refine (refCheck_any k s b h l _).mono ?_
    rintro o w3 ⟨rfl, hb⟩
    replace hE := hE.over hb
    go_wp2_with fail
    go_ret
    exact ⟨hE.below, .inl rfl⟩
end
end Go.Proofs.YtmifdkbpbkafjaaGreatDoor

/- Rows of the call's own, of pointers to threads. -/
namespace Go.Proofs.YtmifdkbpbkafjaaGreatDoor
open Go.RowKit Go.Maps
set_option maxRecDepth 100000

def tps (cs : List Nat) : List Value := cs.map fun c => .pointer (some ⟨c, 0, none⟩)
theorem tps_append (a b : List Nat) : tps (a ++ b) = tps a ++ tps b := by simp [tps]
def tpsI (v : Value) (cs : List Nat) : Item := rowI v 42 1 cs.length (tps cs)
theorem infoTp : (Tryz.prog.info? 42).map (fun i => (i.zero, i.size, i.bytes)) = some (some (.pointer none), 1, 8) := by kernel_rfl
section
variable {w0 w w' : World} {L : List Item}
theorem Env.tpRow (h : Env w0 L w) (i : Nat) {v : Value} {cs : List Nat} (hi : L[i]? = some (tpsI v cs)) : w.ownsRow 0 42 1 v cs.length (tps cs) := h.get i hi
theorem Env.tpAt (h : Env w0 L w) (i : Nat) {g n cap : Nat} {cs : List Nat} (hi : L[i]? = some (tpsI (.slice (some ⟨g, 0, none⟩) n cap) cs)) (j : Nat) (hj : j < cs.length) : w.cell? ⟨g, j, none⟩ = some (.pointer (some ⟨cs.getD j 0, 0, none⟩)) := by
  have ho := h.tpRow i hi
  rcases ho.2 with ⟨_, h0⟩ | ⟨g', cap', cur, hv, _, hg, hn, hc, hcs, htk⟩
  · omega
  · simp only [Value.slice.injEq, Option.some.injEq, Addr.mk.injEq] at hv
    obtain ⟨⟨rfl, -⟩, -, rfl⟩ := hv
    have h1 : (tps cs)[j]? = some (.pointer (some ⟨cs.getD j 0, 0, none⟩)) := by simp [tps, hj]
    rw [← h1, ← htk, List.getElem?_take_of_lt (by omega)]
    simp [World.cell?, hg]
theorem Env.tpEmpty (h : Env w0 L w) (n : Nat) (hn : w.heap.size = n) : Env w0 (tpsI (.slice (some ⟨n, 0, none⟩) 0 0) [] :: L) (w.alloc (.cells #[] 42)) := by
  subst hn
  have ho : (w.alloc (.cells #[] 42)).ownsRow w.heap.size 42 1 (.slice (some ⟨w.heap.size, 0, none⟩) 0 0) 0 [] := ⟨rfl, .inr ⟨w.heap.size, 0, #[], rfl, Nat.le_refl _, heap_alloc_new w _, Nat.le_refl _, Nat.zero_le _, rfl, rfl⟩⟩
  exact h.add (tpsI (.slice (some ⟨w.heap.size, 0, none⟩) 0 0) []) ((Below.refl _ _).alloc (Nat.le_refl _) _) (ownsRow_base ho (Nat.zero_le _)) fun k hk => ho.lt k hk
/-- One pointer appended to a row. -/
theorem Env.appendT (h : Env w0 L w) (i : Nat) {v : Value} {cs : List Nat} (hi : L[i]? = some (tpsI v cs)) (c : Nat) (hz : cs.length ≤ 1000000) (n : Nat) (hn : w.heap.size = n) :
    ∃ g cap w', (Builtin.append_ #[40, 40] 40 #[v, .slice (some ⟨n, 0, none⟩) 1 1]).run Tryz.prog (w.alloc (.cells #[.pointer (some ⟨c, 0, none⟩)] 42)) = .ok (.slice (some ⟨g, 0, none⟩) (cs.length + 1) cap) w' ∧
      Env w0 (L.set i (tpsI (.slice (some ⟨g, 0, none⟩) (cs.length + 1) cap) (cs ++ [c]))) w' := by
  subst hn
  obtain ⟨i0, hi0, hz0, hz1, hz2⟩ := info_parts infoTp
  have hown := h.tpRow i hi
  obtain ⟨g, cap, w', hrun, ho, hgr, hg, hgl⟩ := run_append_lies (P := Tryz.prog) (w.alloc (.cells #[.pointer (some ⟨c, 0, none⟩)] 42)) 40 40 0 42 i0 (.pointer none) 1 8 Tryz.underlying40 hi0 hz0 hz1 hz2 rfl (by decide) v cs.length (tps cs) (hown.alloc _)
    ⟨w.heap.size, 0, none⟩ 1 1 [.pointer (some ⟨c, 0, none⟩)] rfl (cells_new _ _ _) (by simp [Value.oneCell']) (by omega) (by simp [maxLen]; omega) (by omega) (by simp) _ rfl
  have hst : Step (fun k => v.ownBlock = some k) (fun k => k = g) w w' := ⟨((Turn.refl _ w).alloc _).grown hgr fun k _ e => e, fun k hk => by
    subst hk
    rcases hg with e | e
    · exact .inl e
    · right; rw [e]; simp⟩
  refine ⟨g, cap, w', hrun, ?_⟩
  refine h.step i (tpsI (.slice (some ⟨g, 0, none⟩) (cs.length + 1) cap) (cs ++ [c])) hi ⟨hst.turn, fun k hk => hst.from' k (by cases hk; rfl)⟩ ?_ fun k hk => by cases hk; exact hgl
  have e1 : (cs ++ [c]).length = cs.length + 1 := by simp
  show w'.ownsRow 0 42 1 _ (cs ++ [c]).length (tps (cs ++ [c]))
  rw [e1, tps_append]
  exact ho
end
end Go.Proofs.YtmifdkbpbkafjaaGreatDoor

/- Threads: what each is of, together; the contract of threads. -/
namespace Go.Proofs.YtmifdkbpbkafjaaGreatDoor
open Go.RowKit Go.Maps
set_option maxRecDepth 100000

/-- A thread, with what goes on. -/
structure Pk where
  (X : Tm)
  (T : Th)
  (ms : List Item)
def Pk.its (C : Cf) (p : Pk) : List Item :=
  coreI p.X.c C.k C.s C.b C.h C.l p.T.e p.X.cr p.T.hs 0 p.X.q :: queueI p.X.q p.X.F p.T.ql p.X.kq :: boxI p.X.u (urv C.k C.s C.b C.h C.l p.T.e p.X.A p.T.ql.length p.X.rc p.X.N p.T.hs p.X.ro) :: rrI p.X.A p.X.rc p.T.ql :: boxI p.X.thr (thv p.X p.T) :: p.ms
def T0 : Th := ⟨0, [], 0, 0, 0, 0, 0, 0, 0, 0, 0, 0, 0, 0, 0, 0, false⟩
/-- A thread that has begun nothing. -/
def New0 (p : Pk) (r : Rw) : Prop := p.X.dA = r.A ∧ p.X.dn = r.ds.length ∧ p.T = T0 ∧ p.ms = [] ∧ 0 ≤ p.X.N ∧ p.X.N ≤ 4000000 ∧ p.X.dc = r.cap
/-- How far a thread is built. -/
def ThA (w0 : World) (k s b h l : Int) (r : Rw) (v : Value) (cs : List Nat) (M : List Item) (κs : List Value) (fo : Option Value) (w : World) : Prop :=
  (κs = [] ∧ ((fo = none ∧ Env w0 (tpsI v cs :: M) w) ∨ ∃ n, fo = some (.pointer (some ⟨n, 0, none⟩)) ∧ Env w0 (boxI n [.int .i64 k, .int .i64 s, .int .i64 b, .int .i64 h, .int .i64 l, .int .i64 0, .slice none 0 0, .int .i64 0, .int .i64 0, .int .i64 0] :: tpsI v cs :: M) w)) ∨ (∃ c q F, κs = [.pointer (some ⟨c, 0, none⟩)] ∧ ((fo = none ∧ Env w0 (coreI c k s b h l 0 0 0 0 q :: queueI q F [] 2 :: tpsI v cs :: M) w) ∨ ∃ n, fo = some (.pointer (some ⟨n, 0, none⟩)) ∧ Env w0 (boxI n [.int .i64 k, .int .i64 s, .int .i64 b, .int .i64 h, .int .i64 l, .int .i64 0, .slice none 0 0, .int .i64 0, .int .i64 0, .int .i64 0] :: coreI c k s b h l 0 0 0 0 q :: queueI q F [] 2 :: tpsI v cs :: M) w)) ∨ (∃ c q F n, κs = [.pointer (some ⟨c, 0, none⟩), Value.agg #[.pointer (some ⟨c, 0, none⟩), .pointer (some ⟨n, 0, none⟩), .slice r.A r.ds.length r.cap, .int .i64 0, .int .i64 0, .pointer none, .pointer none, .pointer none, .pointer none, .pointer none, .pointer none, .int .i64 0, .bool false]] ∧ fo = some (.pointer (some ⟨n, 0, none⟩)) ∧ Env w0 (boxI n [.int .i64 k, .int .i64 s, .int .i64 b, .int .i64 h, .int .i64 l, .int .i64 0, .slice none 0 0, .int .i64 0, .int .i64 0, .int .i64 0] :: coreI c k s b h l 0 0 0 0 q :: queueI q F [] 2 :: tpsI v cs :: M) w) ∨ (∃ c q F n t, κs = [.pointer (some ⟨c, 0, none⟩), Value.agg #[.pointer (some ⟨c, 0, none⟩), .pointer (some ⟨n, 0, none⟩), .slice r.A r.ds.length r.cap, .int .i64 0, .int .i64 0, .pointer none, .pointer none, .pointer none, .pointer none, .pointer none, .pointer none, .int .i64 0, .bool false], .pointer (some ⟨t, 0, none⟩)] ∧ fo = some (.pointer (some ⟨n, 0, none⟩)) ∧ Env w0 (boxI t [.pointer (some ⟨c, 0, none⟩), .pointer (some ⟨n, 0, none⟩), .slice r.A r.ds.length r.cap, .int .i64 0, .int .i64 0, .pointer none, .pointer none, .pointer none, .pointer none, .pointer none, .pointer none, .int .i64 0, .bool false] :: boxI n [.int .i64 k, .int .i64 s, .int .i64 b, .int .i64 h, .int .i64 l, .int .i64 0, .slice none 0 0, .int .i64 0, .int .i64 0, .int .i64 0] :: coreI c k s b h l 0 0 0 0 q :: queueI q F [] 2 :: tpsI v cs :: M) w) ∨ (∃ c q F n t w3, κs = [.pointer (some ⟨c, 0, none⟩), Value.agg #[.pointer (some ⟨c, 0, none⟩), .pointer (some ⟨n, 0, none⟩), .slice r.A r.ds.length r.cap, .int .i64 0, .int .i64 0, .pointer none, .pointer none, .pointer none, .pointer none, .pointer none, .pointer none, .int .i64 0, .bool false], .pointer (some ⟨t, 0, none⟩), .slice (some ⟨w3.heap.size, 0, none⟩) 1 1] ∧ fo = some (.pointer (some ⟨n, 0, none⟩)) ∧ w = w3.alloc (.cells #[.pointer (some ⟨t, 0, none⟩)] 42) ∧ Env w0 (boxI t [.pointer (some ⟨c, 0, none⟩), .pointer (some ⟨n, 0, none⟩), .slice r.A r.ds.length r.cap, .int .i64 0, .int .i64 0, .pointer none, .pointer none, .pointer none, .pointer none, .pointer none, .pointer none, .int .i64 0, .bool false] :: boxI n [.int .i64 k, .int .i64 s, .int .i64 b, .int .i64 h, .int .i64 l, .int .i64 0, .slice none 0 0, .int .i64 0, .int .i64 0, .int .i64 0] :: coreI c k s b h l 0 0 0 0 q :: queueI q F [] 2 :: tpsI v cs :: M) w3) ∨ (∃ c q F n t z g cp, κs = [.pointer (some ⟨c, 0, none⟩), Value.agg #[.pointer (some ⟨c, 0, none⟩), .pointer (some ⟨n, 0, none⟩), .slice r.A r.ds.length r.cap, .int .i64 0, .int .i64 0, .pointer none, .pointer none, .pointer none, .pointer none, .pointer none, .pointer none, .int .i64 0, .bool false], .pointer (some ⟨t, 0, none⟩), .slice (some ⟨z, 0, none⟩) 1 1, .slice (some ⟨g, 0, none⟩) (cs.length + 1) cp] ∧ fo = some (.pointer (some ⟨n, 0, none⟩)) ∧ Env w0 (boxI t [.pointer (some ⟨c, 0, none⟩), .pointer (some ⟨n, 0, none⟩), .slice r.A r.ds.length r.cap, .int .i64 0, .int .i64 0, .pointer none, .pointer none, .pointer none, .pointer none, .pointer none, .pointer none, .int .i64 0, .bool false] :: boxI n [.int .i64 k, .int .i64 s, .int .i64 b, .int .i64 h, .int .i64 l, .int .i64 0, .slice none 0 0, .int .i64 0, .int .i64 0, .int .i64 0] :: coreI c k s b h l 0 0 0 0 q :: queueI q F [] 2 :: tpsI (.slice (some ⟨g, 0, none⟩) (cs.length + 1) cp) (cs ++ [t]) :: M) w) ∨ (∃ c q F n t z g cp, κs = [.pointer (some ⟨c, 0, none⟩), Value.agg #[.pointer (some ⟨c, 0, none⟩), .pointer (some ⟨n, 0, none⟩), .slice r.A r.ds.length r.cap, .int .i64 0, .int .i64 0, .pointer none, .pointer none, .pointer none, .pointer none, .pointer none, .pointer none, .int .i64 0, .bool false], .pointer (some ⟨t, 0, none⟩), .slice (some ⟨z, 0, none⟩) 1 1, .slice (some ⟨g, 0, none⟩) (cs.length + 1) cp, .slice (some ⟨g, 0, none⟩) (cs.length + 1) cp] ∧ fo = some (.pointer (some ⟨n, 0, none⟩)) ∧ Env w0 (boxI t [.pointer (some ⟨c, 0, none⟩), .pointer (some ⟨n, 0, none⟩), .slice r.A r.ds.length r.cap, .int .i64 0, .int .i64 0, .pointer none, .pointer none, .pointer none, .pointer none, .pointer none, .pointer none, .int .i64 0, .bool false] :: boxI n [.int .i64 k, .int .i64 s, .int .i64 b, .int .i64 h, .int .i64 l, .int .i64 0, .slice none 0 0, .int .i64 0, .int .i64 0, .int .i64 0] :: coreI c k s b h l 0 0 0 0 q :: queueI q F [] 2 :: tpsI (.slice (some ⟨g, 0, none⟩) (cs.length + 1) cp) (cs ++ [t]) :: M) w)

section
variable {w0 w : World} {L : List Item}
set_option maxHeartbeats 3200000 in
theorem threads_t (k s b h l : Int) (A : Option Addr) (cap : Nat) (rs : List Rw) (hrs : rs.length ≤ 4) (hrow : RowX encRw 1 w0 A rs) (hc : chkI k s b h l = 0) (hE : Env w0 L w) :
    Calls Tryz.prog 13 #[.agg #[.int .i64 k, .int .i64 s, .int .i64 b, .int .i64 h, .int .i64 l], .slice A rs.length cap] w fun o w' => ∃ (g cp : Nat) (ps : List Pk), o = .returned (.slice (some ⟨g, 0, none⟩) rs.length cp) ∧ ps.length = rs.length ∧ (∀ i, i < rs.length → ∃ p, ps[i]? = some p ∧ New0 p (rs.getD i default)) ∧ Env w0 (tpsI (.slice (some ⟨g, 0, none⟩) rs.length cp) (ps.map fun p => p.X.thr) :: (ps.flatMap (Pk.its ⟨k, s, b, h, l⟩) ++ L)) w' := by
  obtain ⟨Bx, hB⟩ : ∃ B, w.heap.size = B := ⟨_, rfl⟩
  have hE0 := hE.box Bx hB [.int .i64 k, .int .i64 s, .int .i64 b, .int .i64 h, .int .i64 l] 23
  have hE1 := hE0.tpEmpty (Bx + 1) (by simp [hB])
  have r0 := hE0.rule 0 rfl
  have HROW := Lib.hid hrow
  have HC := Lib.hid hc
  have HRS := Lib.hid hrs
  clear hrow hc hE hE0
  go_enter Tryz.func13, Tryz.ntmps13
  go_wp2_with fail
  clear r0
  go_loopw [5, 6] (fun ov iv wr => ∃ (j g cp : Nat) (ps : List Pk), j ≤ rs.length ∧ iv = .int .i64 j ∧ ps.length = j ∧ ov = .slice (some ⟨g, 0, none⟩) j cp ∧ Hid (∀ i, i < j → ∃ p, ps[i]? = some p ∧ New0 p (rs.getD i default)) ∧ Env w0 (tpsI ov (ps.map fun p => p.X.thr) :: boxI Bx [.int .i64 k, .int .i64 s, .int .i64 b, .int .i64 h, .int .i64 l] :: (ps.flatMap (Pk.its ⟨k, s, b, h, l⟩) ++ L)) wr) (fun _ iv _ => rs.length - (intOf iv).toNat)
  case atStart => exact ⟨0, Bx + 1, 0, [], Nat.zero_le _, rfl, rfl, rfl, Lib.hid (fun i hi => absurd hi (Nat.not_lt_zero _)), hE1⟩
  case round =>
    clear hE1 hB
    obtain ⟨j, g, cp, ps, hj, rfl, hpl, rfl, hall, hE⟩ := hrel
    have HPL := Lib.hid hpl
    clear hpl
    by_cases hlt : j < rs.length
    · have hb1 : decide ((j : Int) < (rs.length : Int)) = true := by simp; omega
      have hlt1 : (j : Int) < (rs.length : Int) := by omega
      obtain ⟨g0, off, hA, hc⟩ := rowRw HROW.out (Below.refl _ _) j hlt
      have HA9 := Lib.hid hA
      subst hA
      have HCC := Lib.hid hc
      obtain ⟨r, hr⟩ : ∃ r, rs.getD j default = r := ⟨_, rfl⟩
      rw [hr] at HCC
      have HR := Lib.hid hr
      clear hc hr
      obtain ⟨M, hM⟩ : ∃ M, M = boxI Bx [.int .i64 k, .int .i64 s, .int .i64 b, .int .i64 h, .int .i64 l] :: (ps.flatMap (Pk.its ⟨k, s, b, h, l⟩) ++ L) := ⟨_, rfl⟩
      rw [← hM] at hE
      obtain ⟨v, hv⟩ : ∃ v, v = Value.slice (some ⟨g, 0, none⟩) j cp := ⟨_, rfl⟩
      obtain ⟨cs, hcs⟩ : ∃ cs, cs = ps.map fun p => p.X.thr := ⟨_, rfl⟩
      rw [← hv, ← hcs] at hE
      have hcl : cs.length = j := by rw [hcs, List.length_map]; exact HPL.out
      have hBM : boxI Bx [.int .i64 k, .int .i64 s, .int .i64 b, .int .i64 h, .int .i64 l] ∈ M := by rw [hM]; simp
      have HM := Lib.hid hM
      have HCS := Lib.hid hcs
      have HBM := Lib.hid hBM
      have HCL := Lib.hid hcl
      have HLT := Lib.hid hlt
      clear hM hcs hBM hcl hlt
      go_upto_region 5 with fail
      subst hv
      refine OrdF.wp_float [?_, ?_, ?_, ?_, ?_, OrdF.Ptr, ?_, ?_, ?_, ?_, ?_, ?_, ?_, ?_, ?_] [2, 10, 11, 12, 13, 14] 5 (fun v => Below w0.heap.size w0 v ∧ Blk 0 v Bx [.int .i64 k, .int .i64 s, .int .i64 b, .int .i64 h, .int .i64 l]) (ThA w0 k s b h l r (.slice (some ⟨g, 0, none⟩) j cp) cs M) (by kernel_rfl) (by kernel_rfl) (by kernel_rfl) ⟨hE.drew.below, hE.drew.mem (List.mem_cons_of_mem _ HBM.out)⟩ (.inl ⟨rfl, .inl ⟨rfl, hE.drew⟩⟩) (fun hT => ?_)
      rotate_left 14
      have hT9 := Lib.hid hT
      clear hT
      repeat (first
        | (focus (refine OrdF.in_value (v := ?_) hT9.out (by decide) (by decide) ?_ (by rfl) ?_ ?_; rotate_left 2; (focus (intro w5 hS; have r0 := hS.2.rule; have c0 := HCC.out _ hS.1; go_simp <;> with_reducible rfl)); rotate_right; (focus rfl); (try simp only [Act.put, List.setIfInBounds_toArray, List.set_cons_zero, List.set_cons_succ])))
        | (focus (refine OrdF.in_off hT9.out (by decide) (by decide) ?_ (by rfl) ?_; (focus rfl); (try simp only [Act.put, List.setIfInBounds_toArray, List.set_cons_zero, List.set_cons_succ]))))
      refine OrdF.in_turn OrdF.Ptr rfl (fun u => ∃ z, u = .pointer (some ⟨z, 0, none⟩)) _ ⟨0, rfl⟩ hT9.out rfl (by decide) (by decide) (by rfl) ?_ (Or.inl rfl) (by rfl) ?_ ?_
      · rfl
      · rintro fo5 w5 - hC5 hA5
        rcases hA5 with ⟨h, hA5⟩ | ⟨c, q, F, h, hA5⟩ | ⟨c, q, F, n, h, hf, hA5⟩ | ⟨c, q, F, n, t, h, hf, hA5⟩ | ⟨c, q, F, n, t, w3, h, hf, hw3, hA5⟩ | ⟨c, q, F, n, t, z, g9, cp9, h, hf, hA5⟩ | ⟨c, q, F, n, t, z, g9, cp9, h, hf, hA5⟩ <;> cases h
        go_simp
        simp only [Ord3.Lands]
        rcases hA5 with ⟨rfl, hE5⟩ | ⟨n5, rfl, hE5⟩
        · refine (newYes_c k s b h l HC.out hE5).mono ?_
          rintro o w6 ⟨c, q, F, rfl, hE6⟩
          exact ⟨_, rfl, ⟨_, rfl⟩, ⟨hE6.below, hE6.mem (List.mem_append_right [_, _, _] HBM.out)⟩, .inr (.inl ⟨c, q, F, rfl, .inl ⟨rfl, hE6⟩⟩)⟩
        · refine (newYes_c k s b h l HC.out hE5).mono ?_
          rintro o w6 ⟨c, q, F, rfl, hE6⟩
          exact ⟨_, rfl, ⟨_, rfl⟩, ⟨hE6.below, hE6.mem (List.mem_append_right [_, _, _, _] HBM.out)⟩, .inr (.inl ⟨c, q, F, rfl, .inr ⟨n5, rfl, hE6.perm (List.perm_middle (l₁ := [_, _]))⟩⟩)⟩
      rintro _ ⟨z1, rfl⟩
      (try simp only [Act.put, List.setIfInBounds_toArray, List.set_cons_zero, List.set_cons_succ])
      repeat (first
        | (focus (refine OrdF.in_value (v := ?_) hT9.out (by decide) (by decide) ?_ (by rfl) ?_ ?_; rotate_left 2; (focus (intro w5 hS; have r0 := hS.2.rule; have c0 := HCC.out _ hS.1; go_simp <;> with_reducible rfl)); rotate_right; (focus rfl); (try simp only [Act.put, List.setIfInBounds_toArray, List.set_cons_zero, List.set_cons_succ])))
        | (focus (refine OrdF.in_off hT9.out (by decide) (by decide) ?_ (by rfl) ?_; (focus rfl); (try simp only [Act.put, List.setIfInBounds_toArray, List.set_cons_zero, List.set_cons_succ]))))
      refine OrdF.in_float OrdF.Ptr (.pointer (some ⟨0, 0, none⟩)) ⟨0, rfl⟩ hT9.out rfl (by decide) ?_ (by rfl) ?_ ?_
      · rfl
      · intro w5 κs5 hC5 hA5
        rcases hA5 with ⟨h, hA5⟩ | ⟨c, q, F, h, hA5⟩ | ⟨c, q, F, n, h, hf, hA5⟩ | ⟨c, q, F, n, t, h, hf, hA5⟩ | ⟨c, q, F, n, t, w3, h, hf, hw3, hA5⟩ | ⟨c, q, F, n, t, z, g9, cp9, h, hf, hA5⟩ | ⟨c, q, F, n, t, z, g9, cp9, h, hf, hA5⟩
        · rcases hA5 with ⟨-, hE5⟩ | ⟨n5, h5, -⟩
          · subst h
            go_simp
            simp only [Ord3.Lands]
            have hE6 := hE5.box w5.heap.size rfl [.int .i64 k, .int .i64 s, .int .i64 b, .int .i64 h, .int .i64 l, .int .i64 0, .slice none 0 0, .int .i64 0, .int .i64 0, .int .i64 0] 105
            exact ⟨⟨_, rfl⟩, ⟨hE6.below, hE6.mem (List.mem_append_right [_, _] HBM.out)⟩, .inl ⟨rfl, .inr ⟨_, rfl, hE6⟩⟩⟩
          · cases h5
        · rcases hA5 with ⟨-, hE5⟩ | ⟨n5, h5, -⟩
          · subst h
            go_simp
            simp only [Ord3.Lands]
            have hE6 := hE5.box w5.heap.size rfl [.int .i64 k, .int .i64 s, .int .i64 b, .int .i64 h, .int .i64 l, .int .i64 0, .slice none 0 0, .int .i64 0, .int .i64 0, .int .i64 0] 105
            exact ⟨⟨_, rfl⟩, ⟨hE6.below, hE6.mem (List.mem_append_right [_, _, _, _] HBM.out)⟩, .inr (.inl ⟨c, q, F, rfl, .inr ⟨_, rfl, hE6⟩⟩)⟩
          · cases h5
        all_goals cases hf
      rintro _ ⟨n1, rfl⟩
      (try simp only [Act.put, List.setIfInBounds_toArray, List.set_cons_zero, List.set_cons_succ])
      repeat (first
        | (focus (refine OrdF.in_value (v := ?_) hT9.out (by decide) (by decide) ?_ (by rfl) ?_ ?_; rotate_left 2; (focus (intro w5 hS; have r0 := hS.2.rule; have c0 := HCC.out _ hS.1; go_simp <;> with_reducible rfl)); rotate_right; (focus rfl); (try simp only [Act.put, List.setIfInBounds_toArray, List.set_cons_zero, List.set_cons_succ])))
        | (focus (refine OrdF.in_off hT9.out (by decide) (by decide) ?_ (by rfl) ?_; (focus rfl); (try simp only [Act.put, List.setIfInBounds_toArray, List.set_cons_zero, List.set_cons_succ]))))
      refine OrdF.in_turn_late (by kernel_rfl) (by decide) (by decide) (fun u => ∃ c n, u = Value.agg #[.pointer (some ⟨c, 0, none⟩), .pointer (some ⟨n, 0, none⟩), .slice r.A r.ds.length r.cap, .int .i64 0, .int .i64 0, .pointer none, .pointer none, .pointer none, .pointer none, .pointer none, .pointer none, .int .i64 0, .bool false]) _ ⟨0, 0, rfl⟩ hT9.out rfl (by decide) (by rfl) ?_ (Or.inr ⟨_, 2, [], rfl, by kernel_rfl, by kernel_rfl, rfl⟩) (by rfl) ?_ ?_
      · rfl
      · rintro w5 hC5 hA5
        rcases hA5 with ⟨h, hA5⟩ | ⟨c, q, F, h, hA5⟩ | ⟨c, q, F, n, h, hf, hA5⟩ | ⟨c, q, F, n, t, h, hf, hA5⟩ | ⟨c, q, F, n, t, w3, h, hf, hw3, hA5⟩ | ⟨c, q, F, n, t, z, g9, cp9, h, hf, hA5⟩ | ⟨c, q, F, n, t, z, g9, cp9, h, hf, hA5⟩ <;> cases h
        rcases hA5 with ⟨hn, -⟩ | ⟨n5, hn, hE5⟩
        · cases hn
        cases hn
        go_simp
        simp only [Ord3.Lands]
        exact ⟨⟨_, _, rfl⟩, hC5, .inr (.inr (.inl ⟨_, q, F, _, rfl, rfl, hE5⟩))⟩
      rintro _ ⟨c2, n2, rfl⟩
      (try simp only [Act.put, List.setIfInBounds_toArray, List.set_cons_zero, List.set_cons_succ])
      refine OrdF.in_turn OrdF.Ptr rfl (fun u => ∃ z, u = .pointer (some ⟨z, 0, none⟩)) _ ⟨0, rfl⟩ hT9.out rfl (by decide) (by decide) (by rfl) ?_ (Or.inr ⟨_, 10, [], rfl, by kernel_rfl, by kernel_rfl, rfl⟩) (by rfl) ?_ ?_
      · rfl
      · rintro fo5 w5 - hC5 hA5
        rcases hA5 with ⟨h, hA5⟩ | ⟨c, q, F, h, hA5⟩ | ⟨c, q, F, n, h, hf, hA5⟩ | ⟨c, q, F, n, t, h, hf, hA5⟩ | ⟨c, q, F, n, t, w3, h, hf, hw3, hA5⟩ | ⟨c, q, F, n, t, z, g9, cp9, h, hf, hA5⟩ | ⟨c, q, F, n, t, z, g9, cp9, h, hf, hA5⟩ <;> cases h
        subst hf
        go_simp
        simp only [Ord3.Lands]
        have hE6 := hA5.box w5.heap.size rfl [.pointer (some ⟨z1, 0, none⟩), .pointer (some ⟨n2, 0, none⟩), .slice r.A r.ds.length r.cap, .int .i64 0, .int .i64 0, .pointer none, .pointer none, .pointer none, .pointer none, .pointer none, .pointer none, .int .i64 0, .bool false] 58
        exact ⟨⟨_, rfl⟩, ⟨hE6.below, hE6.mem (List.mem_append_right [_, _, _, _, _] HBM.out)⟩, .inr (.inr (.inr (.inl ⟨_, q, F, _, _, rfl, rfl, hE6⟩)))⟩
      rintro _ ⟨t3, rfl⟩
      (try simp only [Act.put, List.setIfInBounds_toArray, List.set_cons_zero, List.set_cons_succ])
      refine OrdF.in_turn OrdF.Ptr rfl (fun u => ∃ z, u = .slice (some ⟨z, 0, none⟩) 1 1) _ ⟨0, rfl⟩ hT9.out rfl (by decide) (by decide) (by rfl) ?_ (Or.inr ⟨_, 11, [], rfl, by kernel_rfl, by kernel_rfl, rfl⟩) (by rfl) ?_ ?_
      · rfl
      · rintro fo5 w5 - hC5 hA5
        rcases hA5 with ⟨h, hA5⟩ | ⟨c, q, F, h, hA5⟩ | ⟨c, q, F, n, h, hf, hA5⟩ | ⟨c, q, F, n, t, h, hf, hA5⟩ | ⟨c, q, F, n, t, w3, h, hf, hw3, hA5⟩ | ⟨c, q, F, n, t, z, g9, cp9, h, hf, hA5⟩ | ⟨c, q, F, n, t, z, g9, cp9, h, hf, hA5⟩ <;> cases h
        subst hf
        go_simp
        simp only [Ord3.Lands]
        have hE6 := hA5.more (.cells #[.pointer (some ⟨t3, 0, none⟩)] 42)
        exact ⟨⟨_, rfl⟩, ⟨hE6.below, hE6.mem (List.mem_append_right [_, _, _, _, _] HBM.out)⟩, .inr (.inr (.inr (.inr (.inl ⟨_, q, F, _, _, w5, rfl, rfl, rfl, hA5⟩))))⟩
      rintro _ ⟨z4, rfl⟩
      (try simp only [Act.put, List.setIfInBounds_toArray, List.set_cons_zero, List.set_cons_succ])
      refine OrdF.in_turn OrdF.Ptr rfl (fun u => ∃ g9 cp9, u = .slice (some ⟨g9, 0, none⟩) (cs.length + 1) cp9) _ ⟨0, 0, rfl⟩ hT9.out rfl (by decide) (by decide) (by rfl) ?_ (Or.inr ⟨_, 12, [], rfl, by kernel_rfl, by kernel_rfl, rfl⟩) (by rfl) ?_ ?_
      · rfl
      · rintro fo5 w5 - hC5 hA5
        rcases hA5 with ⟨h, hA5⟩ | ⟨c, q, F, h, hA5⟩ | ⟨c, q, F, n, h, hf, hA5⟩ | ⟨c, q, F, n, t, h, hf, hA5⟩ | ⟨c, q, F, n, t, w3, h, hf, hw3, hA5⟩ | ⟨c, q, F, n, t, z, g9, cp9, h, hf, hA5⟩ | ⟨c, q, F, n, t, z, g9, cp9, h, hf, hA5⟩ <;> cases h
        obtain ⟨g9, cp9, w6, hrun, hE6⟩ := hA5.appendT 4 rfl t3 (by have := HCL.out; have := HRS.out; omega) w3.heap.size rfl
        subst hw3
        subst hf
        rw [run_call_append (.tmp 14) (.tmp 26) 40 rfl (by rfl) (by rfl) hrun]
        simp only [Ord3.Lands]
        exact ⟨⟨_, _, rfl⟩, ⟨hE6.below, hE6.mem (List.mem_append_right [_, _, _, _, _] HBM.out)⟩, .inr (.inr (.inr (.inr (.inr (.inl ⟨_, q, F, _, _, _, g9, cp9, rfl, rfl, hE6⟩)))))⟩
      rintro _ ⟨g5, cp5, rfl⟩
      (try simp only [Act.put, List.setIfInBounds_toArray, List.set_cons_zero, List.set_cons_succ])
      refine OrdF.in_turn OrdF.Ptr rfl (fun u => ∃ g9 cp9, u = .slice (some ⟨g9, 0, none⟩) (cs.length + 1) cp9) _ ⟨0, 0, rfl⟩ hT9.out rfl (by decide) (by decide) (by rfl) ?_ (Or.inr ⟨_, 13, [], rfl, by kernel_rfl, by kernel_rfl, rfl⟩) (by rfl) ?_ ?_
      · rfl
      · rintro fo5 w5 - hC5 hA5
        rcases hA5 with ⟨h, hA5⟩ | ⟨c, q, F, h, hA5⟩ | ⟨c, q, F, n, h, hf, hA5⟩ | ⟨c, q, F, n, t, h, hf, hA5⟩ | ⟨c, q, F, n, t, w3, h, hf, hw3, hA5⟩ | ⟨c, q, F, n, t, z, g9, cp9, h, hf, hA5⟩ | ⟨c, q, F, n, t, z, g9, cp9, h, hf, hA5⟩ <;> cases h
        subst hf
        go_simp
        simp only [Ord3.Lands]
        exact ⟨⟨_, _, rfl⟩, hC5, .inr (.inr (.inr (.inr (.inr (.inr ⟨_, q, F, _, _, _, _, _, rfl, rfl, hA5⟩)))))⟩
      rintro _ ⟨g6, cp6, rfl⟩
      (try simp only [Act.put, List.setIfInBounds_toArray, List.set_cons_zero, List.set_cons_succ])
      refine OrdF.in_nil rfl (by decide) (by decide) ?_
      rintro w5 hC5 hA5
      rcases hA5 with ⟨h, hA5⟩ | ⟨c, q, F, h, hA5⟩ | ⟨c, q, F, n, h, hf, hA5⟩ | ⟨c, q, F, n, t, h, hf, hA5⟩ | ⟨c, q, F, n, t, w3, h, hf, hw3, hA5⟩ | ⟨c, q, F, n, t, z, g9, cp9, h, hf, hA5⟩ | ⟨c, q, F, n, t, z, g9, cp9, h, hf, hA5⟩ <;> cases h
      clear hT9 hC5 hf hb1 hlt1 HCC
      obtain ⟨p9, hp9⟩ : ∃ p9 : Pk, p9 = ⟨{ thr := t3, c := z1, q := q, u := n2, F := F, kq := 2, A := none, rc := 0, N := 0, cr := 0, ro := 0, dA := r.A, dn := r.ds.length, dc := r.cap, pa := .pointer none, pb := .pointer none, pr := .pointer none, pq := .pointer none, pg := .pointer none, ph := .pointer none }, T0, []⟩ := ⟨_, rfl⟩
      have hits : Pk.its ⟨k, s, b, h, l⟩ p9 = [coreI z1 k s b h l 0 0 0 0 q, queueI q F [] 2, boxI n2 [.int .i64 k, .int .i64 s, .int .i64 b, .int .i64 h, .int .i64 l, .int .i64 0, .slice none 0 0, .int .i64 0, .int .i64 0, .int .i64 0], rrI none 0 [], boxI t3 [.pointer (some ⟨z1, 0, none⟩), .pointer (some ⟨n2, 0, none⟩), .slice r.A r.ds.length r.cap, .int .i64 0, .int .i64 0, .pointer none, .pointer none, .pointer none, .pointer none, .pointer none, .pointer none, .int .i64 0, .bool false]] := by
        rw [hp9]
        rfl
      have hn9 : New0 p9 r ∧ p9.X.thr = t3 := by
        rw [hp9]
        exact ⟨⟨rfl, rfl, rfl, rfl, Int.le_refl _, (by show (0 : Int) ≤ 4000000; decide), rfl⟩, rfl⟩
      have hE7 : Env w0 (rrI none 0 [] :: boxI t3 [.pointer (some ⟨z1, 0, none⟩), .pointer (some ⟨n2, 0, none⟩), .slice r.A r.ds.length r.cap, .int .i64 0, .int .i64 0, .pointer none, .pointer none, .pointer none, .pointer none, .pointer none, .pointer none, .int .i64 0, .bool false] :: boxI n2 [.int .i64 k, .int .i64 s, .int .i64 b, .int .i64 h, .int .i64 l, .int .i64 0, .slice none 0 0, .int .i64 0, .int .i64 0, .int .i64 0] :: coreI z1 k s b h l 0 0 0 0 q :: queueI q F [] 2 :: tpsI (.slice (some ⟨g5, 0, none⟩) (cs.length + 1) cp5) (cs ++ [t3]) :: M) w5 := hA5.addNone3 114
      have hE8 : Env w0 (tpsI (.slice (some ⟨g5, 0, none⟩) (j + 1) cp5) ((ps ++ [p9]).map fun p => p.X.thr) :: boxI Bx [.int .i64 k, .int .i64 s, .int .i64 b, .int .i64 h, .int .i64 l] :: ((ps ++ [p9]).flatMap (Pk.its ⟨k, s, b, h, l⟩) ++ L)) w5 := by
        have e1 : (ps ++ [p9]).map (fun p => p.X.thr) = cs ++ [t3] := by rw [List.map_append, HCS.out]; simp [hn9.2]
        rw [e1, ← HCL.out]
        refine hE7.perm (perm_of fun z => ?_)
        rw [HM.out]
        simp only [List.flatMap_append, List.flatMap_cons, List.flatMap_nil, hits, List.count_append, List.count_cons, List.count_nil]
        omega
      have HE8 := Lib.hid hE8
      have HN9 := Lib.hid hn9
      clear hE8 hE7 hA5 hn9 hits hp9
      go_wp2_with fail
      have hlt := HLT.out
      have hpl := HPL.out
      refine ⟨⟨j + 1, g5, cp5, ps ++ [p9], by omega, by simp, by simp [hpl], by simp [HCL.out], Lib.hid ?_, ?_⟩, ?_⟩
      · intro i hi
        by_cases he : i < j
        · obtain ⟨p, h1, h2⟩ := hall.out i he
          exact ⟨p, by rw [List.getElem?_append_left (by omega)]; exact h1, h2⟩
        · have he : i = j := by omega
          subst he
          refine ⟨p9, ?_, by rw [HR.out]; exact HN9.out.1⟩
          rw [List.getElem?_append_right (by omega)]
          simp [hpl]
      · have := HE8.out
        rw [HCL.out]
        exact this
      · simp only [intOf]
        omega
    · have hb1 : decide ((j : Int) < (rs.length : Int)) = false := by simp; omega
      have HLT := Lib.hid hlt
      clear hlt
      go_wp2_with fail
      go_ret
      have hlt := HLT.out
      have hjr : j = rs.length := by omega
      subst hjr
      refine ⟨g, cp, ps, rfl, HPL.out, hall.out, hE.perm (perm_of fun z => ?_) |>.sub (List.sublist_cons_self (boxI Bx [.int .i64 k, .int .i64 s, .int .i64 b, .int .i64 h, .int .i64 l]) _)⟩
      simp only [List.count_append, List.count_cons]
      omega
end
end Go.Proofs.YtmifdkbpbkafjaaGreatDoor
