/- What is proved on the way to the statement, part 12 of 15: contracts of the functions, among other things in memory. -/
import Derived.Test.YtmifdkbpbkafjaaGreatDoorE11

/- Threads: the contract of step, where a checkpoint is due and an Alloc begins. -/
namespace Go.Proofs.YtmifdkbpbkafjaaGreatDoor
open Go.RowKit Go.Maps
set_option maxRecDepth 100000

section
variable {w0 w : World} {R : List Item} {C : Cf} {d : Dd} {X : Tm} {V : Wm} {T : Th} {G FU : Nat → Prop} {qc : Cnt} {ml : List OneR} {n : Nat}
set_option maxHeartbeats 6400000 in
theorem step1_t (ds : List Dd) (hds : DsAt w0 R X.dA ds) (hdn : X.dn = ds.length) (hdl : ds.length ≤ 1000) (hnd : 1 ≤ T.nd ∧ T.nd ≤ ds.length) (hdd : ds.getD (T.nd - 1) default = d) (hpc : T.pc = 1) (hs0 : T.hs = 0)
    (hml : ml.length ≤ 999999) (hN : 0 ≤ X.N ∧ X.N ≤ 4000000)
    (hE : Env w0 (LT (SP C X V T (getL ml) G qc n) (LU (SR C X V T FU ml) (boxI X.thr (thv X T) :: R))) w) :
    Calls Tryz.prog 14 #[.pointer (some ⟨X.thr, 0, none⟩), .pointer (some ⟨V.p, 0, none⟩), .pointer (some ⟨V.m, 0, none⟩)] w fun o w' => o = .returned (.bool true) ∧ ∃ (X' : Tm) (G' FU' : Nat → Prop) (qc' : Cnt) (n' : Nat) (ml' : List OneR) (ms' : List Item), Same X X' ∧ getL ml' = (actM C d T (getL ml)).2 ∧ ml'.length ≤ ml.length + 1 ∧ n' ≤ n + 1 ∧ 0 ≤ X'.N ∧ X'.N ≤ 4000000 ∧ Mach C d X' (actM C d T (getL ml)).1 ms' ∧ Env w0 (LT (SP C X' V (actM C d T (getL ml)).1 (getL ml') G' qc' n') (LU (SR C X' V (actM C d T (getL ml)).1 FU' ml') (boxI X'.thr (thv X' (actM C d T (getL ml)).1) :: (ms' ++ R)))) w' := by
  have hfu : ∀ x, InU (getL ml x) := fun x => (hE.cell 3 rfl).words.1 x
  obtain ⟨m, hm⟩ : ∃ m, T.nd = m + 1 := ⟨T.nd - 1, by omega⟩
  have hmm : T.nd - 1 = m := by omega
  rw [hmm] at hdd
  obtain ⟨g, off, hdA, hc⟩ := rowD hds m (by omega)
  rw [hdd] at hc
  have HC := Lib.hid hc
  obtain ⟨N1, hN1⟩ : ∃ N1 : Int, (T.nd : Int) = N1 := ⟨_, rfl⟩
  have HN1 := Lib.hid hN1
  have hx1 : wrap64 (N1 - 1) = (m : Int) := by rw [w64 _ (by omega)]; omega
  have hx2 : N1 - 1 = (m : Int) := by omega
  have hlt1 : (m : Int) < ((X.dn : Nat) : Int) := by omega
  have hge1 : (0 : Int) ≤ (m : Int) := by omega
  have hb1 : decide ((m : Int) < ((X.dn : Nat) : Int)) = true := by simpa using hlt1
  have hb2 : m < X.dn := by omega
  have hx4 : IntKind.i64.wrap (m : Int) = (m : Int) := (wrap_i _).trans (w64 _ (by omega))
  obtain ⟨e1, he1⟩ : ∃ e1, epI (getL ml (1, 0, 0)) = e1 := ⟨_, rfl⟩
  obtain ⟨D, hD⟩ : ∃ D, decP T.ql e1 C.l = D := ⟨_, rfl⟩
  have hact : actM C d T (getL ml) = ({ T with e := e1, apc := D, ah := 0, an := 0, ar := 0, pc := if D = 0 then 0 else 2, full := false }, getL ml) := by
    unfold actM
    rw [if_pos hpc, he1]
    dsimp only
    rw [hD]
  obtain ⟨T9, hT9⟩ : ∃ T9 : Th, T9 = { T with e := e1, apc := D, ah := 0, an := 0, ar := 0, pc := if D = 0 then 0 else 2, full := false } := ⟨_, rfl⟩
  rw [← hT9] at hact
  rw [hact]
  have HT9 := Lib.hid hT9
  clear hact hT9
  have hthv : thv X T = [Value.pointer (some ⟨X.c, 0, none⟩), .pointer (some ⟨X.u, 0, none⟩), .slice (some ⟨g, off, none⟩) X.dn X.dc, .int .i64 N1, .int .i64 1, X.pa, X.pb, X.pr, X.pq, X.pg, X.ph, .int .i64 T.done, .bool T.full] := by
    unfold thv
    rw [hdA, hN1, hpc]
    rfl
  rw [hthv] at hE
  have r7 := hE.rule 7 rfl
  have f12 := hE.thaw 7 rfl 12 (by simp)
  have hE1 := hE.put 7 rfl (j := 12) (by simp) (.bool false)
  have r7b : ∀ j, (w.setCell ⟨X.thr, 12, none⟩ (.bool false)).cell? ⟨X.thr, j, none⟩ = [Value.pointer (some ⟨X.c, 0, none⟩), .pointer (some ⟨X.u, 0, none⟩), .slice (some ⟨g, off, none⟩) X.dn X.dc, .int .i64 N1, .int .i64 1, X.pa, X.pb, X.pr, X.pq, X.pg, X.ph, .int .i64 T.done, .bool false][j]? := hE1.rule 7 rfl
  have HCH := Lib.hid (check_w (getL ml (1, 0, 0)) rfl 0 2 3 (by decide) (by decide) hE1 rfl rfl rfl)
  have HRC := Lib.hid (fun (L : List Item) (w : World) (h0 : Env w0 L w) h4 h6 => rcheck_w (getL ml (1, 0, 0)) rfl (hfu _) (by omega) 4 6 h0 (u := X.u) (k := C.k) (s := C.s) (b := C.b) (h := C.h) (l := C.l) (e := T.e) (A := X.A) (n := T.ql.length) (c := X.rc) (N := X.N) (hs := T.hs) (r := X.ro) (m := V.m) (F := FU) h4 h6)
  have HN := Lib.hid hN
  have HE1 := Lib.hid he1
  have HD := Lib.hid hD
  have HPC := Lib.hid hs0
  have HDA := Lib.hid hdA
  have HML := Lib.hid hml
  clear hthv hc hds hdn hdl hnd hdd hN1 hN he1 hD hs0 hpc hE hE1 hdA hfu hml
  refine gen_post fun PP HPP => ?_
  go_enter Tryz.func14, Tryz.ntmps14
  go_wp2_with fail
  refine HCH.out.mono ?_
  rintro o w1 ⟨rfl, hE2⟩
  clear HCH r7 r7b f12
  rw [HE1.out] at hE2
  obtain ⟨qc1, hqc1⟩ : ∃ qc1 : Cnt, qc1 = { (SP C X V T (getL ml) G qc n).qc with l := wrap64 ((SP C X V T (getL ml) G qc n).qc.l + 1) } := ⟨_, rfl⟩
  obtain ⟨T1, hT1⟩ : ∃ T1 : Th, T1 = { T with e := e1 } := ⟨_, rfl⟩
  have hE3 : Env w0 (LT (SP C X V T1 (getL ml) G qc1 n) (LU (SR C X V T FU ml) (boxI X.thr [Value.pointer (some ⟨X.c, 0, none⟩), .pointer (some ⟨X.u, 0, none⟩), .slice (some ⟨g, off, none⟩) X.dn X.dc, .int .i64 N1, .int .i64 1, X.pa, X.pb, X.pr, X.pq, X.pg, X.ph, .int .i64 T.done, .bool false] :: R))) w1 := by
    rw [hT1, hqc1]
    exact hE2
  clear hE2 hqc1
  have r7 : ∀ j, w1.cell? ⟨X.thr, j, none⟩ = [Value.pointer (some ⟨X.c, 0, none⟩), .pointer (some ⟨X.u, 0, none⟩), .slice (some ⟨g, off, none⟩) X.dn X.dc, .int .i64 N1, .int .i64 1, X.pa, X.pb, X.pr, X.pq, X.pg, X.ph, .int .i64 T.done, .bool false][j]? := hE3.rule 7 rfl
  go_wp2_with fail
  refine (HRC.out _ w1 hE3 rfl rfl).mono ?_
  rintro o w2 ⟨rfl, hE4⟩
  rw [HE1.out] at hE4
  have hE5 : Env w0 (LT (SP C X V T1 (getL ml) G qc1 n) (LU (SR C X V T1 FU ml) (boxI X.thr [Value.pointer (some ⟨X.c, 0, none⟩), .pointer (some ⟨X.u, 0, none⟩), .slice (some ⟨g, off, none⟩) X.dn X.dc, .int .i64 N1, .int .i64 1, X.pa, X.pb, X.pr, X.pq, X.pg, X.ph, .int .i64 T.done, .bool false] :: R))) w2 := by
    rw [hT1] at hE4 ⊢
    exact hE4
  clear hE4 hE3 r7 HRC
  have hnew := fun (v : World) (L : List Item) (h : Env w0 (LT (SP C X V T1 (getL ml) G qc1 n) L) v) => new_a d.ok d.key d.val d.lv (by show T1.hs = 0; rw [hT1]; exact HPC.out) h
  have hdec : decP (SP C X V T1 (getL ml) G qc1 n).ql (SP C X V T1 (getL ml) G qc1 n).ce (SP C X V T1 (getL ml) G qc1 n).cl = D := by
    show decP T1.ql T1.e C.l = D
    rw [hT1]
    exact HD.out
  simp only [hdec] at hnew
  have hnl := fun (h0 : D = 0) (v : World) (L : List Item) (h : Env w0 (LT (SP C X V T1 (getL ml) G qc1 n) L) v) => (hnew v L h).mono (R' := fun o w' => o = .returned (.tuple #[.pointer none, .int .i64 4]) ∧ Env w0 (LT (SP C X V T1 (getL ml) G qc1 n) L) w') (by rintro o w' (⟨-, h1, h2⟩ | ⟨h1, -⟩); exact ⟨h1, h2⟩; exact absurd h0 h1)
  have hny := fun (h0 : D ≠ 0) (v : World) (L : List Item) (h : Env w0 (LT (SP C X V T1 (getL ml) G qc1 n) L) v) => (hnew v L h).mono (R' := fun o w' => ∃ a1, o = .returned (.tuple #[.pointer (some ⟨a1, 0, none⟩), .int .i64 0]) ∧ Env w0 (boxI a1 (av X.c { nx := nxA a1 D, left := .slice none 0 0, k := d.ok, key := d.key, val := d.val, lv := d.lv, h := 0, n := 0, r := 0, s := 0 }) :: LT (SP C X V T1 (getL ml) G qc1 n) L) w') (by rintro o w' (⟨h1, -⟩ | ⟨-, h1⟩); exact absurd h1 h0; exact h1)
  have HNL := Lib.hid hnl
  have HNY := Lib.hid hny
  have hdr := fun (v : World) (B : Nat) (L : List Item) (h : Env w0 (boxI B (rav 0 0 0 0) :: LU (SR C X V T1 FU ml) L) v) => rdecide_a h
  have hdec2 : decP (SR C X V T1 FU ml).ql (SR C X V T1 FU ml).ce (SR C X V T1 FU ml).cl = D := hdec
  have hdec3 : decS (SR C X V T1 FU ml).ql (SR C X V T1 FU ml).ce (SR C X V T1 FU ml).cl = if D = 0 then 4 else 0 := by
    unfold decS
    rw [hdec2]
  simp only [hdec2, hdec3] at hdr
  have HDR := Lib.hid hdr
  have HT1 := Lib.hid hT1
  clear hdr hdec2 hdec3
  clear hnew hdec hT1 hnl hny
  go_wp2_with fail
  by_cases h0 : D = 0
  · subst h0
    refine Ord.wp_chain [] (fun v => Env w0 (LT (SP C X V T1 (getL ml) G qc1 n) (LU (SR C X V T1 FU ml) (boxI X.thr [Value.pointer (some ⟨X.c, 0, none⟩), .pointer (some ⟨X.u, 0, none⟩), .slice (some ⟨g, off, none⟩) X.dn X.dc, .int .i64 N1, .int .i64 1, X.pa, X.pb, X.pr, X.pq, X.pg, X.ph, .int .i64 T.done, .bool false] :: R))) v) (fun _ _ => True) (by kernel_rfl) (by kernel_rfl) (by kernel_rfl) hE5.drew trivial (fun hT => ?_)
    have hT9 := Lib.hid hT
    clear hT
    repeat (first
      | (refine Ord.ch_value (v := ?_) hT9.out (by decide) (by rfl) ?_ ?_; rotate_left; (focus (intro w5 hS; have hS9 := (show KR w0 R w5 ∧ Blk 0 w5 X.thr [Value.pointer (some ⟨X.c, 0, none⟩), .pointer (some ⟨X.u, 0, none⟩), .slice (some ⟨g, off, none⟩) X.dn X.dc, .int .i64 N1, .int .i64 1, X.pa, X.pb, X.pr, X.pq, X.pg, X.ph, .int .i64 T.done, .bool false] from ⟨hS.kr (fun a ha => by simp [LT, LU, ha]), hS.get 7 rfl⟩); have r := hS9.2.rule; have rc9 := HC.out _ hS9.1; have c1 := rc9 1 _ rfl; have c2 := rc9 2 _ rfl; have c3 := rc9 3 _ rfl; have c4 := rc9 4 _ rfl; clear rc9; go_simp <;> with_reducible rfl)); (try simp only [Act.put, List.setIfInBounds_toArray, List.set_cons_zero, List.set_cons_succ]))
      | (refine Ord.ch_off hT9.out (by decide) (by rfl) ?_; (try simp only [Act.put, List.setIfInBounds_toArray, List.set_cons_zero, List.set_cons_succ]))
      | (refine Ord.ch_call (v := ?_) (f := ?_) (args := ?_) hT9.out (by decide) (by rfl) ?_ ?_ ?_; rotate_left 3; (focus (intro w5 hS; have hS9 := (show KR w0 R w5 ∧ Blk 0 w5 X.thr [Value.pointer (some ⟨X.c, 0, none⟩), .pointer (some ⟨X.u, 0, none⟩), .slice (some ⟨g, off, none⟩) X.dn X.dc, .int .i64 N1, .int .i64 1, X.pa, X.pb, X.pr, X.pq, X.pg, X.ph, .int .i64 T.done, .bool false] from ⟨hS.kr (fun a ha => by simp [LT, LU, ha]), hS.get 7 rfl⟩); have r := hS9.2.rule; have rc9 := HC.out _ hS9.1; have c1 := rc9 1 _ rfl; have c2 := rc9 2 _ rfl; have c3 := rc9 3 _ rfl; have c4 := rc9 4 _ rfl; clear rc9; go_simp; constructor <;> with_reducible rfl)); (focus (intro w5 hS; (first | (refine (HNL.out rfl _ _ hS).mono ?_; rintro e w6 ⟨rfl, hE6⟩; constructor; with_reducible rfl; exact ⟨hE6, fun _ h => h⟩)))); (try simp only [Act.put, List.setIfInBounds_toArray, List.set_cons_zero, List.set_cons_succ])))
    refine Ord.InText.nil fun w5 hS => ?_
    clear hT9
    obtain ⟨hE6, hA9⟩ := Ord.chain_end hS
    clear hS
    clear hE5 hA9 HNL HNY
    obtain ⟨w4, rfl⟩ : ∃ w4, w4 = w5 := ⟨_, rfl⟩
    have r7 : ∀ j, w4.cell? ⟨X.thr, j, none⟩ = [Value.pointer (some ⟨X.c, 0, none⟩), .pointer (some ⟨X.u, 0, none⟩), .slice (some ⟨g, off, none⟩) X.dn X.dc, .int .i64 N1, .int .i64 1, X.pa, X.pb, X.pr, X.pq, X.pg, X.ph, .int .i64 T.done, .bool false][j]? := hE6.rule 7 rfl
    have f5 := hE6.thaw 7 rfl 5 (by simp)
    have hE7 := hE6.put 7 rfl (j := 5) (by simp) (.pointer none)
    have hE8 := hE7.box w4.heap.size (by simp) [.int .i64 0, .int .u64 0, .int .u64 0, .int .u64 0] 108
    have f6 := hE8.thaw 8 rfl 6 (by simp)
    have r8 := hE8.rule 8 rfl
    have hE9 := hE8.put 8 rfl (j := 6) (by simp) (.pointer (some ⟨w4.heap.size, 0, none⟩))
    have HE9 := Lib.hid hE9
    clear hE9 hE8 hE7 hE6
    go_wp2_with fail
    clear r7 f5 f6 r8
    obtain ⟨L, hL⟩ : ∃ L, L = (LT (SP C X V T1 (getL ml) G qc1 n) (boxI X.thr [Value.pointer (some ⟨X.c, 0, none⟩), .pointer (some ⟨X.u, 0, none⟩), .slice (some ⟨g, off, none⟩) X.dn X.dc, .int .i64 N1, .int .i64 1, (.pointer none), (.pointer (some ⟨w4.heap.size, 0, none⟩)), X.pr, X.pq, X.pg, X.ph, .int .i64 T.done, .bool false] :: R)) := ⟨_, rfl⟩
    have hmem : boxI X.thr [Value.pointer (some ⟨X.c, 0, none⟩), .pointer (some ⟨X.u, 0, none⟩), .slice (some ⟨g, off, none⟩) X.dn X.dc, .int .i64 N1, .int .i64 1, (.pointer none), (.pointer (some ⟨w4.heap.size, 0, none⟩)), X.pr, X.pq, X.pg, X.ph, .int .i64 T.done, .bool false] ∈ L := by rw [hL]; simp [LT]
    have hE10 := HE9.out.perm (show List.Perm _ (boxI w4.heap.size (rav 0 0 0 0) :: LU (SR C X V T1 FU ml) L) from by
      rw [hL]
      exact perm_of fun z => by
        simp only [LT, LU, SP, SR, rav, List.count_append, List.count_cons, List.set_cons_succ, List.set_cons_zero]
        omega)
    have HL := Lib.hid hL
    have HMEM := Lib.hid hmem
    clear hL hmem HE9
    refine Ord.wp_chain [9] (fun v => Blk 0 v X.thr [Value.pointer (some ⟨X.c, 0, none⟩), .pointer (some ⟨X.u, 0, none⟩), .slice (some ⟨g, off, none⟩) X.dn X.dc, .int .i64 N1, .int .i64 1, (.pointer none), (.pointer (some ⟨w4.heap.size, 0, none⟩)), X.pr, X.pq, X.pg, X.ph, .int .i64 T.done, .bool false]) (fun k v => if k = 0 then Env w0 (boxI w4.heap.size (rav 0 0 0 0) :: LU (SR C X V T1 FU ml) L) v else ∃ pc', Env w0 (boxI w4.heap.size (rav pc' 0 0 0) :: LU (SR C X V T1 FU ml) L) v) (by kernel_rfl) (by kernel_rfl) (by kernel_rfl) (hE10.drew.mem (List.mem_append_right [_, _, _, _] HMEM.out)) (by rw [if_pos rfl]; exact hE10.drew) (fun hT => ?_)
    have hT9 := Lib.hid hT
    clear hT
    repeat (first
      | (refine Ord.ch_value (v := ?_) hT9.out (by decide) (by rfl) ?_ ?_; rotate_left; (focus (intro w5 hS; have r := Blk.rule hS; go_simp <;> with_reducible rfl)); (try simp only [Act.put, List.setIfInBounds_toArray, List.set_cons_zero, List.set_cons_succ]))
      | (refine Ord.ch_off hT9.out (by decide) (by rfl) ?_; (try simp only [Act.put, List.setIfInBounds_toArray, List.set_cons_zero, List.set_cons_succ])))
    refine Ord.ch_turn (v := .int .i64 4) 0 hT9.out rfl (by decide) (Or.inl rfl) (by rfl) ?_ ?_
    · rintro w7 hC7 hA7
      rw [if_pos rfl] at hA7
      go_simp
      simp only [Ord.LandsIn]
      refine (HDR.out w7 _ L hA7).mono ?_
      rintro e w8 ⟨rfl, pc', h1, h2⟩
      exact ⟨rfl, h2.mem (List.mem_append_right [_, _, _, _] HMEM.out), pc', h2⟩
    (try simp only [Act.put, List.setIfInBounds_toArray, List.set_cons_zero, List.set_cons_succ])
    repeat (first
      | (refine Ord.ch_value (v := ?_) hT9.out (by decide) (by rfl) ?_ ?_; rotate_left; (focus (intro w5 hS; have r := Blk.rule hS; go_simp <;> with_reducible rfl)); (try simp only [Act.put, List.setIfInBounds_toArray, List.set_cons_zero, List.set_cons_succ]))
      | (refine Ord.ch_off hT9.out (by decide) (by rfl) ?_; (try simp only [Act.put, List.setIfInBounds_toArray, List.set_cons_zero, List.set_cons_succ]))
      | (refine Ord.ch_call (v := ?_) (f := ?_) (args := ?_) hT9.out (by decide) (by rfl) ?_ ?_ ?_; rotate_left 3; (focus (intro w5 hS; have r := Blk.rule hS; go_simp; constructor <;> with_reducible rfl)); (focus (intro w5 hS; (first | fail))); (try simp only [Act.put, List.setIfInBounds_toArray, List.set_cons_zero, List.set_cons_succ])))
    refine Ord.InText.nil fun w5 hS => ?_
    clear hT9
    obtain ⟨hC9, hA9⟩ := Ord.chain_end hS
    clear hS
    rw [if_neg (by decide)] at hA9
    have hLe := HL.out
    subst hLe
    obtain ⟨pc', hA9⟩ := hA9
    have hF := (hA9.perm (show List.Perm _ (boxI w4.heap.size (rav pc' 0 0 0) :: LT (SP C X V T1 (getL ml) G qc1 n) (LU (SR C X V T1 FU ml) (boxI X.thr [Value.pointer (some ⟨X.c, 0, none⟩), .pointer (some ⟨X.u, 0, none⟩), .slice (some ⟨g, off, none⟩) X.dn X.dc, .int .i64 N1, .int .i64 1, (.pointer none), (.pointer (some ⟨w4.heap.size, 0, none⟩)), X.pr, X.pq, X.pg, X.ph, .int .i64 T.done, .bool false] :: R))) from perm_of fun z => by
      simp only [LT, LU, SP, SR, List.count_append, List.count_cons]
      omega)).sub (.cons _ (List.Sublist.refl _))
    have q0 := hF.rule 7 rfl
    have g0 := hF.thaw 7 rfl 4 (by simp)
    have hF2 := hF.put 7 rfl (j := 4) (by simp) (Value.int .i64 2)
    have q1 := hF2.rule 7 rfl
    have g1 := hF2.thaw 7 rfl 4 (by simp)
    have HPF := Lib.hid (hF2.put 7 rfl (j := 4) (by simp) (Value.int .i64 0))
    clear hF2
    clear hF hA9 hC9
    go_wp2_with fail
    (try go_ret)
    refine HPP.out _ _ ?_
    have ht9 : T9 = { T with e := e1, apc := (0 : Nat), ah := 0, an := 0, ar := 0, pc := 0, full := false } := by
      rw [HT9.out]
      rfl
    have ht1 := HT1.out
    subst ht9
    subst ht1
    have hth : thv ({ X with pa := (.pointer none), pb := .pointer (some ⟨w4.heap.size, 0, none⟩) } : Tm) { T with e := e1, apc := (0 : Nat), ah := 0, an := 0, ar := 0, pc := 0, full := false } = [Value.pointer (some ⟨X.c, 0, none⟩), .pointer (some ⟨X.u, 0, none⟩), .slice (some ⟨g, off, none⟩) X.dn X.dc, .int .i64 N1, .int .i64 0, (.pointer none), (.pointer (some ⟨w4.heap.size, 0, none⟩)), X.pr, X.pq, X.pg, X.ph, .int .i64 T.done, .bool false] := by
      unfold thv
      dsimp only
      rw [HN1.out, HDA.out]
      rfl
    refine ⟨rfl, ({ X with pa := (.pointer none), pb := .pointer (some ⟨w4.heap.size, 0, none⟩) } : Tm), G, FU, qc1, n, ml, [], ⟨rfl, rfl, rfl, rfl, rfl, rfl, rfl⟩, rfl, by omega, by omega, HN.out.1, HN.out.2, (by unfold Mach; rw [if_neg (show ¬ (0 : Nat) = 2 by decide), if_neg (show ¬ (0 : Nat) = 3 by decide), if_neg (show ¬ (0 : Nat) = 4 by decide)]), ?_⟩
    rw [hth]
    exact HPF.out
  · have hD0 : decP (SP C X V T1 (getL ml) G qc1 n).ql (SP C X V T1 (getL ml) G qc1 n).ce (SP C X V T1 (getL ml) G qc1 n).cl ≤ 10 := by
      unfold decP
      repeat' split
      all_goals decide
    have HDL := Lib.hid (show D ≤ 10 by
      have := HD.out
      rw [← this]
      unfold decP
      repeat' split
      all_goals decide)
    clear hD0
    refine Ord3.wp_chain [?_, ?_, ?_, ?_, ?_, ?_, ?_, ?_, ?_, ?_, ?_, ?_, ?_, ?_, ?_, ?_, ?_, ?_, ?_, ?_, ?_, ?_] [16, 17, 18, 20] (fun v => KR w0 R v ∧ Blk 0 v X.thr [Value.pointer (some ⟨X.c, 0, none⟩), .pointer (some ⟨X.u, 0, none⟩), .slice (some ⟨g, off, none⟩) X.dn X.dc, .int .i64 N1, .int .i64 1, X.pa, X.pb, X.pr, X.pq, X.pg, X.ph, .int .i64 T.done, .bool false]) (Ord3.Stage fun κs => [Env w0 (LT (SP C X V T1 (getL ml) G qc1 n) (LU (SR C X V T1 FU ml) (boxI X.thr [Value.pointer (some ⟨X.c, 0, none⟩), .pointer (some ⟨X.u, 0, none⟩), .slice (some ⟨g, off, none⟩) X.dn X.dc, .int .i64 N1, .int .i64 1, X.pa, X.pb, X.pr, X.pq, X.pg, X.ph, .int .i64 T.done, .bool false] :: R))), fun v => ∃ a1, κs = [.tuple #[.pointer (some ⟨a1, 0, none⟩), .int .i64 0]] ∧ Env w0 (boxI a1 (av X.c { nx := nxA a1 D, left := .slice none 0 0, k := d.ok, key := d.key, val := d.val, lv := d.lv, h := 0, n := 0, r := 0, s := 0 }) :: LT (SP C X V T1 (getL ml) G qc1 n) (LU (SR C X V T1 FU ml) (boxI X.thr [Value.pointer (some ⟨X.c, 0, none⟩), .pointer (some ⟨X.u, 0, none⟩), .slice (some ⟨g, off, none⟩) X.dn X.dc, .int .i64 N1, .int .i64 1, X.pa, X.pb, X.pr, X.pq, X.pg, X.ph, .int .i64 T.done, .bool false] :: R))) v, fun v => ∃ a1, κs = [.tuple #[.pointer (some ⟨a1, 0, none⟩), .int .i64 0], .tuple #[.pointer (some ⟨a1, 0, none⟩), .int .i64 0]] ∧ Env w0 (boxI a1 (av X.c { nx := nxA a1 D, left := .slice none 0 0, k := d.ok, key := d.key, val := d.val, lv := d.lv, h := 0, n := 0, r := 0, s := 0 }) :: LT (SP C X V T1 (getL ml) G qc1 n) (LU (SR C X V T1 FU ml) (boxI X.thr [Value.pointer (some ⟨X.c, 0, none⟩), .pointer (some ⟨X.u, 0, none⟩), .slice (some ⟨g, off, none⟩) X.dn X.dc, .int .i64 N1, .int .i64 1, X.pa, X.pb, X.pr, X.pq, X.pg, X.ph, .int .i64 T.done, .bool false] :: R))) v, fun v => ∃ a1, κs = [.tuple #[.pointer (some ⟨a1, 0, none⟩), .int .i64 0], .tuple #[.pointer (some ⟨a1, 0, none⟩), .int .i64 0], .pointer (some ⟨a1, 0, none⟩)] ∧ Env w0 (boxI a1 (av X.c { nx := nxA a1 D, left := .slice none 0 0, k := d.ok, key := d.key, val := d.val, lv := d.lv, h := 0, n := 0, r := 0, s := 0 }) :: LT (SP C X V T1 (getL ml) G qc1 n) (LU (SR C X V T1 FU ml) (boxI X.thr [Value.pointer (some ⟨X.c, 0, none⟩), .pointer (some ⟨X.u, 0, none⟩), .slice (some ⟨g, off, none⟩) X.dn X.dc, .int .i64 N1, .int .i64 1, X.pa, X.pb, X.pr, X.pq, X.pg, X.ph, .int .i64 T.done, .bool false] :: R))) v, fun v => ∃ a1, κs = [.tuple #[.pointer (some ⟨a1, 0, none⟩), .int .i64 0], .tuple #[.pointer (some ⟨a1, 0, none⟩), .int .i64 0], .pointer (some ⟨a1, 0, none⟩), .pointer (some ⟨a1, 0, none⟩)] ∧ Env w0 (boxI a1 (av X.c { nx := nxA a1 D, left := .slice none 0 0, k := d.ok, key := d.key, val := d.val, lv := d.lv, h := 0, n := 0, r := 0, s := 0 }) :: LT (SP C X V T1 (getL ml) G qc1 n) (LU (SR C X V T1 FU ml) (boxI X.thr [Value.pointer (some ⟨X.c, 0, none⟩), .pointer (some ⟨X.u, 0, none⟩), .slice (some ⟨g, off, none⟩) X.dn X.dc, .int .i64 N1, .int .i64 1, X.pa, X.pb, X.pr, X.pq, X.pg, X.ph, .int .i64 T.done, .bool false] :: R))) v]) (by kernel_rfl) (by kernel_rfl) (by kernel_rfl) ⟨hE5.drew.kr (fun a ha => by simp [LT, LU, ha]), hE5.drew.get 7 rfl⟩ ⟨_, rfl, hE5.drew⟩ (fun hT => ?_)
    rotate_left 22
    have hT9 := Lib.hid hT
    clear hT
    repeat (first
      | (focus (refine Ord3.in_value (v := ?_) hT9.out (by decide) ?_ (by rfl) ?_ ?_; rotate_left 2; (focus (intro w5 hS; have r := hS.2.rule; have rc9 := HC.out _ hS.1; have c1 := rc9 1 _ rfl; have c2 := rc9 2 _ rfl; have c3 := rc9 3 _ rfl; have c4 := rc9 4 _ rfl; clear rc9; go_simp <;> with_reducible rfl)); rotate_right; (focus rfl); (try simp only [Act.put, List.setIfInBounds_toArray, List.set_cons_zero, List.set_cons_succ])))
      | (focus (refine Ord3.in_off hT9.out (by decide) ?_ (by rfl) ?_; (focus rfl); (try simp only [Act.put, List.setIfInBounds_toArray, List.set_cons_zero, List.set_cons_succ]))))
    refine Ord3.in_turn (fun u => ∃ z, u = .tuple #[.pointer (some ⟨z, 0, none⟩), .int .i64 0]) _ ⟨0, rfl⟩ hT9.out rfl (by decide) (by rfl) ?_ (Or.inl rfl) (by rfl) ?_ ?_
    · rfl
    · rintro v7 hC7 ⟨P7, hP7, hA7⟩
      cases hP7
      go_simp
      simp only [Ord3.Lands]
      refine (HNY.out h0 _ _ hA7).mono ?_
      rintro o v8 ⟨a1, rfl, hX8⟩
      exact ⟨_, rfl, ⟨_, rfl⟩, ⟨hX8.kr (fun a ha => by simp [LT, LU, ha]), hX8.get 8 rfl⟩, _, rfl, a1, rfl, hX8⟩
    rintro _ ⟨z1, rfl⟩
    (try simp only [Act.put, List.setIfInBounds_toArray, List.set_cons_zero, List.set_cons_succ])
    refine Ord3.in_turn (fun u => ∃ z, u = .tuple #[.pointer (some ⟨z, 0, none⟩), .int .i64 0]) _ ⟨0, rfl⟩ hT9.out rfl (by decide) (by rfl) ?_ (Or.inr ⟨_, 16, [], rfl, by kernel_rfl, by kernel_rfl, rfl⟩) (by rfl) ?_ ?_
    · rfl
    · rintro v7 hC7 ⟨P7, hP7, hA7⟩
      cases hP7
      go_simp
      simp only [Ord3.Lands]
      obtain ⟨a1, he, hA7⟩ := hA7
      cases he
      exact ⟨⟨_, rfl⟩, hC7, _, rfl, _, rfl, hA7⟩
    rintro _ ⟨z2, rfl⟩
    (try simp only [Act.put, List.setIfInBounds_toArray, List.set_cons_zero, List.set_cons_succ])
    refine Ord3.in_turn (fun u => ∃ z, u = .pointer (some ⟨z, 0, none⟩)) _ ⟨0, rfl⟩ hT9.out rfl (by decide) (by rfl) ?_ (Or.inr ⟨_, 17, [], rfl, by kernel_rfl, by kernel_rfl, rfl⟩) (by rfl) ?_ ?_
    · rfl
    · rintro v7 hC7 ⟨P7, hP7, hA7⟩
      cases hP7
      go_simp
      simp only [Ord3.Lands]
      obtain ⟨a1, he, hA7⟩ := hA7
      cases he
      exact ⟨⟨_, rfl⟩, hC7, _, rfl, _, rfl, hA7⟩
    rintro _ ⟨z3, rfl⟩
    (try simp only [Act.put, List.setIfInBounds_toArray, List.set_cons_zero, List.set_cons_succ])
    repeat (first
      | (focus (refine Ord3.in_value (v := ?_) hT9.out (by decide) ?_ (by rfl) ?_ ?_; rotate_left 2; (focus (intro w5 hS; have r := hS.2.rule; have rc9 := HC.out _ hS.1; have c1 := rc9 1 _ rfl; have c2 := rc9 2 _ rfl; have c3 := rc9 3 _ rfl; have c4 := rc9 4 _ rfl; clear rc9; go_simp <;> with_reducible rfl)); rotate_right; (focus rfl); (try simp only [Act.put, List.setIfInBounds_toArray, List.set_cons_zero, List.set_cons_succ])))
      | (focus (refine Ord3.in_off hT9.out (by decide) ?_ (by rfl) ?_; (focus rfl); (try simp only [Act.put, List.setIfInBounds_toArray, List.set_cons_zero, List.set_cons_succ]))))
    refine Ord3.in_turn (fun u => ∃ z, u = .pointer (some ⟨z, 0, none⟩)) _ ⟨0, rfl⟩ hT9.out rfl (by decide) (by rfl) ?_ (Or.inr ⟨_, 18, [], rfl, by kernel_rfl, by kernel_rfl, rfl⟩) (by rfl) ?_ ?_
    · rfl
    · rintro v7 hC7 ⟨P7, hP7, hA7⟩
      cases hP7
      go_simp
      simp only [Ord3.Lands]
      obtain ⟨a1, he, hA7⟩ := hA7
      cases he
      exact ⟨⟨_, rfl⟩, hC7, _, rfl, _, rfl, hA7⟩
    rintro _ ⟨z4, rfl⟩
    (try simp only [Act.put, List.setIfInBounds_toArray, List.set_cons_zero, List.set_cons_succ])
    repeat (first
      | (focus (refine Ord3.in_value (v := ?_) hT9.out (by decide) ?_ (by rfl) ?_ ?_; rotate_left 2; (focus (intro w5 hS; have r := hS.2.rule; have rc9 := HC.out _ hS.1; have c1 := rc9 1 _ rfl; have c2 := rc9 2 _ rfl; have c3 := rc9 3 _ rfl; have c4 := rc9 4 _ rfl; clear rc9; go_simp <;> with_reducible rfl)); rotate_right; (focus rfl); (try simp only [Act.put, List.setIfInBounds_toArray, List.set_cons_zero, List.set_cons_succ])))
      | (focus (refine Ord3.in_off hT9.out (by decide) ?_ (by rfl) ?_; (focus rfl); (try simp only [Act.put, List.setIfInBounds_toArray, List.set_cons_zero, List.set_cons_succ]))))
    refine Ord3.in_nil rfl ?_
    rintro w5 hC9 ⟨P9, hP9, hA9⟩
    cases hP9
    obtain ⟨a2, he, hE6⟩ := hA9
    cases he
    obtain ⟨a1, rfl⟩ : ∃ a1, a1 = z1 := ⟨_, rfl⟩
    clear hT9 hC9 hE5 HNL HNY
    obtain ⟨w4, rfl⟩ : ∃ w4, w4 = w5 := ⟨_, rfl⟩
    have r7 : ∀ j, w4.cell? ⟨X.thr, j, none⟩ = [Value.pointer (some ⟨X.c, 0, none⟩), .pointer (some ⟨X.u, 0, none⟩), .slice (some ⟨g, off, none⟩) X.dn X.dc, .int .i64 N1, .int .i64 1, X.pa, X.pb, X.pr, X.pq, X.pg, X.ph, .int .i64 T.done, .bool false][j]? := hE6.rule 8 rfl
    have f5 := hE6.thaw 8 rfl 5 (by simp)
    have hE7 := hE6.put 8 rfl (j := 5) (by simp) (.pointer (some ⟨a1, 0, none⟩))
    have hE8 := hE7.box w4.heap.size (by simp) [.int .i64 0, .int .u64 0, .int .u64 0, .int .u64 0] 108
    have f6 := hE8.thaw 9 rfl 6 (by simp)
    have r8 := hE8.rule 9 rfl
    have hE9 := hE8.put 9 rfl (j := 6) (by simp) (.pointer (some ⟨w4.heap.size, 0, none⟩))
    have HE9 := Lib.hid hE9
    clear hE9 hE8 hE7 hE6
    go_wp2_with fail
    clear r7 f5 f6 r8
    obtain ⟨L, hL⟩ : ∃ L, L = (boxI a1 (av X.c { nx := nxA a1 D, left := .slice none 0 0, k := d.ok, key := d.key, val := d.val, lv := d.lv, h := 0, n := 0, r := 0, s := 0 }) :: LT (SP C X V T1 (getL ml) G qc1 n) (boxI X.thr [Value.pointer (some ⟨X.c, 0, none⟩), .pointer (some ⟨X.u, 0, none⟩), .slice (some ⟨g, off, none⟩) X.dn X.dc, .int .i64 N1, .int .i64 1, (.pointer (some ⟨a1, 0, none⟩)), (.pointer (some ⟨w4.heap.size, 0, none⟩)), X.pr, X.pq, X.pg, X.ph, .int .i64 T.done, .bool false] :: R)) := ⟨_, rfl⟩
    have hmem : boxI X.thr [Value.pointer (some ⟨X.c, 0, none⟩), .pointer (some ⟨X.u, 0, none⟩), .slice (some ⟨g, off, none⟩) X.dn X.dc, .int .i64 N1, .int .i64 1, (.pointer (some ⟨a1, 0, none⟩)), (.pointer (some ⟨w4.heap.size, 0, none⟩)), X.pr, X.pq, X.pg, X.ph, .int .i64 T.done, .bool false] ∈ L := by rw [hL]; simp [LT]
    have hE10 := HE9.out.perm (show List.Perm _ (boxI w4.heap.size (rav 0 0 0 0) :: LU (SR C X V T1 FU ml) L) from by
      rw [hL]
      exact perm_of fun z => by
        simp only [LT, LU, SP, SR, rav, List.count_append, List.count_cons, List.set_cons_succ, List.set_cons_zero]
        omega)
    have HL := Lib.hid hL
    have HMEM := Lib.hid hmem
    clear hL hmem HE9
    refine Ord.wp_chain [9] (fun v => Blk 0 v X.thr [Value.pointer (some ⟨X.c, 0, none⟩), .pointer (some ⟨X.u, 0, none⟩), .slice (some ⟨g, off, none⟩) X.dn X.dc, .int .i64 N1, .int .i64 1, (.pointer (some ⟨a1, 0, none⟩)), (.pointer (some ⟨w4.heap.size, 0, none⟩)), X.pr, X.pq, X.pg, X.ph, .int .i64 T.done, .bool false]) (fun k v => if k = 0 then Env w0 (boxI w4.heap.size (rav 0 0 0 0) :: LU (SR C X V T1 FU ml) L) v else Env w0 (boxI w4.heap.size (rav (D : Int) 0 0 0) :: LU (SR C X V T1 FU ml) L) v) (by kernel_rfl) (by kernel_rfl) (by kernel_rfl) (hE10.drew.mem (List.mem_append_right [_, _, _, _] HMEM.out)) (by rw [if_pos rfl]; exact hE10.drew) (fun hT => ?_)
    have hT9 := Lib.hid hT
    clear hT
    repeat (first
      | (refine Ord.ch_value (v := ?_) hT9.out (by decide) (by rfl) ?_ ?_; rotate_left; (focus (intro w5 hS; have r := Blk.rule hS; go_simp <;> with_reducible rfl)); (try simp only [Act.put, List.setIfInBounds_toArray, List.set_cons_zero, List.set_cons_succ]))
      | (refine Ord.ch_off hT9.out (by decide) (by rfl) ?_; (try simp only [Act.put, List.setIfInBounds_toArray, List.set_cons_zero, List.set_cons_succ])))
    refine Ord.ch_turn (v := .int .i64 0) 0 hT9.out rfl (by decide) (Or.inl rfl) (by rfl) ?_ ?_
    · rintro w7 hC7 hA7
      rw [if_pos rfl] at hA7
      go_simp
      simp only [Ord.LandsIn]
      refine (HDR.out w7 _ L hA7).mono ?_
      rintro e w8 ⟨rfl, pc', h1, h2⟩
      rw [if_neg h0, h1 h0] at *
      exact ⟨rfl, h2.mem (List.mem_append_right [_, _, _, _] HMEM.out), h2⟩
    (try simp only [Act.put, List.setIfInBounds_toArray, List.set_cons_zero, List.set_cons_succ])
    repeat (first
      | (refine Ord.ch_value (v := ?_) hT9.out (by decide) (by rfl) ?_ ?_; rotate_left; (focus (intro w5 hS; have r := Blk.rule hS; go_simp <;> with_reducible rfl)); (try simp only [Act.put, List.setIfInBounds_toArray, List.set_cons_zero, List.set_cons_succ]))
      | (refine Ord.ch_off hT9.out (by decide) (by rfl) ?_; (try simp only [Act.put, List.setIfInBounds_toArray, List.set_cons_zero, List.set_cons_succ]))
      | (refine Ord.ch_call (v := ?_) (f := ?_) (args := ?_) hT9.out (by decide) (by rfl) ?_ ?_ ?_; rotate_left 3; (focus (intro w5 hS; have r := Blk.rule hS; go_simp; constructor <;> with_reducible rfl)); (focus (intro w5 hS; (first | fail))); (try simp only [Act.put, List.setIfInBounds_toArray, List.set_cons_zero, List.set_cons_succ])))
    refine Ord.InText.nil fun w5 hS => ?_
    clear hT9
    obtain ⟨hC9, hA9⟩ := Ord.chain_end hS
    clear hS
    rw [if_neg (by decide)] at hA9
    have hLe := HL.out
    subst hLe
    have hF := hA9.perm (show List.Perm _ (LT (SP C X V T1 (getL ml) G qc1 n) (LU (SR C X V T1 FU ml) (boxI X.thr [Value.pointer (some ⟨X.c, 0, none⟩), .pointer (some ⟨X.u, 0, none⟩), .slice (some ⟨g, off, none⟩) X.dn X.dc, .int .i64 N1, .int .i64 1, (.pointer (some ⟨a1, 0, none⟩)), (.pointer (some ⟨w4.heap.size, 0, none⟩)), X.pr, X.pq, X.pg, X.ph, .int .i64 T.done, .bool false] :: boxI a1 (av X.c { nx := nxA a1 D, left := .slice none 0 0, k := d.ok, key := d.key, val := d.val, lv := d.lv, h := 0, n := 0, r := 0, s := 0 }) :: boxI w4.heap.size (rav (D : Int) 0 0 0) :: R))) from perm_of fun z => by
      simp only [LT, LU, SP, SR, List.count_append, List.count_cons]
      omega)
    have q0 := hF.rule 7 rfl
    have g0 := hF.thaw 7 rfl 4 (by simp)
    have HPF := Lib.hid (hF.put 7 rfl (j := 4) (by simp) (Value.int .i64 2))
    clear hF hA9 hC9
    go_wp2_with fail
    (try go_ret)
    refine HPP.out _ _ ?_
    have ht9 : T9 = { T with e := e1, apc := D, ah := 0, an := 0, ar := 0, pc := 2, full := false } := by
      rw [HT9.out]
      rw [if_neg h0]
    have ht1 := HT1.out
    subst ht9
    subst ht1
    have hth : thv ({ X with pa := (.pointer (some ⟨a1, 0, none⟩)), pb := .pointer (some ⟨w4.heap.size, 0, none⟩) } : Tm) { T with e := e1, apc := D, ah := 0, an := 0, ar := 0, pc := 2, full := false } = [Value.pointer (some ⟨X.c, 0, none⟩), .pointer (some ⟨X.u, 0, none⟩), .slice (some ⟨g, off, none⟩) X.dn X.dc, .int .i64 N1, .int .i64 2, (.pointer (some ⟨a1, 0, none⟩)), (.pointer (some ⟨w4.heap.size, 0, none⟩)), X.pr, X.pq, X.pg, X.ph, .int .i64 T.done, .bool false] := by
      unfold thv
      dsimp only
      rw [HN1.out, HDA.out]
      rfl
    refine ⟨rfl, ({ X with pa := (.pointer (some ⟨a1, 0, none⟩)), pb := .pointer (some ⟨w4.heap.size, 0, none⟩) } : Tm), G, FU, qc1, n, ml, [boxI a1 (av X.c { nx := nxA a1 D, left := .slice none 0 0, k := d.ok, key := d.key, val := d.val, lv := d.lv, h := 0, n := 0, r := 0, s := 0 }), boxI w4.heap.size (rav (D : Int) 0 0 0)], ⟨rfl, rfl, rfl, rfl, rfl, rfl, rfl⟩, rfl, by omega, by omega, HN.out.1, HN.out.2, (by unfold Mach; rw [if_pos rfl]; exact ⟨a1, w4.heap.size, .slice none 0 0, 0, [], rfl, rfl, by unfold LeftIs; rw [if_pos (by have := HDL.out; exact this)], rfl⟩), ?_⟩
    rw [hth]
    exact HPF.out
end
end Go.Proofs.YtmifdkbpbkafjaaGreatDoor

/- Threads: the contract of step, where a checkpoint and an Alloc begin. -/
namespace Go.Proofs.YtmifdkbpbkafjaaGreatDoor
open Go.RowKit Go.Maps
set_option maxRecDepth 100000

section
variable {w0 w9 : World} {R : List Item} {C : Cf} {d : Dd} {X0 : Tm} {V : Wm} {T : Th} {G FU : Nat → Prop} {qc : Cnt} {ml : List OneR} {n : Nat}
set_option maxHeartbeats 6400000 in
theorem step01_t (hpc : T.pc = 1) (ds : List Dd) (hds : DsAt w0 R X0.dA ds) (hdn : X0.dn = ds.length) (hdl : ds.length ≤ 1000) (hnd : 1 ≤ T.nd ∧ T.nd ≤ ds.length) (hdd : ds.getD (T.nd - 1) default = d) (hs0 : T.hs = 0) (hml : ml.length ≤ 999999)
    (r70 : w9.cell? ⟨X0.thr, 4, none⟩ = some (.int .i64 0)) (hbg : Calls Tryz.prog 39 #[.pointer (some ⟨X0.thr, 0, none⟩)] w9 fun o w' => o = .returned (.bool true) ∧ ∃ (X : Tm), Same X0 X ∧ 0 ≤ X.N ∧ X.N ≤ 4000000 ∧ Env w0 (LT (SP C X V T (getL ml) G qc n) (LU (SR C X V T FU ml) (boxI X0.thr (thv X T) :: R))) w') :
        Calls Tryz.prog 14 #[.pointer (some ⟨X0.thr, 0, none⟩), .pointer (some ⟨V.p, 0, none⟩), .pointer (some ⟨V.m, 0, none⟩)] w9 fun o w' => o = .returned (.bool true) ∧ ∃ (X' : Tm) (G' FU' : Nat → Prop) (qc' : Cnt) (n' : Nat) (ml' : List OneR) (ms' : List Item), Same X0 X' ∧ getL ml' = (actM C d T (getL ml)).2 ∧ ml'.length ≤ ml.length + 1 ∧ n' ≤ n + 1 ∧ 0 ≤ X'.N ∧ X'.N ≤ 4000000 ∧ Mach C d X' (actM C d T (getL ml)).1 ms' ∧ Env w0 (LT (SP C X' V (actM C d T (getL ml)).1 (getL ml') G' qc' n') (LU (SR C X' V (actM C d T (getL ml)).1 FU' ml') (boxI X'.thr (thv X' (actM C d T (getL ml)).1) :: (ms' ++ R)))) w' := by
  obtain ⟨m, hm⟩ : ∃ m, T.nd = m + 1 := ⟨T.nd - 1, by omega⟩
  have hmm : T.nd - 1 = m := by omega
  rw [hmm] at hdd
  obtain ⟨g, off, hdA0, hc⟩ := rowD hds m (by omega)
  rw [hdd] at hc
  have HC := Lib.hid hc
  obtain ⟨N1, hN1⟩ : ∃ N1 : Int, (T.nd : Int) = N1 := ⟨_, rfl⟩
  have HN1 := Lib.hid hN1
  have hx1 : wrap64 (N1 - 1) = (m : Int) := by rw [w64 _ (by omega)]; omega
  have hx2 : N1 - 1 = (m : Int) := by omega
  have glt1 : (m : Int) < ((X0.dn : Nat) : Int) := by omega
  have hge1 : (0 : Int) ≤ (m : Int) := by omega
  have gb1 : decide ((m : Int) < ((X0.dn : Nat) : Int)) = true := by simpa using glt1
  have gb2 : m < X0.dn := by omega
  have hx4 : IntKind.i64.wrap (m : Int) = (m : Int) := (wrap_i _).trans (w64 _ (by omega))
  obtain ⟨e1, he1⟩ : ∃ e1, epI (getL ml (1, 0, 0)) = e1 := ⟨_, rfl⟩
  obtain ⟨D, hD⟩ : ∃ D, decP T.ql e1 C.l = D := ⟨_, rfl⟩
  have hact : actM C d T (getL ml) = ({ T with e := e1, apc := D, ah := 0, an := 0, ar := 0, pc := if D = 0 then 0 else 2, full := false }, getL ml) := by
    unfold actM
    rw [if_pos hpc, he1]
    dsimp only
    rw [hD]
  obtain ⟨T9, hT9⟩ : ∃ T9 : Th, T9 = { T with e := e1, apc := D, ah := 0, an := 0, ar := 0, pc := if D = 0 then 0 else 2, full := false } := ⟨_, rfl⟩
  rw [← hT9] at hact
  rw [hact]
  have HT9 := Lib.hid hT9
  clear hact hT9
  have HE1 := Lib.hid he1
  have HD := Lib.hid hD
  have HPC := Lib.hid hs0
  have HML := Lib.hid hml
  have HDA0 := Lib.hid hdA0
  have HGL := Lib.hid (And.intro glt1 gb2)
  have HBG := Lib.hid hbg
  have HPC9 := Lib.hid hpc
  clear hbg hc hds hdn hdl hnd hdd hN1 he1 hD hs0 hml hdA0 glt1 gb1 gb2 hpc
  refine gen_post fun PP HPP => ?_
  go_enter Tryz.func14, Tryz.ntmps14
  go_wp2_with fail
  refine HBG.out.mono ?_
  rintro o w ⟨rfl, X, hsm, hN0, hN9, hE⟩
  have HSM := Lib.hid hsm
  have hN := And.intro hN0 hN9
  have hdA := (HSM.out.2.2.2.2.1).trans HDA0.out
  have hdn9 : X.dn = X0.dn := HSM.out.2.2.2.2.2.1
  have hlt1 : (m : Int) < ((X.dn : Nat) : Int) := by rw [hdn9]; exact HGL.out.1
  have hb2 : m < X.dn := by rw [hdn9]; exact HGL.out.2
  have hb1 : decide ((m : Int) < ((X.dn : Nat) : Int)) = true := by simpa using hlt1
  have hN1 := HN1.out
  have hpc := HPC9.out
  clear hN0 hN9 HBG r70 hsm hdn9 HGL HDA0 HPC9
  have hfu : ∀ x, InU (getL ml x) := fun x => (hE.cell 3 rfl).words.1 x
  have hthv : thv X T = [Value.pointer (some ⟨X.c, 0, none⟩), .pointer (some ⟨X.u, 0, none⟩), .slice (some ⟨g, off, none⟩) X.dn X.dc, .int .i64 N1, .int .i64 1, X.pa, X.pb, X.pr, X.pq, X.pg, X.ph, .int .i64 T.done, .bool T.full] := by
    unfold thv
    rw [hdA, hN1, hpc]
    rfl
  rw [hthv] at hE
  have r7 := hE.rule 7 rfl
  have f12 := hE.thaw 7 rfl 12 (by simp)
  have hE1 := hE.put 7 rfl (j := 12) (by simp) (.bool false)
  have r7b : ∀ j, (w.setCell ⟨X0.thr, 12, none⟩ (.bool false)).cell? ⟨X0.thr, j, none⟩ = [Value.pointer (some ⟨X.c, 0, none⟩), .pointer (some ⟨X.u, 0, none⟩), .slice (some ⟨g, off, none⟩) X.dn X.dc, .int .i64 N1, .int .i64 1, X.pa, X.pb, X.pr, X.pq, X.pg, X.ph, .int .i64 T.done, .bool false][j]? := hE1.rule 7 rfl
  have HCH := Lib.hid (check_w (getL ml (1, 0, 0)) rfl 0 2 3 (by decide) (by decide) hE1 rfl rfl rfl)
  have HRC := Lib.hid (fun (L : List Item) (w : World) (h0 : Env w0 L w) h4 h6 => rcheck_w (getL ml (1, 0, 0)) rfl (hfu _) (by have := HML.out; omega) 4 6 h0 (u := X.u) (k := C.k) (s := C.s) (b := C.b) (h := C.h) (l := C.l) (e := T.e) (A := X.A) (n := T.ql.length) (c := X.rc) (N := X.N) (hs := T.hs) (r := X.ro) (m := V.m) (F := FU) h4 h6)
  have HN := Lib.hid hN
  have HDA := Lib.hid hdA
  clear hthv hN hpc hE hE1 hdA hfu hN1
  go_wp2_with fail
  refine HCH.out.mono ?_
  rintro o w1 ⟨rfl, hE2⟩
  clear HCH r7 r7b f12
  rw [HE1.out] at hE2
  obtain ⟨qc1, hqc1⟩ : ∃ qc1 : Cnt, qc1 = { (SP C X V T (getL ml) G qc n).qc with l := wrap64 ((SP C X V T (getL ml) G qc n).qc.l + 1) } := ⟨_, rfl⟩
  obtain ⟨T1, hT1⟩ : ∃ T1 : Th, T1 = { T with e := e1 } := ⟨_, rfl⟩
  have hE3 : Env w0 (LT (SP C X V T1 (getL ml) G qc1 n) (LU (SR C X V T FU ml) (boxI X0.thr [Value.pointer (some ⟨X.c, 0, none⟩), .pointer (some ⟨X.u, 0, none⟩), .slice (some ⟨g, off, none⟩) X.dn X.dc, .int .i64 N1, .int .i64 1, X.pa, X.pb, X.pr, X.pq, X.pg, X.ph, .int .i64 T.done, .bool false] :: R))) w1 := by
    rw [hT1, hqc1]
    exact hE2
  clear hE2 hqc1
  have r7 : ∀ j, w1.cell? ⟨X0.thr, j, none⟩ = [Value.pointer (some ⟨X.c, 0, none⟩), .pointer (some ⟨X.u, 0, none⟩), .slice (some ⟨g, off, none⟩) X.dn X.dc, .int .i64 N1, .int .i64 1, X.pa, X.pb, X.pr, X.pq, X.pg, X.ph, .int .i64 T.done, .bool false][j]? := hE3.rule 7 rfl
  go_wp2_with fail
  refine (HRC.out _ w1 hE3 rfl rfl).mono ?_
  rintro o w2 ⟨rfl, hE4⟩
  rw [HE1.out] at hE4
  have hE5 : Env w0 (LT (SP C X V T1 (getL ml) G qc1 n) (LU (SR C X V T1 FU ml) (boxI X0.thr [Value.pointer (some ⟨X.c, 0, none⟩), .pointer (some ⟨X.u, 0, none⟩), .slice (some ⟨g, off, none⟩) X.dn X.dc, .int .i64 N1, .int .i64 1, X.pa, X.pb, X.pr, X.pq, X.pg, X.ph, .int .i64 T.done, .bool false] :: R))) w2 := by
    rw [hT1] at hE4 ⊢
    exact hE4
  clear hE4 hE3 r7 HRC
  have hnew := fun (v : World) (L : List Item) (h : Env w0 (LT (SP C X V T1 (getL ml) G qc1 n) L) v) => new_a d.ok d.key d.val d.lv (by show T1.hs = 0; rw [hT1]; exact HPC.out) h
  have hdec : decP (SP C X V T1 (getL ml) G qc1 n).ql (SP C X V T1 (getL ml) G qc1 n).ce (SP C X V T1 (getL ml) G qc1 n).cl = D := by
    show decP T1.ql T1.e C.l = D
    rw [hT1]
    exact HD.out
  simp only [hdec] at hnew
  have hnl := fun (h0 : D = 0) (v : World) (L : List Item) (h : Env w0 (LT (SP C X V T1 (getL ml) G qc1 n) L) v) => (hnew v L h).mono (R' := fun o w' => o = .returned (.tuple #[.pointer none, .int .i64 4]) ∧ Env w0 (LT (SP C X V T1 (getL ml) G qc1 n) L) w') (by rintro o w' (⟨-, h1, h2⟩ | ⟨h1, -⟩); exact ⟨h1, h2⟩; exact absurd h0 h1)
  have hny := fun (h0 : D ≠ 0) (v : World) (L : List Item) (h : Env w0 (LT (SP C X V T1 (getL ml) G qc1 n) L) v) => (hnew v L h).mono (R' := fun o w' => ∃ a1, o = .returned (.tuple #[.pointer (some ⟨a1, 0, none⟩), .int .i64 0]) ∧ Env w0 (boxI a1 (av X.c { nx := nxA a1 D, left := .slice none 0 0, k := d.ok, key := d.key, val := d.val, lv := d.lv, h := 0, n := 0, r := 0, s := 0 }) :: LT (SP C X V T1 (getL ml) G qc1 n) L) w') (by rintro o w' (⟨h1, -⟩ | ⟨-, h1⟩); exact absurd h1 h0; exact h1)
  have HNL := Lib.hid hnl
  have HNY := Lib.hid hny
  have hdr := fun (v : World) (B : Nat) (L : List Item) (h : Env w0 (boxI B (rav 0 0 0 0) :: LU (SR C X V T1 FU ml) L) v) => rdecide_a h
  have hdec2 : decP (SR C X V T1 FU ml).ql (SR C X V T1 FU ml).ce (SR C X V T1 FU ml).cl = D := hdec
  have hdec3 : decS (SR C X V T1 FU ml).ql (SR C X V T1 FU ml).ce (SR C X V T1 FU ml).cl = if D = 0 then 4 else 0 := by
    unfold decS
    rw [hdec2]
  simp only [hdec2, hdec3] at hdr
  have HDR := Lib.hid hdr
  have HT1 := Lib.hid hT1
  clear hdr hdec2 hdec3
  clear hnew hdec hT1 hnl hny
  go_wp2_with fail
  by_cases h0 : D = 0
  · subst h0
    refine Ord.wp_chain [] (fun v => Env w0 (LT (SP C X V T1 (getL ml) G qc1 n) (LU (SR C X V T1 FU ml) (boxI X0.thr [Value.pointer (some ⟨X.c, 0, none⟩), .pointer (some ⟨X.u, 0, none⟩), .slice (some ⟨g, off, none⟩) X.dn X.dc, .int .i64 N1, .int .i64 1, X.pa, X.pb, X.pr, X.pq, X.pg, X.ph, .int .i64 T.done, .bool false] :: R))) v) (fun _ _ => True) (by kernel_rfl) (by kernel_rfl) (by kernel_rfl) hE5.drew trivial (fun hT => ?_)
    have hT9 := Lib.hid hT
    clear hT
    repeat (first
      | (refine Ord.ch_value (v := ?_) hT9.out (by decide) (by rfl) ?_ ?_; rotate_left; (focus (intro w5 hS; have hS9 := (show KR w0 R w5 ∧ Blk 0 w5 X0.thr [Value.pointer (some ⟨X.c, 0, none⟩), .pointer (some ⟨X.u, 0, none⟩), .slice (some ⟨g, off, none⟩) X.dn X.dc, .int .i64 N1, .int .i64 1, X.pa, X.pb, X.pr, X.pq, X.pg, X.ph, .int .i64 T.done, .bool false] from ⟨hS.kr (fun a ha => by simp [LT, LU, ha]), hS.get 7 rfl⟩); have r := hS9.2.rule; have rc9 := HC.out _ hS9.1; have c1 := rc9 1 _ rfl; have c2 := rc9 2 _ rfl; have c3 := rc9 3 _ rfl; have c4 := rc9 4 _ rfl; clear rc9; go_simp <;> with_reducible rfl)); (try simp only [Act.put, List.setIfInBounds_toArray, List.set_cons_zero, List.set_cons_succ]))
      | (refine Ord.ch_off hT9.out (by decide) (by rfl) ?_; (try simp only [Act.put, List.setIfInBounds_toArray, List.set_cons_zero, List.set_cons_succ]))
      | (refine Ord.ch_call (v := ?_) (f := ?_) (args := ?_) hT9.out (by decide) (by rfl) ?_ ?_ ?_; rotate_left 3; (focus (intro w5 hS; have hS9 := (show KR w0 R w5 ∧ Blk 0 w5 X0.thr [Value.pointer (some ⟨X.c, 0, none⟩), .pointer (some ⟨X.u, 0, none⟩), .slice (some ⟨g, off, none⟩) X.dn X.dc, .int .i64 N1, .int .i64 1, X.pa, X.pb, X.pr, X.pq, X.pg, X.ph, .int .i64 T.done, .bool false] from ⟨hS.kr (fun a ha => by simp [LT, LU, ha]), hS.get 7 rfl⟩); have r := hS9.2.rule; have rc9 := HC.out _ hS9.1; have c1 := rc9 1 _ rfl; have c2 := rc9 2 _ rfl; have c3 := rc9 3 _ rfl; have c4 := rc9 4 _ rfl; clear rc9; go_simp; constructor <;> with_reducible rfl)); (focus (intro w5 hS; (first | (refine (HNL.out rfl _ _ hS).mono ?_; rintro e w6 ⟨rfl, hE6⟩; constructor; with_reducible rfl; exact ⟨hE6, fun _ h => h⟩)))); (try simp only [Act.put, List.setIfInBounds_toArray, List.set_cons_zero, List.set_cons_succ])))
    refine Ord.InText.nil fun w5 hS => ?_
    clear hT9
    obtain ⟨hE6, hA9⟩ := Ord.chain_end hS
    clear hS
    clear hE5 hA9 HNL HNY
    obtain ⟨w4, rfl⟩ : ∃ w4, w4 = w5 := ⟨_, rfl⟩
    have r7 : ∀ j, w4.cell? ⟨X0.thr, j, none⟩ = [Value.pointer (some ⟨X.c, 0, none⟩), .pointer (some ⟨X.u, 0, none⟩), .slice (some ⟨g, off, none⟩) X.dn X.dc, .int .i64 N1, .int .i64 1, X.pa, X.pb, X.pr, X.pq, X.pg, X.ph, .int .i64 T.done, .bool false][j]? := hE6.rule 7 rfl
    have f5 := hE6.thaw 7 rfl 5 (by simp)
    have hE7 := hE6.put 7 rfl (j := 5) (by simp) (.pointer none)
    have hE8 := hE7.box w4.heap.size (by simp) [.int .i64 0, .int .u64 0, .int .u64 0, .int .u64 0] 108
    have f6 := hE8.thaw 8 rfl 6 (by simp)
    have r8 := hE8.rule 8 rfl
    have hE9 := hE8.put 8 rfl (j := 6) (by simp) (.pointer (some ⟨w4.heap.size, 0, none⟩))
    have HE9 := Lib.hid hE9
    clear hE9 hE8 hE7 hE6
    go_wp2_with fail
    clear r7 f5 f6 r8
    obtain ⟨L, hL⟩ : ∃ L, L = (LT (SP C X V T1 (getL ml) G qc1 n) (boxI X0.thr [Value.pointer (some ⟨X.c, 0, none⟩), .pointer (some ⟨X.u, 0, none⟩), .slice (some ⟨g, off, none⟩) X.dn X.dc, .int .i64 N1, .int .i64 1, (.pointer none), (.pointer (some ⟨w4.heap.size, 0, none⟩)), X.pr, X.pq, X.pg, X.ph, .int .i64 T.done, .bool false] :: R)) := ⟨_, rfl⟩
    have hmem : boxI X0.thr [Value.pointer (some ⟨X.c, 0, none⟩), .pointer (some ⟨X.u, 0, none⟩), .slice (some ⟨g, off, none⟩) X.dn X.dc, .int .i64 N1, .int .i64 1, (.pointer none), (.pointer (some ⟨w4.heap.size, 0, none⟩)), X.pr, X.pq, X.pg, X.ph, .int .i64 T.done, .bool false] ∈ L := by rw [hL]; simp [LT]
    have hE10 := HE9.out.perm (show List.Perm _ (boxI w4.heap.size (rav 0 0 0 0) :: LU (SR C X V T1 FU ml) L) from by
      rw [hL]
      exact perm_of fun z => by
        simp only [LT, LU, SP, SR, rav, List.count_append, List.count_cons, List.set_cons_succ, List.set_cons_zero]
        omega)
    have HL := Lib.hid hL
    have HMEM := Lib.hid hmem
    clear hL hmem HE9
    refine Ord.wp_chain [9] (fun v => Blk 0 v X0.thr [Value.pointer (some ⟨X.c, 0, none⟩), .pointer (some ⟨X.u, 0, none⟩), .slice (some ⟨g, off, none⟩) X.dn X.dc, .int .i64 N1, .int .i64 1, (.pointer none), (.pointer (some ⟨w4.heap.size, 0, none⟩)), X.pr, X.pq, X.pg, X.ph, .int .i64 T.done, .bool false]) (fun k v => if k = 0 then Env w0 (boxI w4.heap.size (rav 0 0 0 0) :: LU (SR C X V T1 FU ml) L) v else ∃ pc', Env w0 (boxI w4.heap.size (rav pc' 0 0 0) :: LU (SR C X V T1 FU ml) L) v) (by kernel_rfl) (by kernel_rfl) (by kernel_rfl) (hE10.drew.mem (List.mem_append_right [_, _, _, _] HMEM.out)) (by rw [if_pos rfl]; exact hE10.drew) (fun hT => ?_)
    have hT9 := Lib.hid hT
    clear hT
    repeat (first
      | (refine Ord.ch_value (v := ?_) hT9.out (by decide) (by rfl) ?_ ?_; rotate_left; (focus (intro w5 hS; have r := Blk.rule hS; go_simp <;> with_reducible rfl)); (try simp only [Act.put, List.setIfInBounds_toArray, List.set_cons_zero, List.set_cons_succ]))
      | (refine Ord.ch_off hT9.out (by decide) (by rfl) ?_; (try simp only [Act.put, List.setIfInBounds_toArray, List.set_cons_zero, List.set_cons_succ])))
    refine Ord.ch_turn (v := .int .i64 4) 0 hT9.out rfl (by decide) (Or.inl rfl) (by rfl) ?_ ?_
    · rintro w7 hC7 hA7
      rw [if_pos rfl] at hA7
      go_simp
      simp only [Ord.LandsIn]
      refine (HDR.out w7 _ L hA7).mono ?_
      rintro e w8 ⟨rfl, pc', h1, h2⟩
      exact ⟨rfl, h2.mem (List.mem_append_right [_, _, _, _] HMEM.out), pc', h2⟩
    (try simp only [Act.put, List.setIfInBounds_toArray, List.set_cons_zero, List.set_cons_succ])
    repeat (first
      | (refine Ord.ch_value (v := ?_) hT9.out (by decide) (by rfl) ?_ ?_; rotate_left; (focus (intro w5 hS; have r := Blk.rule hS; go_simp <;> with_reducible rfl)); (try simp only [Act.put, List.setIfInBounds_toArray, List.set_cons_zero, List.set_cons_succ]))
      | (refine Ord.ch_off hT9.out (by decide) (by rfl) ?_; (try simp only [Act.put, List.setIfInBounds_toArray, List.set_cons_zero, List.set_cons_succ]))
      | (refine Ord.ch_call (v := ?_) (f := ?_) (args := ?_) hT9.out (by decide) (by rfl) ?_ ?_ ?_; rotate_left 3; (focus (intro w5 hS; have r := Blk.rule hS; go_simp; constructor <;> with_reducible rfl)); (focus (intro w5 hS; (first | fail))); (try simp only [Act.put, List.setIfInBounds_toArray, List.set_cons_zero, List.set_cons_succ])))
    refine Ord.InText.nil fun w5 hS => ?_
    clear hT9
    obtain ⟨hC9, hA9⟩ := Ord.chain_end hS
    clear hS
    rw [if_neg (by decide)] at hA9
    have hLe := HL.out
    subst hLe
    obtain ⟨pc', hA9⟩ := hA9
    have hF := (hA9.perm (show List.Perm _ (boxI w4.heap.size (rav pc' 0 0 0) :: LT (SP C X V T1 (getL ml) G qc1 n) (LU (SR C X V T1 FU ml) (boxI X0.thr [Value.pointer (some ⟨X.c, 0, none⟩), .pointer (some ⟨X.u, 0, none⟩), .slice (some ⟨g, off, none⟩) X.dn X.dc, .int .i64 N1, .int .i64 1, (.pointer none), (.pointer (some ⟨w4.heap.size, 0, none⟩)), X.pr, X.pq, X.pg, X.ph, .int .i64 T.done, .bool false] :: R))) from perm_of fun z => by
      simp only [LT, LU, SP, SR, List.count_append, List.count_cons]
      omega)).sub (.cons _ (List.Sublist.refl _))
    have q0 := hF.rule 7 rfl
    have g0 := hF.thaw 7 rfl 4 (by simp)
    have hF2 := hF.put 7 rfl (j := 4) (by simp) (Value.int .i64 2)
    have q1 := hF2.rule 7 rfl
    have g1 := hF2.thaw 7 rfl 4 (by simp)
    have HPF := Lib.hid (hF2.put 7 rfl (j := 4) (by simp) (Value.int .i64 0))
    clear hF2
    clear hF hA9 hC9
    go_wp2_with fail
    (try go_ret)
    refine HPP.out _ _ ?_
    have ht9 : T9 = { T with e := e1, apc := (0 : Nat), ah := 0, an := 0, ar := 0, pc := 0, full := false } := by
      rw [HT9.out]
      rfl
    have ht1 := HT1.out
    subst ht9
    subst ht1
    have hth : thv ({ X with pa := (.pointer none), pb := .pointer (some ⟨w4.heap.size, 0, none⟩) } : Tm) { T with e := e1, apc := (0 : Nat), ah := 0, an := 0, ar := 0, pc := 0, full := false } = [Value.pointer (some ⟨X.c, 0, none⟩), .pointer (some ⟨X.u, 0, none⟩), .slice (some ⟨g, off, none⟩) X.dn X.dc, .int .i64 N1, .int .i64 0, (.pointer none), (.pointer (some ⟨w4.heap.size, 0, none⟩)), X.pr, X.pq, X.pg, X.ph, .int .i64 T.done, .bool false] := by
      unfold thv
      dsimp only
      rw [HN1.out, HDA.out]
      rfl
    refine ⟨rfl, ({ X with pa := (.pointer none), pb := .pointer (some ⟨w4.heap.size, 0, none⟩) } : Tm), G, FU, qc1, n, ml, [], HSM.out, rfl, by omega, by omega, HN.out.1, HN.out.2, (by unfold Mach; rw [if_neg (show ¬ (0 : Nat) = 2 by decide), if_neg (show ¬ (0 : Nat) = 3 by decide), if_neg (show ¬ (0 : Nat) = 4 by decide)]), ?_⟩
    rw [hth, show (({ X with pa := (.pointer none), pb := .pointer (some ⟨w4.heap.size, 0, none⟩) } : Tm)).thr = X0.thr from HSM.out.1]
    exact HPF.out
  · have hD0 : decP (SP C X V T1 (getL ml) G qc1 n).ql (SP C X V T1 (getL ml) G qc1 n).ce (SP C X V T1 (getL ml) G qc1 n).cl ≤ 10 := by
      unfold decP
      repeat' split
      all_goals decide
    have HDL := Lib.hid (show D ≤ 10 by
      have := HD.out
      rw [← this]
      unfold decP
      repeat' split
      all_goals decide)
    clear hD0
    refine Ord3.wp_chain [?_, ?_, ?_, ?_, ?_, ?_, ?_, ?_, ?_, ?_, ?_, ?_, ?_, ?_, ?_, ?_, ?_, ?_, ?_, ?_, ?_, ?_] [16, 17, 18, 20] (fun v => KR w0 R v ∧ Blk 0 v X0.thr [Value.pointer (some ⟨X.c, 0, none⟩), .pointer (some ⟨X.u, 0, none⟩), .slice (some ⟨g, off, none⟩) X.dn X.dc, .int .i64 N1, .int .i64 1, X.pa, X.pb, X.pr, X.pq, X.pg, X.ph, .int .i64 T.done, .bool false]) (Ord3.Stage fun κs => [Env w0 (LT (SP C X V T1 (getL ml) G qc1 n) (LU (SR C X V T1 FU ml) (boxI X0.thr [Value.pointer (some ⟨X.c, 0, none⟩), .pointer (some ⟨X.u, 0, none⟩), .slice (some ⟨g, off, none⟩) X.dn X.dc, .int .i64 N1, .int .i64 1, X.pa, X.pb, X.pr, X.pq, X.pg, X.ph, .int .i64 T.done, .bool false] :: R))), fun v => ∃ a1, κs = [.tuple #[.pointer (some ⟨a1, 0, none⟩), .int .i64 0]] ∧ Env w0 (boxI a1 (av X.c { nx := nxA a1 D, left := .slice none 0 0, k := d.ok, key := d.key, val := d.val, lv := d.lv, h := 0, n := 0, r := 0, s := 0 }) :: LT (SP C X V T1 (getL ml) G qc1 n) (LU (SR C X V T1 FU ml) (boxI X0.thr [Value.pointer (some ⟨X.c, 0, none⟩), .pointer (some ⟨X.u, 0, none⟩), .slice (some ⟨g, off, none⟩) X.dn X.dc, .int .i64 N1, .int .i64 1, X.pa, X.pb, X.pr, X.pq, X.pg, X.ph, .int .i64 T.done, .bool false] :: R))) v, fun v => ∃ a1, κs = [.tuple #[.pointer (some ⟨a1, 0, none⟩), .int .i64 0], .tuple #[.pointer (some ⟨a1, 0, none⟩), .int .i64 0]] ∧ Env w0 (boxI a1 (av X.c { nx := nxA a1 D, left := .slice none 0 0, k := d.ok, key := d.key, val := d.val, lv := d.lv, h := 0, n := 0, r := 0, s := 0 }) :: LT (SP C X V T1 (getL ml) G qc1 n) (LU (SR C X V T1 FU ml) (boxI X0.thr [Value.pointer (some ⟨X.c, 0, none⟩), .pointer (some ⟨X.u, 0, none⟩), .slice (some ⟨g, off, none⟩) X.dn X.dc, .int .i64 N1, .int .i64 1, X.pa, X.pb, X.pr, X.pq, X.pg, X.ph, .int .i64 T.done, .bool false] :: R))) v, fun v => ∃ a1, κs = [.tuple #[.pointer (some ⟨a1, 0, none⟩), .int .i64 0], .tuple #[.pointer (some ⟨a1, 0, none⟩), .int .i64 0], .pointer (some ⟨a1, 0, none⟩)] ∧ Env w0 (boxI a1 (av X.c { nx := nxA a1 D, left := .slice none 0 0, k := d.ok, key := d.key, val := d.val, lv := d.lv, h := 0, n := 0, r := 0, s := 0 }) :: LT (SP C X V T1 (getL ml) G qc1 n) (LU (SR C X V T1 FU ml) (boxI X0.thr [Value.pointer (some ⟨X.c, 0, none⟩), .pointer (some ⟨X.u, 0, none⟩), .slice (some ⟨g, off, none⟩) X.dn X.dc, .int .i64 N1, .int .i64 1, X.pa, X.pb, X.pr, X.pq, X.pg, X.ph, .int .i64 T.done, .bool false] :: R))) v, fun v => ∃ a1, κs = [.tuple #[.pointer (some ⟨a1, 0, none⟩), .int .i64 0], .tuple #[.pointer (some ⟨a1, 0, none⟩), .int .i64 0], .pointer (some ⟨a1, 0, none⟩), .pointer (some ⟨a1, 0, none⟩)] ∧ Env w0 (boxI a1 (av X.c { nx := nxA a1 D, left := .slice none 0 0, k := d.ok, key := d.key, val := d.val, lv := d.lv, h := 0, n := 0, r := 0, s := 0 }) :: LT (SP C X V T1 (getL ml) G qc1 n) (LU (SR C X V T1 FU ml) (boxI X0.thr [Value.pointer (some ⟨X.c, 0, none⟩), .pointer (some ⟨X.u, 0, none⟩), .slice (some ⟨g, off, none⟩) X.dn X.dc, .int .i64 N1, .int .i64 1, X.pa, X.pb, X.pr, X.pq, X.pg, X.ph, .int .i64 T.done, .bool false] :: R))) v]) (by kernel_rfl) (by kernel_rfl) (by kernel_rfl) ⟨hE5.drew.kr (fun a ha => by simp [LT, LU, ha]), hE5.drew.get 7 rfl⟩ ⟨_, rfl, hE5.drew⟩ (fun hT => ?_)
    rotate_left 22
    have hT9 := Lib.hid hT
    clear hT
    repeat (first
      | (focus (refine Ord3.in_value (v := ?_) hT9.out (by decide) ?_ (by rfl) ?_ ?_; rotate_left 2; (focus (intro w5 hS; have r := hS.2.rule; have rc9 := HC.out _ hS.1; have c1 := rc9 1 _ rfl; have c2 := rc9 2 _ rfl; have c3 := rc9 3 _ rfl; have c4 := rc9 4 _ rfl; clear rc9; go_simp <;> with_reducible rfl)); rotate_right; (focus rfl); (try simp only [Act.put, List.setIfInBounds_toArray, List.set_cons_zero, List.set_cons_succ])))
      | (focus (refine Ord3.in_off hT9.out (by decide) ?_ (by rfl) ?_; (focus rfl); (try simp only [Act.put, List.setIfInBounds_toArray, List.set_cons_zero, List.set_cons_succ]))))
    refine Ord3.in_turn (fun u => ∃ z, u = .tuple #[.pointer (some ⟨z, 0, none⟩), .int .i64 0]) _ ⟨0, rfl⟩ hT9.out rfl (by decide) (by rfl) ?_ (Or.inl rfl) (by rfl) ?_ ?_
    · rfl
    · rintro v7 hC7 ⟨P7, hP7, hA7⟩
      cases hP7
      go_simp
      simp only [Ord3.Lands]
      refine (HNY.out h0 _ _ hA7).mono ?_
      rintro o v8 ⟨a1, rfl, hX8⟩
      exact ⟨_, rfl, ⟨_, rfl⟩, ⟨hX8.kr (fun a ha => by simp [LT, LU, ha]), hX8.get 8 rfl⟩, _, rfl, a1, rfl, hX8⟩
    rintro _ ⟨z1, rfl⟩
    (try simp only [Act.put, List.setIfInBounds_toArray, List.set_cons_zero, List.set_cons_succ])
    refine Ord3.in_turn (fun u => ∃ z, u = .tuple #[.pointer (some ⟨z, 0, none⟩), .int .i64 0]) _ ⟨0, rfl⟩ hT9.out rfl (by decide) (by rfl) ?_ (Or.inr ⟨_, 16, [], rfl, by kernel_rfl, by kernel_rfl, rfl⟩) (by rfl) ?_ ?_
    · rfl
    · rintro v7 hC7 ⟨P7, hP7, hA7⟩
      cases hP7
      go_simp
      simp only [Ord3.Lands]
      obtain ⟨a1, he, hA7⟩ := hA7
      cases he
      exact ⟨⟨_, rfl⟩, hC7, _, rfl, _, rfl, hA7⟩
    rintro _ ⟨z2, rfl⟩
    (try simp only [Act.put, List.setIfInBounds_toArray, List.set_cons_zero, List.set_cons_succ])
    refine Ord3.in_turn (fun u => ∃ z, u = .pointer (some ⟨z, 0, none⟩)) _ ⟨0, rfl⟩ hT9.out rfl (by decide) (by rfl) ?_ (Or.inr ⟨_, 17, [], rfl, by kernel_rfl, by kernel_rfl, rfl⟩) (by rfl) ?_ ?_
    · rfl
    · rintro v7 hC7 ⟨P7, hP7, hA7⟩
      cases hP7
      go_simp
      simp only [Ord3.Lands]
      obtain ⟨a1, he, hA7⟩ := hA7
      cases he
      exact ⟨⟨_, rfl⟩, hC7, _, rfl, _, rfl, hA7⟩
    rintro _ ⟨z3, rfl⟩
    (try simp only [Act.put, List.setIfInBounds_toArray, List.set_cons_zero, List.set_cons_succ])
    repeat (first
      | (focus (refine Ord3.in_value (v := ?_) hT9.out (by decide) ?_ (by rfl) ?_ ?_; rotate_left 2; (focus (intro w5 hS; have r := hS.2.rule; have rc9 := HC.out _ hS.1; have c1 := rc9 1 _ rfl; have c2 := rc9 2 _ rfl; have c3 := rc9 3 _ rfl; have c4 := rc9 4 _ rfl; clear rc9; go_simp <;> with_reducible rfl)); rotate_right; (focus rfl); (try simp only [Act.put, List.setIfInBounds_toArray, List.set_cons_zero, List.set_cons_succ])))
      | (focus (refine Ord3.in_off hT9.out (by decide) ?_ (by rfl) ?_; (focus rfl); (try simp only [Act.put, List.setIfInBounds_toArray, List.set_cons_zero, List.set_cons_succ]))))
    refine Ord3.in_turn (fun u => ∃ z, u = .pointer (some ⟨z, 0, none⟩)) _ ⟨0, rfl⟩ hT9.out rfl (by decide) (by rfl) ?_ (Or.inr ⟨_, 18, [], rfl, by kernel_rfl, by kernel_rfl, rfl⟩) (by rfl) ?_ ?_
    · rfl
    · rintro v7 hC7 ⟨P7, hP7, hA7⟩
      cases hP7
      go_simp
      simp only [Ord3.Lands]
      obtain ⟨a1, he, hA7⟩ := hA7
      cases he
      exact ⟨⟨_, rfl⟩, hC7, _, rfl, _, rfl, hA7⟩
    rintro _ ⟨z4, rfl⟩
    (try simp only [Act.put, List.setIfInBounds_toArray, List.set_cons_zero, List.set_cons_succ])
    repeat (first
      | (focus (refine Ord3.in_value (v := ?_) hT9.out (by decide) ?_ (by rfl) ?_ ?_; rotate_left 2; (focus (intro w5 hS; have r := hS.2.rule; have rc9 := HC.out _ hS.1; have c1 := rc9 1 _ rfl; have c2 := rc9 2 _ rfl; have c3 := rc9 3 _ rfl; have c4 := rc9 4 _ rfl; clear rc9; go_simp <;> with_reducible rfl)); rotate_right; (focus rfl); (try simp only [Act.put, List.setIfInBounds_toArray, List.set_cons_zero, List.set_cons_succ])))
      | (focus (refine Ord3.in_off hT9.out (by decide) ?_ (by rfl) ?_; (focus rfl); (try simp only [Act.put, List.setIfInBounds_toArray, List.set_cons_zero, List.set_cons_succ]))))
    refine Ord3.in_nil rfl ?_
    rintro w5 hC9 ⟨P9, hP9, hA9⟩
    cases hP9
    obtain ⟨a2, he, hE6⟩ := hA9
    cases he
    obtain ⟨a1, rfl⟩ : ∃ a1, a1 = z1 := ⟨_, rfl⟩
    clear hT9 hC9 hE5 HNL HNY
    obtain ⟨w4, rfl⟩ : ∃ w4, w4 = w5 := ⟨_, rfl⟩
    have r7 : ∀ j, w4.cell? ⟨X0.thr, j, none⟩ = [Value.pointer (some ⟨X.c, 0, none⟩), .pointer (some ⟨X.u, 0, none⟩), .slice (some ⟨g, off, none⟩) X.dn X.dc, .int .i64 N1, .int .i64 1, X.pa, X.pb, X.pr, X.pq, X.pg, X.ph, .int .i64 T.done, .bool false][j]? := hE6.rule 8 rfl
    have f5 := hE6.thaw 8 rfl 5 (by simp)
    have hE7 := hE6.put 8 rfl (j := 5) (by simp) (.pointer (some ⟨a1, 0, none⟩))
    have hE8 := hE7.box w4.heap.size (by simp) [.int .i64 0, .int .u64 0, .int .u64 0, .int .u64 0] 108
    have f6 := hE8.thaw 9 rfl 6 (by simp)
    have r8 := hE8.rule 9 rfl
    have hE9 := hE8.put 9 rfl (j := 6) (by simp) (.pointer (some ⟨w4.heap.size, 0, none⟩))
    have HE9 := Lib.hid hE9
    clear hE9 hE8 hE7 hE6
    go_wp2_with fail
    clear r7 f5 f6 r8
    obtain ⟨L, hL⟩ : ∃ L, L = (boxI a1 (av X.c { nx := nxA a1 D, left := .slice none 0 0, k := d.ok, key := d.key, val := d.val, lv := d.lv, h := 0, n := 0, r := 0, s := 0 }) :: LT (SP C X V T1 (getL ml) G qc1 n) (boxI X0.thr [Value.pointer (some ⟨X.c, 0, none⟩), .pointer (some ⟨X.u, 0, none⟩), .slice (some ⟨g, off, none⟩) X.dn X.dc, .int .i64 N1, .int .i64 1, (.pointer (some ⟨a1, 0, none⟩)), (.pointer (some ⟨w4.heap.size, 0, none⟩)), X.pr, X.pq, X.pg, X.ph, .int .i64 T.done, .bool false] :: R)) := ⟨_, rfl⟩
    have hmem : boxI X0.thr [Value.pointer (some ⟨X.c, 0, none⟩), .pointer (some ⟨X.u, 0, none⟩), .slice (some ⟨g, off, none⟩) X.dn X.dc, .int .i64 N1, .int .i64 1, (.pointer (some ⟨a1, 0, none⟩)), (.pointer (some ⟨w4.heap.size, 0, none⟩)), X.pr, X.pq, X.pg, X.ph, .int .i64 T.done, .bool false] ∈ L := by rw [hL]; simp [LT]
    have hE10 := HE9.out.perm (show List.Perm _ (boxI w4.heap.size (rav 0 0 0 0) :: LU (SR C X V T1 FU ml) L) from by
      rw [hL]
      exact perm_of fun z => by
        simp only [LT, LU, SP, SR, rav, List.count_append, List.count_cons, List.set_cons_succ, List.set_cons_zero]
        omega)
    have HL := Lib.hid hL
    have HMEM := Lib.hid hmem
    clear hL hmem HE9
    refine Ord.wp_chain [9] (fun v => Blk 0 v X0.thr [Value.pointer (some ⟨X.c, 0, none⟩), .pointer (some ⟨X.u, 0, none⟩), .slice (some ⟨g, off, none⟩) X.dn X.dc, .int .i64 N1, .int .i64 1, (.pointer (some ⟨a1, 0, none⟩)), (.pointer (some ⟨w4.heap.size, 0, none⟩)), X.pr, X.pq, X.pg, X.ph, .int .i64 T.done, .bool false]) (fun k v => if k = 0 then Env w0 (boxI w4.heap.size (rav 0 0 0 0) :: LU (SR C X V T1 FU ml) L) v else Env w0 (boxI w4.heap.size (rav (D : Int) 0 0 0) :: LU (SR C X V T1 FU ml) L) v) (by kernel_rfl) (by kernel_rfl) (by kernel_rfl) (hE10.drew.mem (List.mem_append_right [_, _, _, _] HMEM.out)) (by rw [if_pos rfl]; exact hE10.drew) (fun hT => ?_)
    have hT9 := Lib.hid hT
    clear hT
    repeat (first
      | (refine Ord.ch_value (v := ?_) hT9.out (by decide) (by rfl) ?_ ?_; rotate_left; (focus (intro w5 hS; have r := Blk.rule hS; go_simp <;> with_reducible rfl)); (try simp only [Act.put, List.setIfInBounds_toArray, List.set_cons_zero, List.set_cons_succ]))
      | (refine Ord.ch_off hT9.out (by decide) (by rfl) ?_; (try simp only [Act.put, List.setIfInBounds_toArray, List.set_cons_zero, List.set_cons_succ])))
    refine Ord.ch_turn (v := .int .i64 0) 0 hT9.out rfl (by decide) (Or.inl rfl) (by rfl) ?_ ?_
    · rintro w7 hC7 hA7
      rw [if_pos rfl] at hA7
      go_simp
      simp only [Ord.LandsIn]
      refine (HDR.out w7 _ L hA7).mono ?_
      rintro e w8 ⟨rfl, pc', h1, h2⟩
      rw [if_neg h0, h1 h0] at *
      exact ⟨rfl, h2.mem (List.mem_append_right [_, _, _, _] HMEM.out), h2⟩
    (try simp only [Act.put, List.setIfInBounds_toArray, List.set_cons_zero, List.set_cons_succ])
    repeat (first
      | (refine Ord.ch_value (v := ?_) hT9.out (by decide) (by rfl) ?_ ?_; rotate_left; (focus (intro w5 hS; have r := Blk.rule hS; go_simp <;> with_reducible rfl)); (try simp only [Act.put, List.setIfInBounds_toArray, List.set_cons_zero, List.set_cons_succ]))
      | (refine Ord.ch_off hT9.out (by decide) (by rfl) ?_; (try simp only [Act.put, List.setIfInBounds_toArray, List.set_cons_zero, List.set_cons_succ]))
      | (refine Ord.ch_call (v := ?_) (f := ?_) (args := ?_) hT9.out (by decide) (by rfl) ?_ ?_ ?_; rotate_left 3; (focus (intro w5 hS; have r := Blk.rule hS; go_simp; constructor <;> with_reducible rfl)); (focus (intro w5 hS; (first | fail))); (try simp only [Act.put, List.setIfInBounds_toArray, List.set_cons_zero, List.set_cons_succ])))
    refine Ord.InText.nil fun w5 hS => ?_
    clear hT9
    obtain ⟨hC9, hA9⟩ := Ord.chain_end hS
    clear hS
    rw [if_neg (by decide)] at hA9
    have hLe := HL.out
    subst hLe
    have hF := hA9.perm (show List.Perm _ (LT (SP C X V T1 (getL ml) G qc1 n) (LU (SR C X V T1 FU ml) (boxI X0.thr [Value.pointer (some ⟨X.c, 0, none⟩), .pointer (some ⟨X.u, 0, none⟩), .slice (some ⟨g, off, none⟩) X.dn X.dc, .int .i64 N1, .int .i64 1, (.pointer (some ⟨a1, 0, none⟩)), (.pointer (some ⟨w4.heap.size, 0, none⟩)), X.pr, X.pq, X.pg, X.ph, .int .i64 T.done, .bool false] :: boxI a1 (av X.c { nx := nxA a1 D, left := .slice none 0 0, k := d.ok, key := d.key, val := d.val, lv := d.lv, h := 0, n := 0, r := 0, s := 0 }) :: boxI w4.heap.size (rav (D : Int) 0 0 0) :: R))) from perm_of fun z => by
      simp only [LT, LU, SP, SR, List.count_append, List.count_cons]
      omega)
    have q0 := hF.rule 7 rfl
    have g0 := hF.thaw 7 rfl 4 (by simp)
    have HPF := Lib.hid (hF.put 7 rfl (j := 4) (by simp) (Value.int .i64 2))
    clear hF hA9 hC9
    go_wp2_with fail
    (try go_ret)
    refine HPP.out _ _ ?_
    have ht9 : T9 = { T with e := e1, apc := D, ah := 0, an := 0, ar := 0, pc := 2, full := false } := by
      rw [HT9.out]
      rw [if_neg h0]
    have ht1 := HT1.out
    subst ht9
    subst ht1
    have hth : thv ({ X with pa := (.pointer (some ⟨a1, 0, none⟩)), pb := .pointer (some ⟨w4.heap.size, 0, none⟩) } : Tm) { T with e := e1, apc := D, ah := 0, an := 0, ar := 0, pc := 2, full := false } = [Value.pointer (some ⟨X.c, 0, none⟩), .pointer (some ⟨X.u, 0, none⟩), .slice (some ⟨g, off, none⟩) X.dn X.dc, .int .i64 N1, .int .i64 2, (.pointer (some ⟨a1, 0, none⟩)), (.pointer (some ⟨w4.heap.size, 0, none⟩)), X.pr, X.pq, X.pg, X.ph, .int .i64 T.done, .bool false] := by
      unfold thv
      dsimp only
      rw [HN1.out, HDA.out]
      rfl
    refine ⟨rfl, ({ X with pa := (.pointer (some ⟨a1, 0, none⟩)), pb := .pointer (some ⟨w4.heap.size, 0, none⟩) } : Tm), G, FU, qc1, n, ml, [boxI a1 (av X.c { nx := nxA a1 D, left := .slice none 0 0, k := d.ok, key := d.key, val := d.val, lv := d.lv, h := 0, n := 0, r := 0, s := 0 }), boxI w4.heap.size (rav (D : Int) 0 0 0)], HSM.out, rfl, by omega, by omega, HN.out.1, HN.out.2, (by unfold Mach; rw [if_pos rfl]; exact ⟨a1, w4.heap.size, .slice none 0 0, 0, [], rfl, rfl, by unfold LeftIs; rw [if_pos (by have := HDL.out; exact this)], rfl⟩), ?_⟩
    rw [hth, show (({ X with pa := (.pointer (some ⟨a1, 0, none⟩)), pb := .pointer (some ⟨w4.heap.size, 0, none⟩) } : Tm)).thr = X0.thr from HSM.out.1]
    exact HPF.out
end
end Go.Proofs.YtmifdkbpbkafjaaGreatDoor

/- Threads: a Retire's and a Give's step, of the program and of the reference, whatever its row. -/
namespace Go.Proofs.YtmifdkbpbkafjaaGreatDoor
open Go.RowKit Go.Maps
set_option maxRecDepth 100000

section
variable {w0 w : World} {R : List Item} {C : Cf} {d : Dd} {X : Tm} {V : Wm} {T : Th} {f : Plc → Int} {G FU : Nat → Prop} {qc : Cnt} {n r b : Nat} {ml : List OneR}
set_option maxHeartbeats 1600000 in
theorem reP (hn : n < maxLen) (hl : T.ql.length + 1 ≤ 1000000) (he : InU T.re) (hs : In64 T.rs) (hE : Env w0 (boxI r (rtv X.c (nxR r T.rpc) T.rs T.re) :: LT (SP C X V T f G qc n) R) w) :
    Calls Tryz.prog 34 #[.pointer (some ⟨r, 0, none⟩), .iface 28 (.pointer (some ⟨V.p, 0, none⟩))] w fun o w' => o = .returned (.int .i64 (retireM T f).1) ∧ ∃ (F' : Nat → Prop) (k' : Nat) (G' : Nat → Prop) (qc' : Cnt) (n' : Nat), n' ≤ n + 1 ∧ (((retireM T f).1 = 0 ∧ Env w0 (boxI r (rtv X.c (nxR r (retireM T f).2.1.rpc) (retireM T f).2.1.rs (retireM T f).2.1.re) :: LT (SP C { X with F := F', kq := k' } V (retireM T f).2.1 (retireM T f).2.2 G' qc' n') R) w') ∨ ((retireM T f).1 ≠ 0 ∧ Env w0 (LT (SP C { X with F := F', kq := k' } V (retireM T f).2.1 (retireM T f).2.2 G' qc' n') R) w')) := by
  by_cases h0 : T.rpc = 0
  · have hal : retireM T f = (0, { T with re := f (1, 0, 0), rpc := 1 }, f) := by unfold retireM; rw [if_pos h0]
    rw [hal]
    rw [h0] at hE
    refine (step_ry (S := SP C X V T f G qc n) 0 _ hE rfl (loadEpoch_r (S := SP C X V T f G qc n) _ rfl hE)).mono ?_
    rintro o w1 ⟨rfl, hE1⟩
    exact ⟨rfl, X.F, X.kq, G, _, n, by omega, .inl ⟨rfl, hE1⟩⟩
  · have hal : retireM T f = (1, { T with ql := T.ql ++ [(T.rs, epI T.re, 0)] }, upd f (5, T.rs, 1) T.re) := by unfold retireM; rw [if_neg h0]
    rw [hal]
    have hnx : nxR r T.rpc = nxR r 1 := by unfold nxR fnR; rw [if_neg h0, if_neg (by decide)]
    rw [hnx] at hE
    refine (step_ry (S := SP C X V T f G qc n) 1 _ hE rfl (store_r (S := SP C X V T f G qc n) he hs hn (Nat.le_trans hl (by decide)) hE)).mono ?_
    rintro o w1 ⟨rfl, k', F', G', -, hE1⟩
    exact ⟨rfl, F', k', G', _, n + 1, Nat.le_refl _, .inr ⟨show (1 : Int) ≠ 0 by decide, hE1⟩⟩
set_option maxHeartbeats 1600000 in
theorem reR (hl : T.ql.length + 1 ≤ 1000000) (he : InU T.re) (hre : T.rpc ≠ 0 → epI T.re = T.re) (hpc : T.rpc = 0 ∨ T.rpc = 1) (hml : ml.length ≤ 999999) (hN : 0 ≤ X.N ∧ X.N ≤ 4000000) (hE : Env w0 (boxI b (rrv T.rs (T.rpc : Int) T.re) :: LU (SR C X V T FU ml) R) w) :
    Calls Tryz.prog 43 #[.pointer (some ⟨b, 0, none⟩), .pointer (some ⟨X.u, 0, none⟩), .pointer (some ⟨V.m, 0, none⟩)] w fun o w' => o = .returned (.int .i64 (retireM T (getL ml)).1) ∧ ∃ (A' : Option Addr) (rc' : Nat) (N' : Int) (FU' : Nat → Prop) (ml' : List OneR), getL ml' = (retireM T (getL ml)).2.2 ∧ ml'.length ≤ ml.length + 1 ∧ 0 ≤ N' ∧ N' ≤ 4000000 ∧ (((retireM T (getL ml)).1 = 0 ∧ Env w0 (boxI b (rrv (retireM T (getL ml)).2.1.rs ((retireM T (getL ml)).2.1.rpc : Int) (retireM T (getL ml)).2.1.re) :: LU (SR C { X with A := A', rc := rc', N := N' } V (retireM T (getL ml)).2.1 FU' ml') R) w') ∨ ((retireM T (getL ml)).1 ≠ 0 ∧ Env w0 (LU (SR C { X with A := A', rc := rc', N := N' } V (retireM T (getL ml)).2.1 FU' ml') R) w')) := by
  rcases hpc with h0 | h0
  · have hal : retireM T (getL ml) = (0, { T with re := getL ml (1, 0, 0), rpc := 1 }, getL ml) := by unfold retireM; rw [if_pos h0]
    rw [hal]
    rw [h0] at hE
    refine (rret0 (U := SR C X V T FU ml) _ rfl (by show ml.length ≤ 1000000; omega) hE).mono ?_
    rintro o w1 ⟨rfl, hE1⟩
    exact ⟨rfl, X.A, X.rc, X.N, FU, ml, rfl, by omega, hN.1, hN.2, .inl ⟨rfl, hE1⟩⟩
  · have hal : retireM T (getL ml) = (1, { T with ql := T.ql ++ [(T.rs, epI T.re, 0)] }, upd (getL ml) (5, T.rs, 1) T.re) := by unfold retireM; rw [if_neg (by omega)]
    rw [hal]
    have hee := hre (by omega)
    rw [h0] at hE
    refine (rret1 (U := SR C X V T FU ml) he (by show ml.length ≤ 1000000; omega) (by show T.ql.length ≤ 1000000; omega) (by show 0 ≤ X.N ∧ X.N ≤ 1099511627776; omega) hE).mono ?_
    rintro o w1 ⟨rfl, F5, A', c', hE1⟩
    have hNN := roomN_in hN hl
    have hms : (getL (setL ml (5, T.rs, 1) (epI T.re))) = upd (getL ml) (5, T.rs, 1) T.re := by rw [getL_set, hee]
    exact ⟨rfl, A', c', _, F5, _, hms, setL_length _ _ _, hNN.1, hNN.2, .inr ⟨show (1 : Int) ≠ 0 by decide, hE1⟩⟩
set_option maxHeartbeats 1600000 in
theorem geP (hg : Glo w0) (hn : n < maxLen) (hgh : InU T.gh) (hpc : T.gpc ≤ 3) (hq : 2 ≤ T.gpc → ∃ x y t, T.ql = (x, y, 0) :: t ∧ In64 x) (hE : Env w0 (boxI r (gvv X.c (nxG r T.gpc) T.gh T.gg) :: LT (SP C X V T f G qc n) R) w) :
    Calls Tryz.prog 44 #[.pointer (some ⟨r, 0, none⟩), .iface 28 (.pointer (some ⟨V.p, 0, none⟩))] w fun o w' => o = .returned (.int .i64 (giveM C T f).1) ∧ ∃ (G' : Nat → Prop) (qc' : Cnt) (n' : Nat) (nx : Value), n' ≤ n + 1 ∧ ((giveM C T f).1 = 0 → nx = nxG r (giveM C T f).2.1.gpc) ∧ Env w0 (boxI r (gvv X.c nx (giveM C T f).2.1.gh (giveM C T f).2.1.gg) :: LT (SP C X V (giveM C T f).2.1 (giveM C T f).2.2 G' qc' n') R) w' := by
  rcases (show T.gpc = 0 ∨ T.gpc = 1 ∨ T.gpc = 2 ∨ T.gpc = 3 by omega) with h0 | h0 | h0 | h0
  · have hal : giveM C T f = (gdS T.ql, { T with e := epI (f (1, 0, 0)), gpc := 1 }, f) := by unfold giveM; rw [if_pos h0]
    rw [hal]
    rw [h0] at hE
    refine (step_gy (S := SP C X V T f G qc n) 0 _ hE rfl (check_g (S := SP C X V T f G qc n) _ rfl hE)).mono ?_
    rintro o w1 ⟨rfl, nx, hnx, hE1⟩
    refine ⟨rfl, G, _, n, nx, by omega, fun h => hnx ?_, hE1⟩
    intro hq0
    have hq1 : T.ql = [] := hq0
    have h' : gdS T.ql = 0 := h
    rw [hq1] at h'
    exact absurd h' (by decide)
  · have hal : giveM C T f = (poolG (f (2, 0, 0)) C.l, { T with gh := f (2, 0, 0), gpc := 2 }, f) := by unfold giveM; rw [if_neg (by omega), if_pos h0]
    rw [hal]
    rw [h0] at hE
    refine (step_gy (S := SP C X V T f G qc n) 1 _ hE rfl (loadPool_g (S := SP C X V T f G qc n) _ rfl hg hE)).mono ?_
    rintro o w1 ⟨rfl, nx, hnx, hE1⟩
    exact ⟨rfl, G, _, n, nx, by omega, hnx, hE1⟩
  · obtain ⟨x, y, t, hql, hx⟩ := hq (by omega)
    have hal : giveM C T f = (0, { T with gpc := 3 }, upd f (5, x, 2) (wordI false (slotI T.gh) 0)) := by unfold giveM; rw [if_neg (by omega), if_neg (by omega), if_pos h0, hql]; rfl
    rw [hal]
    rw [h0] at hE
    refine (step_gy (S := SP C X V T f G qc n) 2 _ hE rfl (storeChain_g (S := SP C X V T f G qc n) x y t hql hx hgh hg hn hE)).mono ?_
    rintro o w1 ⟨rfl, G', hE1⟩
    exact ⟨rfl, G', _, n + 1, _, Nat.le_refl _, fun _ => rfl, hE1⟩
  · obtain ⟨x, y, t, hql, hx⟩ := hq (by omega)
    rw [h0] at hE
    by_cases hx2 : f (2, 0, 0) = T.gh
    · have hal : giveM C T f = (gdS t, { T with ql := t, gg := wrap64 (T.gg + 1), gpc := 1 }, swf f (2, 0, 0) T.gh (nextW T.gh x)) := by unfold giveM; rw [if_neg (by omega), if_neg (by omega), if_neg (by omega), if_pos hx2, hql]; rfl
      rw [hal]
      refine (step_gy (S := SP C X V T f G qc n) 3 _ hE rfl (putYes_g (S := SP C X V T f G qc n) x y t hql hx2 hgh hg hn hE)).mono ?_
      rintro o w1 ⟨rfl, nx, G', hnx, hE1⟩
      refine ⟨rfl, G', _, n + 1, nx, Nat.le_refl _, fun h => hnx ?_, hE1⟩
      intro hq0
      have h' : gdS t = 0 := h
      rw [hq0] at h'
      exact absurd h' (by decide)
    · have hal : giveM C T f = (0, { T with gpc := 1 }, swf f (2, 0, 0) T.gh (nextW T.gh x)) := by unfold giveM; rw [if_neg (by omega), if_neg (by omega), if_neg (by omega), if_neg hx2, hql]; rfl
      rw [hal]
      refine (step_gy (S := SP C X V T f G qc n) 3 _ hE rfl (putNo_g (S := SP C X V T f G qc n) x y t hql hx2 hgh hg hn hE)).mono ?_
      rintro o w1 ⟨rfl, G', hE1⟩
      exact ⟨rfl, G', _, n + 1, _, Nat.le_refl _, fun _ => rfl, hE1⟩
set_option maxHeartbeats 1600000 in
theorem geR (hl : T.ql.length + 1 ≤ 1000000) (hgh : InU T.gh) (hfu : ∀ x, InU (getL ml x)) (hpc : T.gpc ≤ 3) (hq : 2 ≤ T.gpc → ∃ x y t, T.ql = (x, y, 0) :: t ∧ 0 ≤ x ∧ x ≤ 8388607) (hv : T.gpc = 3 → verI T.gh < 1099511627775) (hml : ml.length ≤ 999999) (hN : 0 ≤ X.N ∧ X.N ≤ 4000000) (hE : Env w0 (boxI b (rgv (T.gpc : Int) T.gh T.gg) :: LU (SR C X V T FU ml) R) w) :
    Calls Tryz.prog 45 #[.pointer (some ⟨b, 0, none⟩), .pointer (some ⟨X.u, 0, none⟩), .pointer (some ⟨V.m, 0, none⟩)] w fun o w' => o = .returned (.int .i64 (giveM C T (getL ml)).1) ∧ ∃ (A' : Option Addr) (rc' : Nat) (FU' : Nat → Prop) (ml' : List OneR) (pc' : Int), getL ml' = (giveM C T (getL ml)).2.2 ∧ ml'.length ≤ ml.length + 1 ∧ ((giveM C T (getL ml)).1 = 0 → pc' = ((giveM C T (getL ml)).2.1.gpc : Int)) ∧ Env w0 (boxI b (rgv pc' (giveM C T (getL ml)).2.1.gh (giveM C T (getL ml)).2.1.gg) :: LU (SR C { X with A := A', rc := rc' } V (giveM C T (getL ml)).2.1 FU' ml') R) w' := by
  rcases (show T.gpc = 0 ∨ T.gpc = 1 ∨ T.gpc = 2 ∨ T.gpc = 3 by omega) with h0 | h0 | h0 | h0
  · have hal : giveM C T (getL ml) = (gdS T.ql, { T with e := epI (getL ml (1, 0, 0)), gpc := 1 }, getL ml) := by unfold giveM; rw [if_pos h0]
    rw [hal]
    rw [h0] at hE
    refine (rgive0 (U := SR C X V T FU ml) _ rfl (hfu _) (by show ml.length ≤ 1000000; omega) hE).mono ?_
    rintro o w1 ⟨rfl, hE1⟩
    exact ⟨rfl, X.A, X.rc, FU, ml, 1, rfl, by omega, fun _ => rfl, hE1⟩
  · have hal : giveM C T (getL ml) = (poolG (getL ml (2, 0, 0)) C.l, { T with gh := getL ml (2, 0, 0), gpc := 2 }, getL ml) := by unfold giveM; rw [if_neg (by omega), if_pos h0]
    rw [hal]
    rw [h0] at hE
    refine (rgive1 (U := SR C X V T FU ml) _ rfl (hfu _) (by show ml.length ≤ 1000000; omega) hE).mono ?_
    rintro o w1 ⟨rfl, pc', hpc', hE1⟩
    exact ⟨rfl, X.A, X.rc, FU, ml, pc', rfl, by omega, hpc', hE1⟩
  · obtain ⟨x, y, t, hql, hx⟩ := hq (by omega)
    have hal : giveM C T (getL ml) = (0, { T with gpc := 3 }, upd (getL ml) (5, x, 2) (wordI false (slotI T.gh) 0)) := by unfold giveM; rw [if_neg (by omega), if_neg (by omega), if_pos h0, hql]; rfl
    rw [hal]
    rw [h0] at hE
    refine (rgive2 (U := SR C X V T FU ml) x y t hql hgh (by show ml.length ≤ 1000000; omega) hE).mono ?_
    rintro o w1 ⟨rfl, F5, hE1⟩
    exact ⟨rfl, X.A, X.rc, F5, _, 3, getL_set _ _ _, setL_length _ _ _, fun _ => rfl, hE1⟩
  · obtain ⟨x, y, t, hql, hx⟩ := hq (by omega)
    have hnx := nextW_word hx (hv h0)
    rw [h0] at hE
    by_cases hx2 : getL ml (2, 0, 0) = T.gh
    · have hal : giveM C T (getL ml) = (gdS t, { T with ql := t, gg := wrap64 (T.gg + 1), gpc := 1 }, swf (getL ml) (2, 0, 0) T.gh (nextW T.gh x)) := by unfold giveM; rw [if_neg (by omega), if_neg (by omega), if_neg (by omega), if_pos hx2, hql]; rfl
      rw [hal, hnx]
      rw [hql] at hl
      refine (rgive3Yes (U := SR C X V T FU ml) x y t hql hx2 (by simp at hl; omega) hgh (by show ml.length ≤ 1000000; omega) hE).mono ?_
      rintro o w1 ⟨rfl, F5, A', c', hE1⟩
      exact ⟨rfl, A', c', F5, _, 1, (swf_getL _ _ _ _).symm, swL_length _ _ _ _, fun _ => rfl, hE1⟩
    · have hal : giveM C T (getL ml) = (0, { T with gpc := 1 }, swf (getL ml) (2, 0, 0) T.gh (nextW T.gh x)) := by unfold giveM; rw [if_neg (by omega), if_neg (by omega), if_neg (by omega), if_neg hx2, hql]; rfl
      rw [hal, hnx]
      refine (rgive3No (U := SR C X V T FU ml) x y t hql hx2 hgh (by show ml.length ≤ 1000000; omega) hE).mono ?_
      rintro o w1 ⟨rfl, F5, hE1⟩
      exact ⟨rfl, X.A, X.rc, F5, _, 1, (swf_getL _ _ _ _).symm, swL_length _ _ _ _, fun _ => rfl, hE1⟩
end
end Go.Proofs.YtmifdkbpbkafjaaGreatDoor

/- Threads: the contract of step, where a Retire goes on. -/
namespace Go.Proofs.YtmifdkbpbkafjaaGreatDoor
open Go.RowKit Go.Maps
set_option maxRecDepth 100000

theorem retireM_keep (T : Th) (f : Mem) : (retireM T f).2.1.nd = T.nd ∧ (retireM T f).2.1.done = T.done ∧ ((retireM T f).1 = 0 ∨ (retireM T f).1 = 1) := by
  unfold retireM
  split
  · exact ⟨rfl, rfl, .inl rfl⟩
  · exact ⟨rfl, rfl, .inr rfl⟩

section
variable {w0 w : World} {R : List Item} {C : Cf} {d : Dd} {X : Tm} {V : Wm} {T : Th} {G FU : Nat → Prop} {qc : Cnt} {ml : List OneR} {n a b : Nat}
set_option maxHeartbeats 6400000 in
theorem step3_t (hpc : T.pc = 3) (hpr : X.pr = .pointer (some ⟨a, 0, none⟩)) (hpq : X.pq = .pointer (some ⟨b, 0, none⟩))
    (hn : n < maxLen) (hl : T.ql.length + 1 ≤ 1000000) (he : InU T.re) (hs : In64 T.rs) (hre : T.rpc ≠ 0 → epI T.re = T.re) (hrp : T.rpc = 0 ∨ T.rpc = 1) (hml : ml.length ≤ 999999) (hN : 0 ≤ X.N ∧ X.N ≤ 4000000)
    (hE : Env w0 (LT (SP C X V T (getL ml) G qc n) (LU (SR C X V T FU ml) (boxI X.thr (thv X T) :: boxI a (rtv X.c (nxR a T.rpc) T.rs T.re) :: boxI b (rrv T.rs (T.rpc : Int) T.re) :: R))) w) :
    Calls Tryz.prog 14 #[.pointer (some ⟨X.thr, 0, none⟩), .pointer (some ⟨V.p, 0, none⟩), .pointer (some ⟨V.m, 0, none⟩)] w fun o w' => o = .returned (.bool true) ∧ ∃ (X' : Tm) (G' FU' : Nat → Prop) (qc' : Cnt) (n' : Nat) (ml' : List OneR) (ms' : List Item), Same X X' ∧ getL ml' = (actM C d T (getL ml)).2 ∧ ml'.length ≤ ml.length + 1 ∧ n' ≤ n + 1 ∧ 0 ≤ X'.N ∧ X'.N ≤ 4000000 ∧ Mach C d X' (actM C d T (getL ml)).1 ms' ∧ Env w0 (LT (SP C X' V (actM C d T (getL ml)).1 (getL ml') G' qc' n') (LU (SR C X' V (actM C d T (getL ml)).1 FU' ml') (boxI X'.thr (thv X' (actM C d T (getL ml)).1) :: (ms' ++ R)))) w' := by
  obtain ⟨hk1, hk2, hst⟩ := retireM_keep T (getL ml)
  have hact : actM C d T (getL ml) = ({ (retireM T (getL ml)).2.1 with pc := if (retireM T (getL ml)).1 = 0 then 3 else 0, full := false }, (retireM T (getL ml)).2.2) := by
    unfold actM
    rw [if_neg (by omega), if_neg (by omega), if_pos hpc]
  rw [hact]
  clear hact
  have hthv : thv X T = [Value.pointer (some ⟨X.c, 0, none⟩), .pointer (some ⟨X.u, 0, none⟩), .slice X.dA X.dn X.dc, .int .i64 T.nd, .int .i64 3, X.pa, X.pb, .pointer (some ⟨a, 0, none⟩), .pointer (some ⟨b, 0, none⟩), X.pg, X.ph, .int .i64 T.done, .bool T.full] := by
    unfold thv
    rw [hpr, hpq, hpc]
    rfl
  rw [hthv] at hE
  have r7 := hE.rule 7 rfl
  have f12 := hE.thaw 7 rfl 12 (by simp)
  have hE1 := hE.put 7 rfl (j := 12) (by simp) (.bool false)
  have hA : Env w0 (boxI a (rtv X.c (nxR a T.rpc) T.rs T.re) :: LT (SP C X V T (getL ml) G qc n) (LU (SR C X V T FU ml) (boxI X.thr [Value.pointer (some ⟨X.c, 0, none⟩), .pointer (some ⟨X.u, 0, none⟩), .slice X.dA X.dn X.dc, .int .i64 T.nd, .int .i64 3, X.pa, X.pb, .pointer (some ⟨a, 0, none⟩), .pointer (some ⟨b, 0, none⟩), X.pg, X.ph, .int .i64 T.done, .bool false] :: boxI b (rrv T.rs (T.rpc : Int) T.re) :: R))) (w.setCell ⟨X.thr, 12, none⟩ (.bool false)) := hE1.perm (perm_of fun z => by
      simp only [LT, LU, SP, SR, List.count_append, List.count_cons, List.set_cons_succ, List.set_cons_zero]
      omega)
  have r7b : ∀ j, (w.setCell ⟨X.thr, 12, none⟩ (.bool false)).cell? ⟨X.thr, j, none⟩ = [Value.pointer (some ⟨X.c, 0, none⟩), .pointer (some ⟨X.u, 0, none⟩), .slice X.dA X.dn X.dc, .int .i64 T.nd, .int .i64 3, X.pa, X.pb, .pointer (some ⟨a, 0, none⟩), .pointer (some ⟨b, 0, none⟩), X.pg, X.ph, .int .i64 T.done, .bool false][j]? := hE1.rule 7 rfl
  have hP := reP hn hl he hs hA
  have har := fun (v : World) (L : List Item) => reR (C := C) (w0 := w0) (w := v) (R := L) (b := b) (FU := FU) (X := X) (V := V) hl he hre hrp hml hN
  obtain ⟨⟨st, T', f'⟩, hr⟩ : ∃ r, retireM T (getL ml) = r := ⟨_, rfl⟩
  rw [hr] at hP hst hk1 hk2 ⊢
  simp only [hr] at har
  have HP := Lib.hid hP
  have HAR := Lib.hid har
  dsimp only at hst hk1 hk2 ⊢
  have HKP := Lib.hid (And.intro hk1 hk2)
  clear har hr hP hA hE hE1 hl he hs hre hrp hml hN hk1 hk2
  refine gen_post fun PP HPP => ?_
  go_enter Tryz.func14, Tryz.ntmps14
  go_wp2_with fail
  refine HP.out.mono ?_
  rintro o w1 ⟨rfl, F', k', G', qc', n', hn', hcase⟩
  clear HP r7 r7b f12
  obtain ⟨X1, hX1⟩ : ∃ X1 : Tm, X1 = { X with F := F', kq := k' } := ⟨_, rfl⟩
  obtain ⟨L, hL, hmem, hfin⟩ : ∃ L, Env w0 (boxI b (rrv T.rs (T.rpc : Int) T.re) :: LU (SR C X V T FU ml) L) w1 ∧ boxI X.thr [Value.pointer (some ⟨X.c, 0, none⟩), .pointer (some ⟨X.u, 0, none⟩), .slice X.dA X.dn X.dc, .int .i64 T.nd, .int .i64 3, X.pa, X.pb, .pointer (some ⟨a, 0, none⟩), .pointer (some ⟨b, 0, none⟩), X.pg, X.ph, .int .i64 T.done, .bool false] ∈ L ∧ ((st = 0 ∧ L = boxI a (rtv X.c (nxR a T'.rpc) T'.rs T'.re) :: LT (SP C X1 V T' f' G' qc' n') (boxI X.thr [Value.pointer (some ⟨X.c, 0, none⟩), .pointer (some ⟨X.u, 0, none⟩), .slice X.dA X.dn X.dc, .int .i64 T.nd, .int .i64 3, X.pa, X.pb, .pointer (some ⟨a, 0, none⟩), .pointer (some ⟨b, 0, none⟩), X.pg, X.ph, .int .i64 T.done, .bool false] :: R)) ∨ (st ≠ 0 ∧ L = LT (SP C X1 V T' f' G' qc' n') (boxI X.thr [Value.pointer (some ⟨X.c, 0, none⟩), .pointer (some ⟨X.u, 0, none⟩), .slice X.dA X.dn X.dc, .int .i64 T.nd, .int .i64 3, X.pa, X.pb, .pointer (some ⟨a, 0, none⟩), .pointer (some ⟨b, 0, none⟩), X.pg, X.ph, .int .i64 T.done, .bool false] :: R))) := by
    subst hX1
    rcases hcase with ⟨h0, hE1⟩ | ⟨h0, hE1⟩
    · refine ⟨_, hE1.perm (perm_of fun z => by
        simp only [LT, LU, List.count_append, List.count_cons]
        omega), by simp [LT], .inl ⟨h0, rfl⟩⟩
    · refine ⟨_, hE1.perm (perm_of fun z => by
        simp only [LT, LU, List.count_append, List.count_cons]
        omega), by simp [LT], .inr ⟨h0, rfl⟩⟩
  have HFIN := Lib.hid hfin
  have HMEM := Lib.hid hmem
  clear hfin hmem hcase
  have r7 : ∀ j, w1.cell? ⟨X.thr, j, none⟩ = [Value.pointer (some ⟨X.c, 0, none⟩), .pointer (some ⟨X.u, 0, none⟩), .slice X.dA X.dn X.dc, .int .i64 T.nd, .int .i64 3, X.pa, X.pb, .pointer (some ⟨a, 0, none⟩), .pointer (some ⟨b, 0, none⟩), X.pg, X.ph, .int .i64 T.done, .bool false][j]? := Blk.rule (hL.mem (List.mem_append_right [_, _, _, _] HMEM.out))
  go_wp2_with fail
  clear r7
  refine Ord.wp_chain [10] (fun v => Blk 0 v X.thr [Value.pointer (some ⟨X.c, 0, none⟩), .pointer (some ⟨X.u, 0, none⟩), .slice X.dA X.dn X.dc, .int .i64 T.nd, .int .i64 3, X.pa, X.pb, .pointer (some ⟨a, 0, none⟩), .pointer (some ⟨b, 0, none⟩), X.pg, X.ph, .int .i64 T.done, .bool false]) (fun k v => if k = 0 then Env w0 (boxI b (rrv T.rs (T.rpc : Int) T.re) :: LU (SR C X V T FU ml) L) v else ∃ A' rc' N' FU' ml', getL ml' = f' ∧ ml'.length ≤ ml.length + 1 ∧ 0 ≤ N' ∧ N' ≤ 4000000 ∧ ((st = 0 ∧ Env w0 (boxI b (rrv T'.rs (T'.rpc : Int) T'.re) :: LU (SR C { X with A := A', rc := rc', N := N' } V T' FU' ml') L) v) ∨ (st ≠ 0 ∧ Env w0 (LU (SR C { X with A := A', rc := rc', N := N' } V T' FU' ml') L) v))) (by kernel_rfl) (by kernel_rfl) (by kernel_rfl) (hL.drew.mem (List.mem_append_right [_, _, _, _] HMEM.out)) (by rw [if_pos rfl]; exact hL.drew) (fun hT => ?_)
  have hT9 := Lib.hid hT
  clear hT
  repeat (first
    | (refine Ord.ch_value (v := ?_) hT9.out (by decide) (by rfl) ?_ ?_; rotate_left; (focus (intro w5 hS; have r := Blk.rule hS; go_simp <;> with_reducible rfl)); (try simp only [Act.put, List.setIfInBounds_toArray, List.set_cons_zero, List.set_cons_succ]))
    | (refine Ord.ch_off hT9.out (by decide) (by rfl) ?_; (try simp only [Act.put, List.setIfInBounds_toArray, List.set_cons_zero, List.set_cons_succ])))
  refine Ord.ch_turn (v := .int .i64 st) 0 hT9.out rfl (by decide) (Or.inl rfl) (by rfl) ?_ ?_
  · rintro w5 hC5 hA5
    rw [if_pos rfl] at hA5
    go_simp
    simp only [Ord.LandsIn]
    refine (HAR.out w5 L hA5).mono ?_
    rintro e w6 ⟨rfl, A', rc', N', FU', ml', h1, h2, h3, h4, h5⟩
    refine ⟨rfl, ?_, ?_⟩
    · rcases h5 with ⟨-, h5⟩ | ⟨-, h5⟩
      · exact h5.mem (List.mem_append_right [_, _, _, _] HMEM.out)
      · exact h5.mem (List.mem_append_right [_, _, _] HMEM.out)
    · exact ⟨A', rc', N', FU', ml', h1, h2, h3, h4, h5⟩
  (try simp only [Act.put, List.setIfInBounds_toArray, List.set_cons_zero, List.set_cons_succ])
  repeat (first
    | (refine Ord.ch_value (v := ?_) hT9.out (by decide) (by rfl) ?_ ?_; rotate_left; (focus (intro w5 hS; skip; go_simp <;> with_reducible rfl)); (try simp only [Act.put, List.setIfInBounds_toArray, List.set_cons_zero, List.set_cons_succ]))
    | (refine Ord.ch_off hT9.out (by decide) (by rfl) ?_; (try simp only [Act.put, List.setIfInBounds_toArray, List.set_cons_zero, List.set_cons_succ])))
  refine Ord.InText.nil fun w5 hS => ?_
  clear hT9
  obtain ⟨hC9, hA9⟩ := Ord.chain_end hS
  clear hS
  rw [if_neg (by decide)] at hA9
  obtain ⟨A', rc', N', FU', ml', h1, h2, h3, h4, h5⟩ := hA9
  have HH := Lib.hid (And.intro h1 (And.intro h2 (And.intro h3 h4)))
  have H5 := Lib.hid h5
  clear h1 h2 h3 h4 h5 hC9 hL
  rcases hst with hst | hst
  · obtain ⟨h1, h2, h3, h4⟩ := HH.out
    have HS := Lib.hid hst
    have b0 : (st != 0) = false := by rw [hst]; decide
    clear hst
    rcases HFIN.out with ⟨-, hLe⟩ | ⟨h0, -⟩
    rotate_left
    · exact absurd HS.out h0
    rcases H5.out with ⟨-, hE5⟩ | ⟨h0, -⟩
    rotate_left
    · exact absurd HS.out h0
    subst hLe
    subst hX1
    have hF : Env w0 (LT (SP C ({ X with F := F', kq := k', A := A', rc := rc', N := N' } : Tm) V T' f' G' qc' n') (LU (SR C ({ X with F := F', kq := k', A := A', rc := rc', N := N' } : Tm) V T' FU' ml') (boxI X.thr [Value.pointer (some ⟨X.c, 0, none⟩), .pointer (some ⟨X.u, 0, none⟩), .slice X.dA X.dn X.dc, .int .i64 T.nd, .int .i64 3, X.pa, X.pb, .pointer (some ⟨a, 0, none⟩), .pointer (some ⟨b, 0, none⟩), X.pg, X.ph, .int .i64 T.done, .bool false] :: boxI a (rtv X.c (nxR a T'.rpc) T'.rs T'.re) :: boxI b (rrv T'.rs (T'.rpc : Int) T'.re) :: R))) w5 := hE5.perm (perm_of fun z => by
      simp only [LT, LU, SP, SR, List.count_append, List.count_cons, List.set_cons_succ, List.set_cons_zero]
      omega)
    have HPF := Lib.hid hF
    have HT9 : Hid (thv ({ X with F := F', kq := k', A := A', rc := rc', N := N' } : Tm) ({ T' with pc := 3, full := false } : Th) = [Value.pointer (some ⟨X.c, 0, none⟩), .pointer (some ⟨X.u, 0, none⟩), .slice X.dA X.dn X.dc, .int .i64 T.nd, .int .i64 3, X.pa, X.pb, .pointer (some ⟨a, 0, none⟩), .pointer (some ⟨b, 0, none⟩), X.pg, X.ph, .int .i64 T.done, .bool false]) := Lib.hid (by
      unfold thv
      dsimp only
      rw [hpr, hpq, HKP.out.1, HKP.out.2]
      rfl)
    clear hE5 hF HFIN HMEM H5
    go_wp2_with fail
    (try go_ret)
    have hs9 := HS.out
    clear HS b0
    subst hs9
    refine HPP.out _ _ ?_
    have hr1 : ({ T' with pc := if (0 : Int) = 0 then 3 else 0, full := false } : Th) = ({ T' with pc := 3, full := false } : Th) := rfl
    rw [hr1]
    refine ⟨rfl, ({ X with F := F', kq := k', A := A', rc := rc', N := N' } : Tm), G', FU', qc', n', ml', [boxI a (rtv X.c (nxR a T'.rpc) T'.rs T'.re), boxI b (rrv T'.rs (T'.rpc : Int) T'.re)], ⟨rfl, rfl, rfl, rfl, rfl, rfl, rfl⟩, h1, h2, hn', h3, h4, (by unfold Mach; rw [if_neg (show ¬ (3 : Nat) = 2 by decide), if_pos rfl]; exact ⟨a, b, hpr, hpq, rfl⟩), ?_⟩
    rw [HT9.out, h1]
    exact HPF.out
  · obtain ⟨h1, h2, h3, h4⟩ := HH.out
    have HS := Lib.hid hst
    have b0 : (st != 0) = true := by rw [hst]; decide
    clear hst
    rcases HFIN.out with ⟨h0, -⟩ | ⟨-, hLe⟩
    · exact absurd (HS.out.symm.trans h0) (by decide)
    rcases H5.out with ⟨h0, -⟩ | ⟨-, hE5⟩
    · exact absurd (HS.out.symm.trans h0) (by decide)
    subst hLe
    subst hX1
    have hF : Env w0 (LT (SP C ({ X with F := F', kq := k', A := A', rc := rc', N := N' } : Tm) V T' f' G' qc' n') (LU (SR C ({ X with F := F', kq := k', A := A', rc := rc', N := N' } : Tm) V T' FU' ml') (boxI X.thr [Value.pointer (some ⟨X.c, 0, none⟩), .pointer (some ⟨X.u, 0, none⟩), .slice X.dA X.dn X.dc, .int .i64 T.nd, .int .i64 3, X.pa, X.pb, .pointer (some ⟨a, 0, none⟩), .pointer (some ⟨b, 0, none⟩), X.pg, X.ph, .int .i64 T.done, .bool false] :: R))) w5 := hE5.perm (perm_of fun z => by
      simp only [LT, LU, SP, SR, List.count_append, List.count_cons, List.set_cons_succ, List.set_cons_zero]
      omega)
    have q0 := hF.rule 7 rfl
    have g0 := hF.thaw 7 rfl 4 (by simp)
    have HPF := Lib.hid (hF.put 7 rfl (j := 4) (by simp) (Value.int .i64 0))
    have HT9 : Hid (thv ({ X with F := F', kq := k', A := A', rc := rc', N := N' } : Tm) ({ T' with pc := 0, full := false } : Th) = [Value.pointer (some ⟨X.c, 0, none⟩), .pointer (some ⟨X.u, 0, none⟩), .slice X.dA X.dn X.dc, .int .i64 T.nd, .int .i64 0, X.pa, X.pb, .pointer (some ⟨a, 0, none⟩), .pointer (some ⟨b, 0, none⟩), X.pg, X.ph, .int .i64 T.done, .bool false]) := Lib.hid (by
      unfold thv
      dsimp only
      rw [hpr, hpq, HKP.out.1, HKP.out.2]
      rfl)
    clear hE5 hF HFIN HMEM H5
    go_wp2_with fail
    (try go_ret)
    have hs9 := HS.out
    clear HS b0
    subst hs9
    refine HPP.out _ _ ?_
    have hr1 : ({ T' with pc := if (1 : Int) = 0 then 3 else 0, full := false } : Th) = ({ T' with pc := 0, full := false } : Th) := rfl
    rw [hr1]
    refine ⟨rfl, ({ X with F := F', kq := k', A := A', rc := rc', N := N' } : Tm), G', FU', qc', n', ml', [], ⟨rfl, rfl, rfl, rfl, rfl, rfl, rfl⟩, h1, h2, hn', h3, h4, (by unfold Mach; rw [if_neg (show ¬ (0 : Nat) = 2 by decide), if_neg (show ¬ (0 : Nat) = 3 by decide), if_neg (show ¬ (0 : Nat) = 4 by decide)]), ?_⟩
    rw [HT9.out, h1]
    exact HPF.out
end
end Go.Proofs.YtmifdkbpbkafjaaGreatDoor
