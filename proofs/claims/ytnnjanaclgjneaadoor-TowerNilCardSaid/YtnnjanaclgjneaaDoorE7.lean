/- TowerNil: of nothing there is nothing, and no access; of a structure that is no skip list no Find is made: so the law answers true, for every structure, key and level, where package link's three variables hold what the program's text lays in them (tied). -/
import Derived.Test.YtnnjanaclgjneaaDoorE6
import Derived.Defers
import Derived.Recover
import Derived.LoopIn
import Derived.Test.YtnnjanaclgjneaaDoorTie
import Derived.LaidMore
import Derived.Stop.Joined
import Derived.Test.YtnnjanaclgjneaaDoorCards
import Derived.SevenTiedAt

/- The plain world: it starts; it is awake. -/
namespace Go.Proofs.YtnnjanaclgjneaaDoor
open Go.RowKit Go.Maps
set_option maxRecDepth 100000

/-- The deferred recover, where nothing panicked. -/
theorem caught_none (w : World) : CallsD Tryd.prog 34 #[] .returning w fun e u' w' => u' = .returning ∧ e = .returned (.tuple #[]) ∧ w' = w := by
  refine callsD_of_wpS Tryd.func34 rfl fun c₀ cs hu => ?_
  apply wpS_region
  cases c₀
  simp_all [wpOpsS, go_sem, recoverD, Tryd.ntmps34, Exit.thenS, bodyPostS, results, Tryd.results34]

theorem method_store (k p : Nat) (w : World) : (method (k + 1) 26 (.pointer (some ⟨p, 0, none⟩)) "Store").run Tryd.prog w = .ok (104, .pointer (some ⟨p, 0, none⟩)) w := by kernel_rfl

section
variable {w0 w : World} {L : List Item} {p c n : Nat} {F : Nat → Prop} {f : Plc → Int} {q : Cnt}
set_option maxHeartbeats 1600000 in
theorem start_w (i j : Nat) (hij : j ≠ i) (hn : n < maxLen) (hE : Env w0 L w) (hi : L[i]? = some (wbox p c)) (hj : L[j]? = some (cellI c F f q n)) :
    Calls Tryd.prog 16 #[.iface 26 (.pointer (some ⟨p, 0, none⟩))] w fun e w' => e = .returned (.tuple #[]) ∧ ∃ F', Env w0 (L.set j (cellI c F' (upd f (1, 0, 0) 1) { q with s := wrap64 (q.s + 1) } (n + 1))) w' := by
  have hmf : ∀ (fn : Fn) (first cap : Array Value) (w : World), (Instr.makeFunc fn first cap).run Tryd.prog w = .ok (.func fn first cap) w := fun _ _ _ _ => rfl
  go_enter_defers Tryd.func16, Tryd.ntmps16
  go_wp2_with fail
  refine Ord.wp_chain [6] (fun _ => True) (fun k w' => ∃ F', Env w0 (if k = 0 then L else L.set j (cellI c F' (upd f (1, 0, 0) 1) { q with s := wrap64 (q.s + 1) } (n + 1))) w') (by kernel_rfl) (by kernel_rfl) (by kernel_rfl) trivial ⟨F, hE.drew⟩ (fun hT => ?_)
  have hT9 := Lib.hid hT
  clear hT
  repeat (first
    | (refine Ord.ch_value (v := ?_) hT9.out (by decide) (by rfl) ?_ ?_; rotate_left; (focus (intro w5 hS; skip; go_simp <;> with_reducible rfl)); (try simp only [Act.put, List.setIfInBounds_toArray, List.set_cons_zero, List.set_cons_succ]))
    | (refine Ord.ch_off hT9.out (by decide) (by rfl) ?_; (try simp only [Act.put, List.setIfInBounds_toArray, List.set_cons_zero, List.set_cons_succ]))
    | (refine Ord.ch_call (v := ?_) (f := ?_) (args := ?_) hT9.out (by decide) (by rfl) ?_ ?_ ?_; rotate_left 3; (focus (intro w5 hS; skip; go_simp; constructor <;> with_reducible rfl)); (focus (intro w5 hS; (first | (with_reducible refine (epoch_any _).mono ?_; rintro e w6 ⟨rfl, hb6⟩; constructor; with_reducible rfl; exact ⟨trivial, fun k h => h.elim fun F' h => ⟨F', h.over hb6⟩⟩)))); (try simp only [Act.put, List.setIfInBounds_toArray, List.set_cons_zero, List.set_cons_succ])))
  refine Ord.ch_turn (v := .tuple #[]) 0 hT9.out rfl (by decide) (Or.inl rfl) (by rfl) ?_ ?_
  · rintro w5 hC5 ⟨F5, hA5⟩
    simp only [if_true] at hA5
    go_simp
    rw [method_store]
    simp only [Result.andThen_ok]
    go_simp
    simp only [Ord.LandsIn]
    refine (store_w 1 0 0 0 1 0 false (by unfold Wf In64; simp) (by unfold InU; simp) hn i j hij hA5 hi hj).mono ?_
    rintro e w6 ⟨rfl, F6, hE6⟩
    exact ⟨rfl, F6, hE6⟩
  (try simp only [Act.put, List.setIfInBounds_toArray, List.set_cons_zero, List.set_cons_succ])
  repeat (first
    | (refine Ord.ch_value (v := ?_) hT9.out (by decide) (by rfl) ?_ ?_; rotate_left; (focus (intro w5 hS; skip; go_simp <;> with_reducible rfl)); (try simp only [Act.put, List.setIfInBounds_toArray, List.set_cons_zero, List.set_cons_succ]))
    | (refine Ord.ch_off hT9.out (by decide) (by rfl) ?_; (try simp only [Act.put, List.setIfInBounds_toArray, List.set_cons_zero, List.set_cons_succ])))
  refine Ord.InText.nil fun w5 hS => ?_
  clear hT9
  obtain ⟨hC9, hA9⟩ := Ord.chain_end hS
  clear hS
  obtain ⟨F9, hA9⟩ := hA9
  simp only [List.length_cons, List.length_nil, Nat.zero_add, Nat.one_ne_zero, if_false] at hA9
  go_wp2
  refine leaves_cons (f := 34) (args := #[]) (by simp) (by simp [go_sem]) ?_
  refine (caught_none _).mono ?_
  rintro e u' w'' ⟨rfl, rfl, rfl⟩
  exact ⟨_, results_none rfl _ _ _, rfl, F9, hA9⟩
end
theorem start_nil (w : World) : Calls Tryd.prog 16 #[.nilIface] w fun e w' => e = .returned (.tuple #[]) ∧ w' = w := by
  go_enter_defers Tryd.func16, Tryd.ntmps16
  go_wp2
  exact ⟨_, results_none rfl _ _ _, rfl, rfl⟩
end Go.Proofs.YtnnjanaclgjneaaDoor

/- Shared cells: the contracts of the accesses. -/
namespace Go.Proofs.YtnnjanaclgjneaaDoor
open Go.RowKit Go.Maps
set_option maxRecDepth 100000

section
variable {w w' : World} {c n : Nat} {F : Nat → Prop} {f : Plc → Int} {q : Cnt}
end

set_option maxHeartbeats 800000 in
theorem count_any {c n : Nat} {F : Nat → Prop} {f : Plc → Int} {q : Cnt} {w : World} (hC : IsC w c F f q n) :
    Calls Tryd.prog 31 #[.pointer (some ⟨c, 0, none⟩)] w fun e w' => e = .returned (.agg #[.int .i64 q.l, .int .i64 q.s, .int .i64 q.w, .int .i64 q.f, .int .i64 q.a]) ∧ Below w.heap.size w w' := by
  obtain ⟨mp, hb, hm, hF⟩ := hC
  have r1 := cell_more hb.1 hb.rule
  unfold cv at r1
  go_enter Tryd.func31, Tryd.ntmps31
  go_wp2
  refine bodyPost_ret (v := .agg #[.int .i64 q.l, .int .i64 q.s, .int .i64 q.w, .int .i64 q.f, .int .i64 q.a]) (by simp [results, Tryd.results31, go_sem]) rfl ⟨rfl, ?_⟩
  exact (Below.refl _ _).alloc (Nat.le_refl _) _
end Go.Proofs.YtnnjanaclgjneaaDoor

/- The plain world: contracts of its accesses: each is the cells' own, among whatever other things there are. -/
namespace Go.Proofs.YtnnjanaclgjneaaDoor
open Go.RowKit Go.Maps
set_option maxRecDepth 100000

section
variable {w0 w : World} {L : List Item} {p c n : Nat} {F : Nat → Prop} {f : Plc → Int} {q : Cnt}

set_option maxHeartbeats 1600000 in
theorem count_w (i j : Nat) (hE : Env w0 L w) (hi : L[i]? = some (wbox p c)) (hj : L[j]? = some (cellI c F f q n)) :
    Calls Tryd.prog 14 #[.pointer (some ⟨p, 0, none⟩)] w fun e w' => e = .returned (.agg #[.int .i64 q.l, .int .i64 q.s, .int .i64 q.w, .int .i64 q.f, .int .i64 q.a]) ∧ Below w.heap.size w w' := by
  have hb := (Below.refl w.heap.size w).alloc (Nat.le_refl _) (.cells #[.int .i64 0, .int .i64 0, .int .i64 0, .int .i64 0, .int .i64 0] 46)
  replace hE := hE.box w.heap.size rfl [.int .i64 0, .int .i64 0, .int .i64 0, .int .i64 0, .int .i64 0] 46
  go_enter Tryd.func14, Tryd.ntmps14
  go_wp2_with fail
  refine (kept_any (hE.wblk (i + 1) hi)).mono ?_
  rintro e w1 ⟨rfl, rfl⟩
  go_wp2_with fail
  refine (count_any (hE.cell (j + 1) hj)).mono ?_
  rintro e w2 ⟨rfl, hb2⟩
  have hE2 := hE.over hb2
  have f5 := hE2.thaw 0 rfl
  have f0 := f5 0 (by simp)
  have f1 := f5 1 (by simp)
  have f2 := f5 2 (by simp)
  have f3 := f5 3 (by simp)
  have f4 := f5 4 (by simp)
  have r := hE2.rule 0 rfl
  have hB := hb.trans (hb2.mono hb.size)
  clear f5
  go_wp2
  have hP := hE2.put5 0 rfl (.int .i64 q.l) (.int .i64 q.s) (.int .i64 q.w) (.int .i64 q.f) (.int .i64 q.a)
  have q9 := hP.rule 0 rfl
  refine bodyPost_ret (v := .agg #[.int .i64 q.l, .int .i64 q.s, .int .i64 q.w, .int .i64 q.f, .int .i64 q.a]) (by simp [results, Tryd.results14, go_sem, q9]) rfl ⟨rfl, ?_⟩
  exact ((((hB.setCell (Nat.le_refl _) _).setCell (Nat.le_refl _) _).setCell (Nat.le_refl _) _).setCell (Nat.le_refl _) _).setCell (Nat.le_refl _) _
end
end Go.Proofs.YtnnjanaclgjneaaDoor

/- Finds: the program is awake. -/
namespace Go.Proofs.YtnnjanaclgjneaaDoor
open Go.RowKit Go.Maps
set_option maxRecDepth 100000

theorem skip_t (h : Int) (w : World) : Calls Tryd.prog 17 #[.int .i64 h] w fun o w' => o = .returned (.agg #[.int .i64 3, .int .i64 1000, .int .i64 0, .int .i64 h, .int .i64 1073741824]) ∧ Below w.heap.size w w' := by
  go_enter Tryd.func17, Tryd.ntmps17
  go_wp2
  exact bodyPost_ret (v := .agg #[.int .i64 3, .int .i64 1000, .int .i64 0, .int .i64 h, .int .i64 1073741824]) (by simp [results, Tryd.results17, go_sem]) rfl ⟨rfl, (Below.refl _ _).alloc (Nat.le_refl _) _⟩
/-- So many steps of a Find alone. -/
def runD (h : Nat) (key : Int) (f : Plc → Int) : Nat → Int × Fm × (Plc → Int)
  | 0 => (0, F0m 0 0, f)
  | n + 1 => downM h key (runD h key f n).2.1 (runD h key f n).2.2
def f18 : Plc → Int := upd (fun _ => 0) (1, 0, 0) 1
theorem busy18 : ∀ n, n < 5 → (runD 2 5 f18 n).1 = 0 := by decide +kernel
theorem done18 : (runD 2 5 f18 5).1 = 1 := by decide +kernel
theorem fin18 : (runD 2 5 f18 5).2.1.lv = 0 ∧ ((runD 2 5 f18 5).2.1.L 0).fd = false ∧ ((runD 2 5 f18 5).2.1.L 1).p = (4, 0, 1) ∧ ((runD 2 5 f18 5).2.1.L 0).p = (4, 0, 0) := by decide +kernel
theorem FindR.words {w0 w : World} {R : List Item} {fb h : Nat} {S : ST} {key s : Int} {F : Fm} (hR : FindR w0 R fb h key S s F w) : Words S.f := by
  obtain ⟨-, -, ⟨-, -, g, ps, l0, -, hE⟩ | ⟨-, -, g, ps, a, D, b1, b2, nx, -, -, -, -, ny, wd, B1, B2, -, hE⟩⟩ := hR
  · exact (hE.cell 5 rfl).words
  · exact (hE.cell 6 rfl).words
theorem FindR.below {w0 w : World} {R : List Item} {fb h : Nat} {S : ST} {key s : Int} {F : Fm} (hR : FindR w0 R fb h key S s F w) : Below w0.heap.size w0 w := by
  obtain ⟨-, -, ⟨-, -, g, ps, l0, -, hE⟩ | ⟨-, -, g, ps, a, D, b1, b2, nx, -, -, -, -, ny, wd, B1, B2, -, hE⟩⟩ := hR
  · exact hE.below
  · exact hE.below
theorem FindR.start {w0 w : World} {R : List Item} {fb h g : Nat} {B : Bs} {G : Nat → Prop} {f : Plc → Int} {qc : Cnt} {m : Nat} {key : Int} (hE : Env w0 (boxI fb (fdC B.c key (mvL 22 fb) 0 g h 0) :: boxI g (List.replicate h (.pointer none)) :: LT (mk18 B h G f qc m 0 0) R) w) : FindR w0 R fb h key (mk18 B h G f qc m 0 0) 0 (F0m 0 0) w :=
  ⟨rfl, rfl, .inl ⟨rfl, rfl, g, _, 0, List.length_replicate, hE⟩⟩
theorem at_placeF (v : World) (x y z d : Int) : (Instr.field 41 (.agg #[.int .i64 x, .int .i64 y, .int .i64 z, .int .i64 d]) 0).run Tryd.prog v = .ok (.agg #[.int .i64 x, .int .i64 y, .int .i64 z]) v := by kernel_rfl
set_option maxHeartbeats 6400000 in
theorem awake18 (w : World) (hg : Glo w) : Calls Tryd.prog 4 #[] w fun o w' => o = .returned (.bool true) ∧ Below w.heap.size w w' := by
  have hE := Env.start w
  have HG := Lib.hid hg
  have HC := Lib.hid (show chkI 3 1000 0 2 1073741824 = 0 by decide)
  have HC2 := Lib.hid (show chkI 1 1 0 1 2 = 0 by decide)
  clear hg
  go_enter Tryd.func4, Tryd.ntmps4
  go_wp2_with fail
  refine (new_w hE).mono ?_
  rintro o w3 ⟨p, cc, rfl, hE3, hb⟩
  clear hb hE
  go_wp2_with fail
  refine (start_w 0 1 (by decide) (by unfold maxLen; omega) hE3 rfl rfl).mono ?_
  rintro o w4 ⟨rfl, F4, hE4⟩
  simp only [List.set_cons_succ, List.set_cons_zero] at hE4
  clear hE3
  generalize ({ l := _, s := _, w := _, f := _, a := _ } : Cnt) = q4 at hE4
  go_wp2_with fail
  refine (skip_t 2 _).mono ?_
  rintro o w5 ⟨rfl, hb⟩
  replace hE4 := hE4.over hb
  clear hb
  go_wp2_with fail
  refine (newYes_c 3 1000 0 2 1073741824 HC.out hE4).mono ?_
  rintro o w6 ⟨c, q, F, rfl, hE6⟩
  clear hE4
  go_wp2_with fail
  refine (newYes_f (h := 2) 0 5 (by omega) rfl hE6).mono ?_
  rintro o w7 ⟨fb, g, rfl, hE7⟩
  clear hE6
  have hR : FindR w [] fb 2 5 (mk18 ⟨c, q, p, cc, F, 2⟩ 2 F4 f18 q4 (0 + 1) 0 0) 0 (F0m 0 0) w7 := FindR.start hE7
  clear hE7
  go_wp2_with fail
  go_loopw [3, 4] (fun sv nv wr => ∃ (j mm : Nat) (G : Nat → Prop) (qc : Cnt) (s : Int) (T : Fm) (f : Plc → Int), nv = .int .i64 j ∧ sv = .int .i64 s ∧ j ≤ 5 ∧ mm ≤ 20 + j ∧ Hid (runD 2 5 f18 j = (s, T, f)) ∧ Hid (s = 0 → FmOk 2 T) ∧ FindR w [] fb 2 5 (mk18 ⟨c, q, p, cc, F, 2⟩ 2 G f qc mm T.e T.r) s T wr) (fun _ nv _ => 20 - (intOf nv).toNat)
  case atStart => exact ⟨0, 0 + 1, F4, q4, 0, F0m 0 0, f18, rfl, rfl, by omega, by omega, Lib.hid rfl, Lib.hid (fun _ => F0m_ok _ _ _), hR⟩
  case round =>
    clear hR
    obtain ⟨j, mm, G, qc, s, T, f, rfl, rfl, hj, hmm, hrun, hok, hR⟩ := hrel
    by_cases hlt : j < 5
    · have hs : s = 0 := by
        have h1 := busy18 j hlt
        rw [hrun.out] at h1
        exact h1
      subst hs
      have hb1 : decide ((j : Int) < 20) = true := by simp; omega
      have hW : Words f := hR.words
      have hT := hok.out rfl
      have hst := down_k (by omega) (by omega) hT HG.out (by unfold maxLen; omega) hR
      have HNX : Hid (runD 2 5 f18 (j + 1) = downM 2 5 T f) := Lib.hid (by show downM 2 5 (runD 2 5 f18 j).2.1 (runD 2 5 f18 j).2.2 = _; rw [hrun.out])
      have HOK : Hid ((downM 2 5 T f).1 = 0 → FmOk 2 (downM 2 5 T f).2.1) := Lib.hid (down_ok (by omega) (by omega) hT hW.u)
      have HM : Hid (mD T mm ≤ 20 + (j + 1)) := Lib.hid (by have := mD_le T mm; omega)
      generalize downM 2 5 T f = q9 at *
      generalize qcD T f qc = qc9 at *
      generalize mD T mm = mm9 at *
      obtain ⟨s9, T9, f9⟩ := q9
      have HST := Lib.hid hst
      clear hst hR hW hT hok hrun
      go_wp2_with fail
      refine HST.out.mono ?_
      rintro o w8 ⟨rfl, G9, hR9⟩
      go_wp2_with fail
      exact ⟨⟨j + 1, mm9, G9, qc9, s9, T9, f9, by simp, rfl, by omega, HM.out, HNX, HOK, hR9⟩, by simp [intOf]; omega⟩
    · have hj5 : j = 5 := by omega
      subst hj5
      have hs : s = 1 := by
        have h1 := done18
        rw [hrun.out] at h1
        exact h1
      have hfin := fin18
      rw [hrun.out] at hfin
      subst hs
      obtain ⟨h1, h2, h3, h4⟩ := hfin
      obtain ⟨g9, ps, D, nx, hps, hE⟩ := hR.fin h1
      have HF0 : Hid (∀ v, Env w (boxI fb (fdC c 5 nx 1 g9 2 0) :: boxI g9 ps :: (endL c 5 T.L D 2 ++ LT (mk18 ⟨c, q, p, cc, F, 2⟩ 2 G f qc mm T.e T.r) [])) v → Calls Tryd.prog 8 #[.pointer (some ⟨fb, 0, none⟩)] v fun o w' => o = .returned (.bool false) ∧ w' = v) := Lib.hid fun v hv => by
        have h9 := endFound0 (by omega) (by omega) hps hv
        rwa [h2] at h9
      have HA1 : Hid (∀ v, Env w (boxI fb (fdC c 5 nx 1 g9 2 0) :: boxI g9 ps :: (endL c 5 T.L D 2 ++ LT (mk18 ⟨c, q, p, cc, F, 2⟩ 2 G f qc mm T.e T.r) [])) v → Calls Tryd.prog 11 #[.pointer (some ⟨fb, 0, none⟩), .int .i64 1] v fun o w' => o = .returned (.agg #[.int .i64 4, .int .i64 0, .int .i64 1, .int .i64 0]) ∧ Below v.heap.size v w') := Lib.hid fun v hv => by
        have h9 := endAt (by omega) hps hv (l := 1) (by omega)
        rwa [h3] at h9
      have HA0 : Hid (∀ v, Env w (boxI fb (fdC c 5 nx 1 g9 2 0) :: boxI g9 ps :: (endL c 5 T.L D 2 ++ LT (mk18 ⟨c, q, p, cc, F, 2⟩ 2 G f qc mm T.e T.r) [])) v → Calls Tryd.prog 11 #[.pointer (some ⟨fb, 0, none⟩), .int .i64 0] v fun o w' => o = .returned (.agg #[.int .i64 4, .int .i64 0, .int .i64 0, .int .i64 0]) ∧ Below v.heap.size v w') := Lib.hid fun v hv => by
        have h9 := endAt (by omega) hps hv (l := 0) (by omega)
        rwa [h4] at h9
      have HA2 : Hid (∀ v, Env w (boxI fb (fdC c 5 nx 1 g9 2 0) :: boxI g9 ps :: (endL c 5 T.L D 2 ++ LT (mk18 ⟨c, q, p, cc, F, 2⟩ 2 G f qc mm T.e T.r) [])) v → Calls Tryd.prog 11 #[.pointer (some ⟨fb, 0, none⟩), .int .i64 2] v fun o w' => o = .returned (.agg #[.int .i64 0, .int .i64 0, .int .i64 0, .int .i64 0]) ∧ Below v.heap.size v w') := Lib.hid fun v hv => endAtNo 2 (.inr (by omega)) hv
      have hap := at_placeF
      clear hok hrun h1 h2 h3 h4
      obtain ⟨XL, hXL⟩ : ∃ XL, boxI fb (fdC c 5 nx 1 g9 2 0) :: boxI g9 ps :: (endL c 5 T.L D 2 ++ LT (mk18 ⟨c, q, p, cc, F, 2⟩ 2 G f qc mm T.e T.r) []) = XL := ⟨_, rfl⟩
      replace hE : Env w XL wr := by rw [← hXL]; exact hE
      rw [hXL] at HF0 HA1 HA0 HA2
      clear hXL hps
      go_wp2_with (first
        | (with_reducible refine (HF0.out _ hE).mono ?_; rintro o w8 ⟨rfl, rfl⟩)
        | (with_reducible refine (HA1.out _ hE).mono ?_; rintro o w8 ⟨rfl, hb⟩; replace hE := hE.over hb; clear hb)
        | (with_reducible refine (HA0.out _ hE).mono ?_; rintro o w8 ⟨rfl, hb⟩; replace hE := hE.over hb; clear hb)
        | (with_reducible refine (HA2.out _ hE).mono ?_; rintro o w8 ⟨rfl, hb⟩; replace hE := hE.over hb; clear hb)
        | (with_reducible refine (root_any _ _).mono ?_; rintro o w8 ⟨rfl, hb⟩; replace hE := hE.over hb; clear hb))
      refine (newYes_c 1 1 0 1 2 HC2.out hE).mono ?_
      rintro o w9 ⟨c9, q9, F9, rfl, hE9⟩
      go_wp2_with fail
      refine (newNo_f 0 1 1 (by decide) rfl hE9).mono ?_
      rintro o w10 ⟨rfl, hE10⟩
      go_wp2_with fail
      go_ret
      exact ⟨rfl, hE10.below⟩
end Go.Proofs.YtnnjanaclgjneaaDoor

/- What the condition on the package's variables gives: the three fields stand in them; and that the program's own start meets it. -/
namespace Go.Proofs.YtnnjanaclgjneaaDoor
open Go.ChangeShapes Go.WideShapes Go.ChangeAt Go.RowKit
set_option maxRecDepth 100000

section
variable {P : Program} {w : World}
theorem cell_lt {b o : Nat} {v : Value} (h : w.cell? ⟨b, o, none⟩ = some v) : b < w.heap.size := by
  rcases Nat.lt_or_ge b w.heap.size with h' | h'
  · exact h'
  · simp [World.cell?, Array.getElem?_eq_none h'] at h
/-- The head of a list of laid variables: a struct of two ints. -/
theorem laid_pair {n : String} {g : Nat} {t k : TypeId} {f0 f1 : Field} {a b : Int} {r : List (String × DataW Unit)} {ps : List MemPlace}
    (h : DataW.LaidVars P w ((n, .agg [.lit (.int .i64 a), .lit (.int .i64 b)]) :: r) ps) (hg : P.globalNamed n = some g) (ht : (P.globals[g]?).map (·.type) = some t)
    (hs : P.underlying t = some (.struct #[f0, f1])) (hc : P.cellsOf t = 2) (h0 : f0.offset = 0) (h1 : f1.offset = 1) (hk0 : f0.type = k) (hk1 : f1.type = k) (hk : P.cellsOf k = 1) (hi : P.underlying k = some (.int .i64)) :
    w.cell? ⟨g, 0, none⟩ = some (.int .i64 a) ∧ w.cell? ⟨g, 1, none⟩ = some (.int .i64 b) ∧ ∃ q, DataW.LaidVars P w r q := by
  obtain ⟨g', t', cs, fuel, p, q, hg', ht', hv, hd, hr, -⟩ := h
  obtain rfl := Option.some.inj (hg.symm.trans hg')
  obtain rfl := Option.some.inj (ht.symm.trans ht')
  obtain ⟨xs, m, -, hx, hl, hn, hel⟩ := DataW.trod_struct hs hd
  have e0 := hel 0 f0 rfl
  have e1 := hel 1 f1 rfl
  rw [h0, hk0, hk] at e0
  rw [h1, hk1, hk] at e1
  obtain ⟨l⟩ := cs
  rw [hc] at hl
  match l, hl, xs, hn, hx, e0, e1, hv with
  | [c0, c1], _, [x0, x1], _, hx, e0, e1, hv =>
    simp only [Prod.mk.injEq, List.map_cons, List.map_nil, DataW.agg.injEq, List.cons.injEq] at hx
    obtain ⟨n0, s0, y0, -⟩ := DataW.trod_int hi (show DataW.trod _ P w 0 _ false m k [c0] = some x0 from e0)
    obtain ⟨n1, s1, y1, -⟩ := DataW.trod_int hi (show DataW.trod _ P w 0 _ false m k [c1] = some x1 from e1)
    simp at s0 s1
    subst s0 s1
    have k0 := hx.1.1
    have k1 := hx.1.2.1
    rw [y0] at k0
    rw [y1] at k1
    simp at k0 k1
    subst k0 k1
    exact ⟨by rw [World.var?_cell hg hv 0]; rfl, by rw [World.var?_cell hg hv 1]; rfl, q, hr⟩
end

def laid3 : List (String × DataW Unit) := [("revenant/link.versionPart", Rows.laid_revenant_link_versionPart), ("revenant/link.slotPart", Rows.laid_revenant_link_slotPart), ("revenant/link.markPart", Rows.laid_revenant_link_markPart)]

/-- What the condition gives the walks. -/
theorem glo_of_laid {W : World} (h : laidMetH Tryd.prog laid3 W) : Glo W := by
  rw [MakeChecks.laidMetH_plain _ _ _ (by kernel_rfl)] at h
  obtain ⟨ps, h, -, -⟩ := h
  obtain ⟨a0, a1, q1, h⟩ := laid_pair (g := 2) (t := 112) (k := 3) h (by kernel_rfl) (by kernel_rfl) Tryd.underlying112 (by kernel_rfl) rfl rfl rfl rfl (by kernel_rfl) Tryd.underlying3
  obtain ⟨b0, b1, q2, h⟩ := laid_pair (g := 1) (t := 112) (k := 3) h (by kernel_rfl) (by kernel_rfl) Tryd.underlying112 (by kernel_rfl) rfl rfl rfl rfl (by kernel_rfl) Tryd.underlying3
  obtain ⟨c0, c1, q3, h⟩ := laid_pair (g := 0) (t := 112) (k := 3) h (by kernel_rfl) (by kernel_rfl) Tryd.underlying112 (by kernel_rfl) rfl rfl rfl rfl (by kernel_rfl) Tryd.underlying3
  exact ⟨⟨a0, a1⟩, ⟨b0, b1⟩, ⟨c0, c1⟩, cell_lt a0, cell_lt b0, cell_lt c0⟩

/-- The program's own start meets the condition. -/
theorem door_met (os : Os) (args : Array Value) : laidMetH Tryd.prog laid3 ((World.doorLaid Tryd.prog 24 os).forCall (fun _ _ => 0) ⟨#[], args, []⟩).memory :=
  laidMetH_of_parts3 (fuel := 8) (laidMet_of_run' 8 (by kernel_rfl) (by kernel_rfl)) (by kernel_rfl) (by kernel_rfl)
end Go.Proofs.YtnnjanaclgjneaaDoor

namespace Go.Proofs.YtnnjanaclgjneaaDoor.towerNil
open Go.ChangeShapes Go.WideShapes Go.ChangeAt Go.RowKit Go.Joins Go.Maps
set_option maxRecDepth 100000

theorem foundAtNil (k : Int) (w : World) : Calls Tryd.prog 13 #[.pointer none, .int .i64 k] w fun o w' => o = .returned (.bool false) ∧ w' = w := foundAt_any false (laneNil_f k w) (foundNil_l w)
theorem foundNil (w : World) : Calls Tryd.prog 8 #[.pointer none] w fun o w' => o = .returned (.bool false) ∧ w' = w := found_any false (foundAtNil 0 w)
theorem atNil (k : Int) (w : World) : Calls Tryd.prog 11 #[.pointer none, .int .i64 k] w fun o w' => o = .returned (.agg #[.int .i64 0, .int .i64 0, .int .i64 0, .int .i64 0]) ∧ Below w.heap.size w w' := atF_any 0 0 0 0 (fun v _ => laneNil_f k v) (fun v _ => atNil_l v)
theorem intoNil (k : Int) (w : World) : Calls Tryd.prog 12 #[.pointer none, .int .i64 k] w fun o w' => o = .returned (.agg #[.int .u64 0, .int .i64 0, .bool false]) ∧ Below w.heap.size w w' := intoF_any 0 0 false (fun v _ => laneNil_f k v) (fun v _ => intoNil_l v)
theorem outNil (w : World) : Calls Tryd.prog 10 #[.pointer none] w fun o w' => o = .returned (.agg #[.int .u64 0, .int .i64 0, .bool false]) ∧ Below w.heap.size w w' := outF_any 0 0 false (fun v _ => laneNil_f 0 v) (fun v _ => outNil_l v)
theorem whoNil (w : World) : Calls Tryd.prog 9 #[.pointer none] w fun o w' => o = .returned (.agg #[.int .i64 0, .int .i64 0]) ∧ Below w.heap.size w w' := whoF_any 0 0 (fun v _ => laneNil_f 0 v) (fun v _ => whoNil_l v)

set_option maxHeartbeats 6400000 in
theorem walk (k s b h l key level : Int) (w : World) (hg : Glo w) :
    Calls Tryd.prog 3 #[.agg #[.int .i64 k, .int .i64 s, .int .i64 b, .int .i64 h, .int .i64 l], .int .u64 key, .int .i64 level] w fun e w' => e = .returned (.bool true) ∧ Below w.heap.size w w' := by
  have HG := Lib.hid hg
  clear hg
  have hE := (Env.start w).box w.heap.size rfl [.int .i64 k, .int .i64 s, .int .i64 b, .int .i64 h, .int .i64 l] 23
  go_enter Tryd.func3, Tryd.ntmps3
  go_wp2_with fail
  refine (awake18 _ (HG.out.keep' hE.below)).mono ?_
  rintro o w1 ⟨rfl, hb⟩
  replace hE := hE.over hb
  clear hb
  go_wp2_with fail
  refine (new_w hE).mono ?_
  rintro o w2 ⟨p, cc, rfl, hE2, -⟩
  have hE := hE2
  clear hE2
  generalize w.heap.size = X at *
  have r0 := hE.rule 2 rfl
  have HCNT : Hid (∀ v, Env w [wbox p cc, cellI cc (fun k => k = cc) (fun _ => 0) ⟨0, 0, 0, 0, 0⟩ 0, boxI X [.int .i64 k, .int .i64 s, .int .i64 b, .int .i64 h, .int .i64 l]] v → Calls Tryd.prog 14 #[.pointer (some ⟨p, 0, none⟩)] v fun o w' => o = .returned (.agg #[.int .i64 0, .int .i64 0, .int .i64 0, .int .i64 0, .int .i64 0]) ∧ Below v.heap.size v w') := Lib.hid fun v hv => count_w 0 1 hv rfl rfl
  have hno := newNo_c k s b h l
  have hye := fun (v : World) (hv : Env w [wbox p cc, cellI cc (fun k => k = cc) (fun _ => 0) ⟨0, 0, 0, 0, 0⟩ 0, boxI X [.int .i64 k, .int .i64 s, .int .i64 b, .int .i64 h, .int .i64 l]] v) (hc : chkI k s b h l = 0) => newYes_c k s b h l hc hv
  have HNO := Lib.hid hno
  have HYE := Lib.hid hye
  clear hno hye
  go_upto_region 7 with (first
    | (with_reducible refine (newNil_f _ _).mono ?_; rintro o w3 ⟨rfl, rfl⟩)
    | (with_reducible refine (stepNil_f _ _).mono ?_; rintro o w3 ⟨rfl, rfl⟩)
    | (with_reducible refine (foundNil _).mono ?_; rintro o w3 ⟨rfl, rfl⟩)
    | (with_reducible refine (foundAtNil _ _).mono ?_; rintro o w3 ⟨rfl, rfl⟩)
    | (with_reducible refine (whoNil _).mono ?_; rintro o w3 ⟨rfl, hb⟩; replace hE := hE.over hb; clear hb r0; have r0 := hE.rule 2 rfl)
    | (with_reducible refine (outNil _).mono ?_; rintro o w3 ⟨rfl, hb⟩; replace hE := hE.over hb; clear hb r0; have r0 := hE.rule 2 rfl)
    | (with_reducible refine (atNil _ _).mono ?_; rintro o w3 ⟨rfl, hb⟩; replace hE := hE.over hb; clear hb r0; have r0 := hE.rule 2 rfl)
    | (with_reducible refine (intoNil _ _).mono ?_; rintro o w3 ⟨rfl, hb⟩; replace hE := hE.over hb; clear hb r0; have r0 := hE.rule 2 rfl)
    | (with_reducible refine (HCNT.out _ hE).mono ?_; rintro o w3 ⟨rfl, hb⟩; replace hE := hE.over hb; clear hb r0; have r0 := hE.rule 2 rfl))
  by_cases hc : chkI k s b h l = 0
  · by_cases h3 : k = 3
    · subst h3
      have hh : 1 ≤ h ∧ h ≤ 16 := by
        unfold chkI at hc
        by_cases h1 : (inB s 1 8388607 && inB l 2 1099511627775 && buckB 3 b && highB 3 h) = true
        · simp only [Bool.and_eq_true] at h1
          have := (highB_iff 3 h).1 h1.2
          omega
        · rw [if_neg h1] at hc
          split at hc <;> simp at hc
      obtain ⟨n, rfl⟩ : ∃ n : Nat, h = (n : Int) := ⟨h.toNat, by omega⟩
      have hy := HYE.out _ hE hc
      have HY := Lib.hid hy
      have HH : Hid (n ≤ 1000) := Lib.hid (by omega)
      clear hy hc hh HYE HNO
      go_wp2_with fail
      refine HY.out.mono ?_
      rintro o w4 ⟨c, q, F, rfl, hE4⟩
      clear r0 hE
      have r0 := hE4.rule 4 rfl
      go_wp2_with fail
      refine (newYes_f (h := n) 0 key HH.out rfl hE4).mono ?_
      rintro o w5 ⟨fb, g, rfl, hE5⟩
      clear r0 hE4
      have r0 := hE5.rule 6 rfl
      go_wp2_with fail
      go_ret
      exact ⟨rfl, hE5.below⟩
    · have hy := HYE.out _ hE hc
      have HY := Lib.hid hy
      have b1 : (k == 3) = false := by simpa using h3
      have H3 := Lib.hid h3
      clear hy hc HYE HNO h3
      go_wp2_with fail
      refine HY.out.mono ?_
      rintro o w4 ⟨c, q, F, rfl, hE4⟩
      clear r0 hE
      have r0 := hE4.rule 4 rfl
      go_wp2_with fail
      refine (newNo_f 0 key h H3.out rfl hE4).mono ?_
      rintro o w5 ⟨rfl, hE5⟩
      clear r0 hE4
      have r0 := hE5.rule 4 rfl
      go_wp2_with fail
      go_ret
      exact ⟨rfl, hE5.below⟩
  · have hy := HNO.out hc
    have HY := Lib.hid hy
    clear hy hc HYE HNO
    go_wp2_with fail
    refine (HY.out _).mono ?_
    rintro o w4 ⟨rfl, hb⟩
    replace hE := hE.over hb
    clear hb r0
    have r0 := hE.rule 2 rfl
    go_wp2_with fail
    refine (newNil_f _ _).mono ?_
    rintro o w5 ⟨rfl, rfl⟩
    go_wp2_with fail
    go_ret
    exact ⟨rfl, hE.below⟩

theorem own : ownKnob Tryd.prog.godebug = none := by kernel_rfl
theorem laidOut : laidOutB Tryd.prog = true := by kernel_rfl

set_option maxRecDepth 100000 in
theorem lifted (os : Os) (started : os.Started) (H : Type) (enc : TypeId × Value → H) :
    ReturnsInHanded {} Tryd.checked os 3 .any (fun w args => (Rows.towerNilSpec.pre enc Tryd.prog Tryd.f3 [] false w args ∧ laidMetH Tryd.prog laid3 w) ∧ sizedMet enc Tryd.prog Tryd.f3 (OpenSpec.ofChange Rows.towerNilSpec) false w args)
      (Rows.towerNilSpec.post enc Tryd.prog Tryd.f3 false true false false) := by
  refine returnsInHanded_of_change_and (C := Tryd.checked) (X := fun w _ => laidMetH Tryd.prog laid3 w) (fun _ _ _ hh h => h.of_heap hh) own started (by kernel_rfl) Tryd.func3
    (ChangeSpec.witness_shaped (enc := enc) (C := Tryd.checked) (os := os) (X := fun w _ => laidMetH Tryd.prog laid3 w) false (World.doorLaid Tryd.prog 24 os) #[.agg #[.int .i64 0, .int .i64 0, .int .i64 0, .int .i64 0, .int .i64 0], .int .u64 0, .int .i64 0] 8 rfl (World.shaped_of_RefB (by kernel_rfl) (by kernel_rfl)) (by kernel_rfl) (by kernel_rfl) (by kernel_rfl) (door_met os _)) ?_
  intro W base args ds gs before hval0 hW _ _ hL _
  have hval : ∀ (j : Nat) t v, Tryd.f3.params[j]? = some t → args[j]? = some v → Value.okWide Tryd.prog W .any base t v := hval0
  have hW' := hW
  obtain ⟨p, q, hA0, hV, rfl, hfz, hnd⟩ := hW
  have hA : DataW.TrodAll enc Tryd.prog W 0 (fun _ => true) true Tryd.f3.params.toList args.toList ds p := hA0
  rw [Tryd.params3] at hA hval
  obtain ⟨v0, vs0, d0, ds0, p0, q0, hargs, rfl, rfl, g0, r0⟩ := trodAll_cons hA
  obtain ⟨v1, vs1, d1, ds1, p1, q1, rfl, rfl, rfl, g1, r1⟩ := trodAll_cons r0
  obtain ⟨v2, vs2, d2, ds2, p2, q2, rfl, rfl, rfl, g2, r2⟩ := trodAll_cons r1
  obtain ⟨rfl, rfl, rfl⟩ := trodAll_nil r2
  obtain rfl : args = #[v0, v1, v2] := by cases args; simp_all
  obtain ⟨rfl, rfl⟩ := trodVars_none hV
  obtain ⟨a1, rfl, rfl, rfl, w1⟩ := open_int Tryd.underlying24 (hval 1 24 v1 rfl rfl) g1
  have h1 := u64_in w1
  obtain ⟨a2, rfl, rfl, rfl, w2⟩ := open_int Tryd.underlying3 (hval 2 3 v2 rfl rfl) g2
  have h2 := i64_in w2
  obtain ⟨cs0, rfl, z0, H0⟩ := open_flat (ss := [.num .i64, .num .i64, .num .i64, .num .i64, .num .i64]) Tryd.underlying23 (by kernel_rfl) (by kernel_rfl) ⟨Tryd.underlying3, Tryd.underlying3, Tryd.underlying3, Tryd.underlying3, Tryd.underlying3, trivial⟩ (hval 0 23 v0 rfl rfl) g0
  obtain ⟨l0, rfl, z0⟩ := list_of z0
  obtain ⟨x0_0, x0_1, x0_2, x0_3, x0_4, rfl⟩ := list5 z0
  obtain ⟨_, e, a0_0, rfl, w0_0⟩ := H0 0 _ rfl
  obtain rfl : x0_0 = .int .i64 a0_0 := by simpa using e
  clear e
  have h0_0 := i64_in w0_0
  obtain ⟨_, e, a0_1, rfl, w0_1⟩ := H0 1 _ rfl
  obtain rfl : x0_1 = .int .i64 a0_1 := by simpa using e
  clear e
  have h0_1 := i64_in w0_1
  obtain ⟨_, e, a0_2, rfl, w0_2⟩ := H0 2 _ rfl
  obtain rfl : x0_2 = .int .i64 a0_2 := by simpa using e
  clear e
  have h0_2 := i64_in w0_2
  obtain ⟨_, e, a0_3, rfl, w0_3⟩ := H0 3 _ rfl
  obtain rfl : x0_3 = .int .i64 a0_3 := by simpa using e
  clear e
  have h0_3 := i64_in w0_3
  obtain ⟨_, e, a0_4, rfl, w0_4⟩ := H0 4 _ rfl
  obtain rfl : x0_4 = .int .i64 a0_4 := by simpa using e
  clear e
  have h0_4 := i64_in w0_4
  clear H0
  clear hA0 hval0
  have hG := glo_of_laid hL
  refine (walk a0_0 a0_1 a0_2 a0_3 a0_4 a1 a2 W hG).mono fun e W' ⟨he, hg⟩ => ?_
  subst he
  exact ⟨_, rfl, law_post laidOut (by kernel_rfl) (by kernel_rfl) Tryd.underlying4 rfl rfl hW' hg⟩

set_option maxHeartbeats 25600000 in
theorem closedR : joinedFacts Tryd.pinned.checked.prog 3 Tryd.f3 Rows.towerNilSpec Rows.towerNilRow = true := by
  unfold joinedFacts
  simp only [Bool.and_eq_true]
  repeat' (refine And.intro ?_ ?_)
  all_goals (as_aux_lemma => kernel_rfl)


theorem over : Rows.towerNilRow.holds Tryd.pinned (OpenSpec.ofChange Rows.towerNilSpec) :=
  OpenClaim.holds_of_wide 3 Tryd.f3 rfl rfl rfl rfl rfl rfl rfl ⟨rfl, rfl, rfl, rfl, rfl⟩ rfl rfl rfl rfl rfl (by kernel_rfl) Tryd.func3 closedR
    (of_decide_eq_true (by kernel_rfl)) (by unfold Func.isWrapper; first | (rw [if_pos (by decide +kernel)]; kernel_rfl) | (rw [if_neg (by decide +kernel)]; exact ⟨rfl, rfl⟩))
    (fun os started H enc _ => lifted os started H enc)

/-- THE STATEMENT. -/
theorem proved : Rows.TowerNilCardSaid :=
  Claim7.holds_tied_plain_at .later [] [.wider, .wider, .wider] true _ false
    over (fun _ h => by cases h) (by kernel_rfl) (fun _ h => by cases h) towerNil_row_tie rfl ⟨rfl, rfl⟩ (by kernel_rfl) rfl
    (fun f fn hf hfn => by
      obtain rfl : f = 3 := Option.some.inj ((show Tryd.prog.funcNamed "revenant/revenantlaw18.TowerNil" = some 3 by kernel_rfl).symm.trans hf) |>.symm
      obtain rfl : fn = Tryd.f3 := (Option.some.inj (Tryd.func3.symm.trans hfn)).symm
      exact ⟨by kernel_rfl, fun j t ht => by
        rw [Tryd.params3] at ht
        have hm : t ∈ [23, 24, 3] := by simpa using Array.mem_of_getElem? ht
        have hall : ([23, 24, 3].all fun u => !Tryd.prog.wantsStandIn u) = true := by kernel_rfl
        exact (show Tryd.prog.wantsStandIn t = false by simpa using List.all_eq_true.1 hall t hm)⟩)
    (by kernel_rfl)
#print axioms proved
end Go.Proofs.YtnnjanaclgjneaaDoor.towerNil
