/- What is proved on the way to the statement, part 11 of 14: contracts of the functions, among other things in memory. -/
import Derived.Test.YtmifdkbpbkafjaaGreatDoorE10

/- Threads: an Alloc's step, of the reference, whatever its row. -/
namespace Go.Proofs.YtmifdkbpbkafjaaGreatDoor
open Go.RowKit Go.Maps
set_option maxRecDepth 100000

/-- The thread's, and the memory, of the reference. -/
def SR (C : Cf) (X : Tm) (V : Wm) (T : Th) (FU : Nat → Prop) (ml : List OneR) : SU := { u := X.u, m := V.m, ck := C.k, cs := C.s, cb := C.b, ch := C.h, cl := C.l, ce := T.e, hs := T.hs, ro := X.ro, N := X.N, A := X.A, c := X.rc, ql := T.ql, F := FU, ml := ml }
theorem nextW_word {x s : Int} (hs : 0 ≤ s ∧ s ≤ 8388607) (hv : verI x < 1099511627775) : nextW x s = wordI false s (verI x + 1) := by
  unfold nextW
  rw [if_pos (by simp [isS]; omega), if_neg (by omega)]
theorem swL_length (l : List OneR) (x : Plc) (o v : Int) : (swL l x o v).length ≤ l.length + 1 := by
  unfold swL
  split
  · exact setL_length _ _ _
  · omega

section
variable {w0 w : World} {R : List Item} {C : Cf} {d : Dd} {X : Tm} {V : Wm} {T : Th} {FU : Nat → Prop} {ml : List OneR} {n b : Nat}
set_option maxHeartbeats 1600000 in
theorem alR (hk : RowOk C T n) (hml : ml.length ≤ 999999) (hN : 0 ≤ X.N ∧ X.N ≤ 4000000) (hv : T.apc = 6 → verI T.ah < 1099511627775) (hfu : ∀ x, InU (getL ml x)) (hkk : T.apc ≤ 10 ∨ T.apc - 10 < (WD C d T).length) (hE : Env w0 (boxI b (rav (T.apc : Int) T.ah T.an T.ar) :: LU (SR C X V T FU ml) R) w) :
    Calls Tryz.prog 42 #[.pointer (some ⟨b, 0, none⟩), .pointer (some ⟨X.u, 0, none⟩), .pointer (some ⟨V.m, 0, none⟩), .agg #[.int .i64 d.ok, .int .u64 d.key, .int .u64 d.val, .int .i64 d.lv]] w fun o w' => o = .returned (.int .i64 (allocM C d T (getL ml)).1) ∧ ∃ (A' : Option Addr) (rc' : Nat) (N' : Int) (FU' : Nat → Prop) (ml' : List OneR), getL ml' = (allocM C d T (getL ml)).2.2 ∧ ml'.length ≤ ml.length + 1 ∧ 0 ≤ N' ∧ N' ≤ 4000000 ∧ (((allocM C d T (getL ml)).1 = 0 ∧ Env w0 (boxI b (rav ((allocM C d T (getL ml)).2.1.apc : Int) (allocM C d T (getL ml)).2.1.ah (allocM C d T (getL ml)).2.1.an (allocM C d T (getL ml)).2.1.ar) :: LU (SR C { X with A := A', rc := rc', N := N' } V (allocM C d T (getL ml)).2.1 FU' ml') R) w') ∨ ((allocM C d T (getL ml)).1 ≠ 0 ∧ Env w0 (LU (SR C { X with A := A', rc := rc', N := N' } V (allocM C d T (getL ml)).2.1 FU' ml') R) w')) := by
  have drop : ∀ {S : SU} {y : Item} {w' : World}, Env w0 (y :: LU S R) w' → Env w0 (LU S R) w' := fun h => h.sub (.cons _ (List.Sublist.refl _))
  rcases hk.apc with h1 | h1 | h1 | h1 | h1 | h1 | h1
  · have hal : allocM C d T (getL ml) = (2, T, swf (getL ml) (1, 0, 0) T.e (T.e + 1)) := by unfold allocM; rw [if_pos h1]
    rw [hal]
    rw [h1] at hE
    refine (ral1 (U := SR C X V T FU ml) hk.he (by show ml.length ≤ 1000000; omega) hk.hw.1 hE).mono ?_
    rintro o w1 ⟨rfl, F5, hE1⟩
    exact ⟨rfl, X.A, X.rc, X.N, F5, _, (swf_getL _ _ _ _).symm, swL_length _ _ _ _, hN.1, hN.2, .inr ⟨show (2 : Int) ≠ 0 by decide, drop hE1⟩⟩
  · rw [h1] at hE
    by_cases hx : C.s ≤ getL ml (3, 0, 0)
    · have hal : allocM C d T (getL ml) = (0, { T with apc := 3 }, upd (getL ml) (3, 0, 0) (IntKind.u64.wrap (getL ml (3, 0, 0) + 1))) := by unfold allocM; rw [if_neg (by omega), if_pos h1, if_pos hx]
      rw [hal]
      refine (ral2No (U := SR C X V T FU ml) _ rfl (by show ml.length ≤ 999999; omega) (hfu _).1 hx hk.hs hk.hw.1 hE).mono ?_
      rintro o w1 ⟨rfl, F5, hE1⟩
      exact ⟨rfl, X.A, X.rc, X.N, F5, _, getL_set _ _ _, setL_length _ _ _, hN.1, hN.2, .inl ⟨rfl, hE1⟩⟩
    · have hal : allocM C d T (getL ml) = (decS (T.ql ++ [(getL ml (3, 0, 0) + 1, 0, 0)]) T.e C.l, { T with ql := T.ql ++ [(getL ml (3, 0, 0) + 1, 0, 0)], apc := decP (T.ql ++ [(getL ml (3, 0, 0) + 1, 0, 0)]) T.e C.l }, upd (getL ml) (3, 0, 0) (IntKind.u64.wrap (getL ml (3, 0, 0) + 1))) := by unfold allocM; rw [if_neg (by omega), if_pos h1, if_neg hx]
      rw [hal]
      refine (ral2Yes (U := SR C X V T FU ml) _ rfl (by show ml.length ≤ 999999; omega) (hfu _).1 (show getL ml (3, 0, 0) < C.s by omega) hk.hs.2 (by have := hk.hl; show T.ql.length ≤ 1000000; omega) (by show 0 ≤ X.N ∧ X.N ≤ 1099511627776; omega) hk.hw.1 hE).mono ?_
      rintro o w1 ⟨rfl, pc', F5, A', c', hpc, hE1⟩
      have hNN := roomN_in hN hk.hl
      by_cases hz : decP (T.ql ++ [(getL ml (3, 0, 0) + 1, 0, 0)]) T.e C.l = 0
      · exact ⟨rfl, A', c', _, F5, _, getL_set _ _ _, setL_length _ _ _, hNN.1, hNN.2, .inr ⟨show decS (T.ql ++ [(getL ml (3, 0, 0) + 1, 0, 0)]) T.e C.l ≠ 0 by unfold decS; rw [if_pos hz]; decide, drop hE1⟩⟩
      · have hpc := hpc hz
        subst hpc
        exact ⟨rfl, A', c', _, F5, _, getL_set _ _ _, setL_length _ _ _, hNN.1, hNN.2, .inl ⟨show decS (T.ql ++ [(getL ml (3, 0, 0) + 1, 0, 0)]) T.e C.l = 0 by unfold decS; rw [if_neg hz], hE1⟩⟩
  · rw [h1] at hE
    have hal : allocM C d T (getL ml) = (poolS (getL ml (2, 0, 0)) C.l, { T with ah := getL ml (2, 0, 0), apc := 4 }, getL ml) := by unfold allocM; rw [if_neg (by omega), if_neg (by omega), if_pos h1]
    rw [hal]
    refine (ral3 (U := SR C X V T FU ml) _ rfl (hfu _) (by show ml.length ≤ 1000000; omega) hk.hw.1 hE).mono ?_
    rintro o w1 ⟨rfl, pc', hpc, hE1⟩
    by_cases hz : poolS (getL ml (2, 0, 0)) C.l = 0
    · have hpc := hpc hz
      subst hpc
      exact ⟨rfl, X.A, X.rc, X.N, FU, ml, rfl, by omega, hN.1, hN.2, .inl ⟨hz, hE1⟩⟩
    · exact ⟨rfl, X.A, X.rc, X.N, FU, ml, rfl, by omega, hN.1, hN.2, .inr ⟨hz, drop hE1⟩⟩
  · rw [h1] at hE
    have hal : allocM C d T (getL ml) = (0, { T with an := getL ml (5, slotI T.ah, 2), apc := 5 }, getL ml) := by unfold allocM; rw [if_neg (by omega), if_neg (by omega), if_neg (by omega), if_pos h1]
    rw [hal]
    refine (ral4 (U := SR C X V T FU ml) _ rfl (by show ml.length ≤ 1000000; omega) hk.hw.1 hE).mono ?_
    rintro o w1 ⟨rfl, hE1⟩
    exact ⟨rfl, X.A, X.rc, X.N, FU, ml, rfl, by omega, hN.1, hN.2, .inl ⟨rfl, hE1⟩⟩
  · rw [h1] at hE
    have hal : allocM C d T (getL ml) = (0, { T with ar := getL ml (5, slotI T.ah, 1), apc := 6 }, getL ml) := by unfold allocM; rw [if_neg (by omega), if_neg (by omega), if_neg (by omega), if_neg (by omega), if_pos h1]
    rw [hal]
    refine (ral5 (U := SR C X V T FU ml) _ rfl (by show ml.length ≤ 1000000; omega) hk.hw.1 hE).mono ?_
    rintro o w1 ⟨rfl, hE1⟩
    exact ⟨rfl, X.A, X.rc, X.N, FU, ml, rfl, by omega, hN.1, hN.2, .inl ⟨rfl, hE1⟩⟩
  · rw [h1] at hE
    have hnx := nextW_word (slotI_in T.an) (hv h1)
    by_cases hx : getL ml (2, 0, 0) = T.ah
    · have hal : allocM C d T (getL ml) = (decS (T.ql ++ [(slotI T.ah, epI T.ar, 0)]) T.e C.l, { T with ql := T.ql ++ [(slotI T.ah, epI T.ar, 0)], apc := decP (T.ql ++ [(slotI T.ah, epI T.ar, 0)]) T.e C.l }, swf (getL ml) (2, 0, 0) T.ah (nextW T.ah (slotI T.an))) := by unfold allocM; rw [if_neg (by omega), if_neg (by omega), if_neg (by omega), if_neg (by omega), if_neg (by omega), if_pos h1, if_pos hx]
      rw [hal, hnx]
      refine (ral6Yes (U := SR C X V T FU ml) hk.hw.2.1 (by show ml.length ≤ 1000000; omega) hx hk.hw.2.2 (by have := hk.hl; show T.ql.length ≤ 1000000; omega) (by show 0 ≤ X.N ∧ X.N ≤ 1099511627776; omega) hk.hw.1 hE).mono ?_
      rintro o w1 ⟨rfl, pc', F5, A', c', hpc, hE1⟩
      have hNN := roomN_in hN hk.hl
      by_cases hz : decP (T.ql ++ [(slotI T.ah, epI T.ar, 0)]) T.e C.l = 0
      · exact ⟨rfl, A', c', _, F5, _, (swf_getL _ _ _ _).symm, swL_length _ _ _ _, hNN.1, hNN.2, .inr ⟨show decS (T.ql ++ [(slotI T.ah, epI T.ar, 0)]) T.e C.l ≠ 0 by unfold decS; rw [if_pos hz]; decide, drop hE1⟩⟩
      · have hpc := hpc hz
        subst hpc
        exact ⟨rfl, A', c', _, F5, _, (swf_getL _ _ _ _).symm, swL_length _ _ _ _, hNN.1, hNN.2, .inl ⟨show decS (T.ql ++ [(slotI T.ah, epI T.ar, 0)]) T.e C.l = 0 by unfold decS; rw [if_neg hz], hE1⟩⟩
    · have hal : allocM C d T (getL ml) = (0, { T with apc := 3 }, swf (getL ml) (2, 0, 0) T.ah (nextW T.ah (slotI T.an))) := by unfold allocM; rw [if_neg (by omega), if_neg (by omega), if_neg (by omega), if_neg (by omega), if_neg (by omega), if_pos h1, if_neg hx]
      rw [hal, hnx]
      refine (ral6No (U := SR C X V T FU ml) hk.hw.2.1 (by show ml.length ≤ 1000000; omega) hx hk.hw.1 hE).mono ?_
      rintro o w1 ⟨rfl, F5, hE1⟩
      exact ⟨rfl, X.A, X.rc, X.N, F5, _, (swf_getL _ _ _ _).symm, swL_length _ _ _ _, hN.1, hN.2, .inl ⟨rfl, hE1⟩⟩
  · obtain ⟨hl3, hl5⟩ := WD_len C d T
    by_cases h10 : T.apc = 10
    · rw [h10] at hE
      obtain ⟨hhs, x, y, t, hql, hx1, hx2⟩ := hk.born h10
      have hal : allocM C d T (getL ml) = (lastS 0 (WD C d T).length, { T with ql := t, hs := x, apc := 11 }, upd (getL ml) (5, x, 0) T.e) := by
        unfold allocM
        rw [if_neg (by omega), if_neg (by omega), if_neg (by omega), if_neg (by omega), if_neg (by omega), if_neg (by omega)]
        simp only [h10, hql, if_true, List.tail_cons, List.headD_cons]
        rfl
      have hls : lastS 0 (WD C d T).length = 0 := by unfold lastS; rw [if_neg (by omega)]
      rw [hal, hls]
      have hl := hk.hl
      rw [hql] at hl
      have hct := ral10 (U := SR C X V T FU ml) (ok := d.ok) (key := d.key) (val := d.val) (lv := d.lv) x y t hql (by simp at hl; omega) 0 T.e rfl hk.he (by show ml.length ≤ 1000000; omega) hk.hw.1 hE
      have hls2 : lastS 0 (wordsA (SR C X V T FU ml).ck (SR C X V T FU ml).ce d.key d.val (IntKind.u64.wrap d.lv)).length = 0 := hls
      rw [hls2] at hct
      refine hct.mono ?_
      rintro o w1 ⟨rfl, F5, A', c', hE1⟩
      exact ⟨rfl, A', c', X.N, F5, _, getL_set _ _ _, setL_length _ _ _, hN.1, hN.2, .inl ⟨rfl, hE1⟩⟩
    · obtain ⟨k, hk10⟩ : ∃ k, T.apc = 10 + k := ⟨T.apc - 10, by omega⟩
      have hkk2 : T.apc - 10 = k := by omega
      have hkl : k < (WD C d T).length := by omega
      obtain ⟨⟨part, word⟩, hpw⟩ : ∃ pw, (WD C d T)[k]? = some pw := ⟨_, List.getElem?_eq_getElem hkl⟩
      have hal : allocM C d T (getL ml) = (lastS k (WD C d T).length, { T with apc := T.apc + 1 }, upd (getL ml) (5, T.hs, part) word) := by
        unfold allocM
        rw [if_neg (by omega), if_neg (by omega), if_neg (by omega), if_neg (by omega), if_neg (by omega), if_neg (by omega)]
        have hg : (wordsA C.k T.e d.key d.val (IntKind.u64.wrap d.lv)).getD k (0, 0) = (part, word) := by
          have h9 : (wordsA C.k T.e d.key d.val (IntKind.u64.wrap d.lv))[k]? = some (part, word) := hpw
          rw [List.getD_eq_getElem?_getD, h9]
          rfl
        simp only [hkk2, hg]
        rw [if_neg (by omega)]
        rfl
      have hpc : ((T.apc : Nat) : Int) = 10 + (k : Int) := by omega
      rw [hpc] at hE
      rw [hal]
      refine (ralS (U := SR C X V T FU ml) (ok := d.ok) (key := d.key) (val := d.val) (lv := d.lv) k (by omega) part word hpw hk.he (by show ml.length ≤ 1000000; omega) hk.hw.1 hE).mono ?_
      rintro o w1 ⟨rfl, F5, hE1⟩
      have hpc2 : (10 + (k : Int) + 1) = ((T.apc + 1 : Nat) : Int) := by omega
      rw [hpc2] at hE1
      by_cases hz : lastS k (WD C d T).length = 0
      · exact ⟨rfl, X.A, X.rc, X.N, F5, _, getL_set _ _ _, setL_length _ _ _, hN.1, hN.2, .inl ⟨hz, hE1⟩⟩
      · exact ⟨rfl, X.A, X.rc, X.N, F5, _, getL_set _ _ _, setL_length _ _ _, hN.1, hN.2, .inr ⟨hz, drop hE1⟩⟩
end
end Go.Proofs.YtmifdkbpbkafjaaGreatDoor

/- Threads: the contract of step, where an Alloc goes on. -/
namespace Go.Proofs.YtmifdkbpbkafjaaGreatDoor
open Go.RowKit Go.Maps
set_option maxRecDepth 100000

/-- Permutations of things, by counting. -/
theorem perm_of {L L' : List Item} (h : ∀ [BEq Item] [LawfulBEq Item] (z : Item), L.count z = L'.count z) : L.Perm L' := by
  classical
  exact List.perm_iff_count.2 fun z => h z
theorem Env.mem {w0 w : World} {L : List Item} (h : Env w0 L w) {a : Item} (ha : a ∈ L) : a.says w := (h.2.2 a ha).1
theorem gen_post {P : Program} {g : FuncId} {args : Array Value} {w : World} {Q : Ending → World → Prop} (h : ∀ PP : Ending → World → Prop, Hid (∀ o w', Q o w' → PP o w') → Calls P g args w PP) : Calls P g args w Q := h Q (Lib.hid fun _ _ h => h)
theorem allocM_keep (C : Cf) (d : Dd) (T : Th) (f : Mem) : (allocM C d T f).2.1.e = T.e ∧ (allocM C d T f).2.1.nd = T.nd ∧ (allocM C d T f).2.1.pc = T.pc ∧ (allocM C d T f).2.1.rs = T.rs ∧ (allocM C d T f).2.1.rpc = T.rpc ∧ (allocM C d T f).2.1.re = T.re ∧ (allocM C d T f).2.1.gpc = T.gpc ∧ (allocM C d T f).2.1.gh = T.gh ∧ (allocM C d T f).2.1.gg = T.gg ∧ (allocM C d T f).2.1.done = T.done ∧ (allocM C d T f).2.1.full = T.full := by
  unfold allocM
  repeat' split
  all_goals exact ⟨rfl, rfl, rfl, rfl, rfl, rfl, rfl, rfl, rfl, rfl, rfl⟩
theorem allocM_state (C : Cf) (d : Dd) (T : Th) (f : Mem) : (allocM C d T f).1 = 0 ∨ (allocM C d T f).1 = 1 ∨ (allocM C d T f).1 = 2 ∨ (allocM C d T f).1 = 3 ∨ (allocM C d T f).1 = 4 := by
  unfold allocM decS poolS lastS
  repeat' split
  all_goals first | exact .inl rfl | exact .inr (.inl rfl) | exact .inr (.inr (.inl rfl)) | exact .inr (.inr (.inr (.inl rfl))) | exact .inr (.inr (.inr (.inr rfl))) | (dsimp only; repeat' split) <;> simp

/-- What goes on, in memory. -/
def Mach (C : Cf) (d : Dd) (X : Tm) (T : Th) (ms : List Item) : Prop :=
  if T.pc = 2 then ∃ a b left s gl, X.pa = .pointer (some ⟨a, 0, none⟩) ∧ X.pb = .pointer (some ⟨b, 0, none⟩) ∧ LeftIs C d T left s gl ∧ ms = boxI a (avD X.c a d T left s) :: boxI b (rav (T.apc : Int) T.ah T.an T.ar) :: gl
  else if T.pc = 3 then ∃ r x, X.pr = .pointer (some ⟨r, 0, none⟩) ∧ X.pq = .pointer (some ⟨x, 0, none⟩) ∧ ms = [boxI r (rtv X.c (nxR r T.rpc) T.rs T.re), boxI x (rrv T.rs T.rpc T.re)]
  else if T.pc = 4 then ∃ r x, X.pg = .pointer (some ⟨r, 0, none⟩) ∧ X.ph = .pointer (some ⟨x, 0, none⟩) ∧ ms = [boxI r (gvv X.c (nxG r T.gpc) T.gh T.gg), boxI x (rgv T.gpc T.gh T.gg)]
  else ms = []
/-- A thread's things are where they were. -/
def Same (X X' : Tm) : Prop := X'.thr = X.thr ∧ X'.c = X.c ∧ X'.q = X.q ∧ X'.u = X.u ∧ X'.dA = X.dA ∧ X'.dn = X.dn ∧ X'.dc = X.dc
section
variable {w0 w : World} {R : List Item} {C : Cf} {d : Dd} {X : Tm} {V : Wm} {T : Th} {G FU : Nat → Prop} {qc : Cnt} {ml : List OneR} {n a b : Nat} {left : Value} {s : Int} {gl : List Item}
set_option maxHeartbeats 6400000 in
theorem step2_t (ds : List Dd) (hds : RowX encD 5 w0 X.dA ds) (hdn : X.dn = ds.length) (hdl : ds.length ≤ 1000) (hnd : 1 ≤ T.nd ∧ T.nd ≤ ds.length) (hdd : ds.getD (T.nd - 1) default = d) (hpc : T.pc = 2) (hpa : X.pa = .pointer (some ⟨a, 0, none⟩)) (hpb : X.pb = .pointer (some ⟨b, 0, none⟩)) (hdone : 0 ≤ T.done ∧ T.done ≤ 1000000)
    (hg : Glo w0) (hk : RowOk C T n) (hd : InU d.key ∧ InU d.val) (hlf : LeftIs C d T left s gl) (hml : ml.length ≤ 999999) (hN : 0 ≤ X.N ∧ X.N ≤ 4000000) (hv : T.apc = 6 → verI T.ah < 1099511627775)
    (hE : Env w0 (LT (SP C X V T (getL ml) G qc n) (LU (SR C X V T FU ml) (boxI X.thr (thv X T) :: boxI a (avD X.c a d T left s) :: boxI b (rav (T.apc : Int) T.ah T.an T.ar) :: (gl ++ R)))) w) :
    Calls Tryz.prog 14 #[.pointer (some ⟨X.thr, 0, none⟩), .pointer (some ⟨V.p, 0, none⟩), .pointer (some ⟨V.m, 0, none⟩)] w fun o w' => o = .returned (.bool true) ∧ ∃ (X' : Tm) (G' FU' : Nat → Prop) (qc' : Cnt) (n' : Nat) (ml' : List OneR) (ms' : List Item), Same X X' ∧ getL ml' = (actM C d T (getL ml)).2 ∧ ml'.length ≤ ml.length + 1 ∧ n' ≤ n + 1 ∧ 0 ≤ X'.N ∧ X'.N ≤ 4000000 ∧ Mach C d X' (actM C d T (getL ml)).1 ms' ∧ Env w0 (LT (SP C X' V (actM C d T (getL ml)).1 (getL ml') G' qc' n') (LU (SR C X' V (actM C d T (getL ml)).1 FU' ml') (boxI X'.thr (thv X' (actM C d T (getL ml)).1) :: (ms' ++ R)))) w' := by
  have hfu : ∀ x, InU (getL ml x) := fun x => (hE.cell 3 rfl).words.1 x
  have hkk : T.apc ≤ 10 ∨ T.apc - 10 < (WD C d T).length := by
    by_cases h : T.apc ≤ 10
    · exact .inl h
    · right
      have h2 := hlf
      unfold LeftIs at h2
      rw [if_neg h] at h2
      obtain ⟨g, c9, N, -, -, -, -, hlen⟩ := h2
      omega
  obtain ⟨m, hm⟩ : ∃ m, T.nd = m + 1 := ⟨T.nd - 1, by omega⟩
  have hmm : T.nd - 1 = m := by omega
  rw [hmm] at hdd
  obtain ⟨g, off, hdA, hc⟩ := rowD hds (Below.refl _ _) m (by omega)
  rw [hdd] at hc
  have HC := Lib.hid hc
  obtain ⟨N1, hN1⟩ : ∃ N1 : Int, (T.nd : Int) = N1 := ⟨_, rfl⟩
  have HN1 := Lib.hid hN1
  have hx1 : wrap64 (N1 - 1) = (m : Int) := by rw [w64 _ (by omega)]; omega
  have hx2 : N1 - 1 = (m : Int) := by omega
  have hlt1 : (m : Int) < ((X.dn : Nat) : Int) := by omega
  have hge1 : (0 : Int) ≤ (m : Int) := by omega
  have hb1 : decide ((m : Int) < ((X.dn : Nat) : Int)) = true := by simpa using hlt1
  have hb2 : m < X.dn := by omega
  have hx4 : IntKind.i64.wrap (m : Int) = (m : Int) := (wrap_i _).trans (w64 _ (by omega))
  have hst := allocM_state C d T (getL ml)
  have hkp := allocM_keep C d T (getL ml)
  have hact : actM C d T (getL ml) = ({ (allocM C d T (getL ml)).2.1 with pc := if (allocM C d T (getL ml)).1 = 2 then 1 else if (allocM C d T (getL ml)).1 = 0 then 2 else 0, done := if (allocM C d T (getL ml)).1 = 1 then T.done + 1 else T.done, full := (allocM C d T (getL ml)).1 == 3 }, (allocM C d T (getL ml)).2.2) := by
    unfold actM
    rw [if_neg (by omega), if_pos hpc]
  rw [hact]
  clear hact
  have hthv : thv X T = [.pointer (some ⟨X.c, 0, none⟩), .pointer (some ⟨X.u, 0, none⟩), .slice (some ⟨g, off, none⟩) X.dn X.dc, .int .i64 N1, .int .i64 2, .pointer (some ⟨a, 0, none⟩), .pointer (some ⟨b, 0, none⟩), X.pr, X.pq, X.pg, X.ph, .int .i64 T.done, .bool T.full] := by
    unfold thv
    rw [hdA, hpa, hpb, hN1, hpc]
    rfl
  rw [hthv] at hE
  have r7 := hE.rule 7 rfl
  have f12 := hE.thaw 7 rfl 12 (by simp)
  have hE1 := hE.put 7 rfl (j := 12) (by simp) (.bool false)
  have hA : Env w0 (boxI a (avD X.c a d T left s) :: LT (SP C X V T (getL ml) G qc n) (gl ++ LU (SR C X V T FU ml) (boxI X.thr [.pointer (some ⟨X.c, 0, none⟩), .pointer (some ⟨X.u, 0, none⟩), .slice (some ⟨g, off, none⟩) X.dn X.dc, .int .i64 N1, .int .i64 2, .pointer (some ⟨a, 0, none⟩), .pointer (some ⟨b, 0, none⟩), X.pr, X.pq, X.pg, X.ph, .int .i64 T.done, .bool false] :: boxI b (rav (T.apc : Int) T.ah T.an T.ar) :: R))) (w.setCell ⟨X.thr, 12, none⟩ (.bool false)) := hE1.perm (perm_of fun z => by
    simp only [LT, LU, List.count_append, List.count_cons, List.set_cons_succ, List.set_cons_zero]
    omega)
  have r7b : ∀ j, (w.setCell ⟨X.thr, 12, none⟩ (.bool false)).cell? ⟨X.thr, j, none⟩ = [Value.pointer (some ⟨X.c, 0, none⟩), .pointer (some ⟨X.u, 0, none⟩), .slice (some ⟨g, off, none⟩) X.dn X.dc, .int .i64 N1, .int .i64 2, .pointer (some ⟨a, 0, none⟩), .pointer (some ⟨b, 0, none⟩), X.pr, X.pq, X.pg, X.ph, .int .i64 T.done, .bool false][j]? := hE1.rule 7 rfl
  have hP := alP hg hk hd hlf hA
  obtain ⟨⟨st, T', f'⟩, hr⟩ : ∃ r, allocM C d T (getL ml) = r := ⟨_, rfl⟩
  rw [hr] at hP hst hkp ⊢
  have HR := Lib.hid hr
  have HP := Lib.hid hP
  have har := fun (v : World) (L : List Item) => alR (w0 := w0) (w := v) (R := L) (b := b) (FU := FU) (X := X) (V := V) hk hml hN hv hfu hkk
  simp only [hr] at har
  have HAR := Lib.hid har
  clear har
  dsimp only at hst hkp ⊢
  clear hr hP hA hE hE1 hc hds hdn hdl hnd hdd hN1 hk hd hlf hml hN hv hfu hkk
  refine gen_post fun PP HPP => ?_
  go_enter Tryz.func14, Tryz.ntmps14
  go_wp2_with fail
  refine HP.out.mono ?_
  rintro o w1 ⟨rfl, F', k', G', qc', n', hn', hcase⟩
  clear HP r7 r7b f12
  obtain ⟨X1, hX1⟩ : ∃ X1 : Tm, X1 = { X with F := F', kq := k' } := ⟨_, rfl⟩
  obtain ⟨L, hL, hmem, hfin⟩ : ∃ L, Env w0 (boxI b (rav (T.apc : Int) T.ah T.an T.ar) :: LU (SR C X V T FU ml) L) w1 ∧ boxI X.thr [Value.pointer (some ⟨X.c, 0, none⟩), .pointer (some ⟨X.u, 0, none⟩), .slice (some ⟨g, off, none⟩) X.dn X.dc, .int .i64 N1, .int .i64 2, .pointer (some ⟨a, 0, none⟩), .pointer (some ⟨b, 0, none⟩), X.pr, X.pq, X.pg, X.ph, .int .i64 T.done, .bool false] ∈ L ∧ ((st = 0 ∧ ∃ left' s' gl', LeftIs C d T' left' s' gl' ∧ L = boxI a (avD X.c a d T' left' s') :: LT (SP C X1 V T' f' G' qc' n') (gl' ++ boxI X.thr [Value.pointer (some ⟨X.c, 0, none⟩), .pointer (some ⟨X.u, 0, none⟩), .slice (some ⟨g, off, none⟩) X.dn X.dc, .int .i64 N1, .int .i64 2, .pointer (some ⟨a, 0, none⟩), .pointer (some ⟨b, 0, none⟩), X.pr, X.pq, X.pg, X.ph, .int .i64 T.done, .bool false] :: R)) ∨ (st ≠ 0 ∧ L = LT (SP C X1 V T' f' G' qc' n') (boxI X.thr [Value.pointer (some ⟨X.c, 0, none⟩), .pointer (some ⟨X.u, 0, none⟩), .slice (some ⟨g, off, none⟩) X.dn X.dc, .int .i64 N1, .int .i64 2, .pointer (some ⟨a, 0, none⟩), .pointer (some ⟨b, 0, none⟩), X.pr, X.pq, X.pg, X.ph, .int .i64 T.done, .bool false] :: R))) := by
    subst hX1
    rcases hcase with ⟨h0, left', s', gl', hlf', hE1⟩ | ⟨h0, hE1⟩
    · refine ⟨_, hE1.perm (perm_of fun z => by
        simp only [LT, LU, List.count_append, List.count_cons]
        omega), by simp [LT], .inl ⟨h0, left', s', gl', hlf', rfl⟩⟩
    · refine ⟨_, hE1.perm (perm_of fun z => by
        simp only [LT, LU, List.count_append, List.count_cons]
        omega), by simp [LT], .inr ⟨h0, rfl⟩⟩
  have HFIN := Lib.hid hfin
  have HMEM := Lib.hid hmem
  clear hfin hmem hcase
  have r7 : ∀ j, w1.cell? ⟨X.thr, j, none⟩ = [Value.pointer (some ⟨X.c, 0, none⟩), .pointer (some ⟨X.u, 0, none⟩), .slice (some ⟨g, off, none⟩) X.dn X.dc, .int .i64 N1, .int .i64 2, .pointer (some ⟨a, 0, none⟩), .pointer (some ⟨b, 0, none⟩), X.pr, X.pq, X.pg, X.ph, .int .i64 T.done, .bool false][j]? := Blk.rule (hL.mem (List.mem_append_right [_, _, _, _] HMEM.out))
  go_wp2_with fail
  clear r7
  refine Ord.wp_chain [22] (fun v => Below w0.heap.size w0 v ∧ Blk 0 v X.thr [Value.pointer (some ⟨X.c, 0, none⟩), .pointer (some ⟨X.u, 0, none⟩), .slice (some ⟨g, off, none⟩) X.dn X.dc, .int .i64 N1, .int .i64 2, .pointer (some ⟨a, 0, none⟩), .pointer (some ⟨b, 0, none⟩), X.pr, X.pq, X.pg, X.ph, .int .i64 T.done, .bool false]) (fun k v => if k = 0 then Env w0 (boxI b (rav (T.apc : Int) T.ah T.an T.ar) :: LU (SR C X V T FU ml) L) v else ∃ A' rc' N' FU' ml', getL ml' = f' ∧ ml'.length ≤ ml.length + 1 ∧ 0 ≤ N' ∧ N' ≤ 4000000 ∧ ((st = 0 ∧ Env w0 (boxI b (rav (T'.apc : Int) T'.ah T'.an T'.ar) :: LU (SR C { X with A := A', rc := rc', N := N' } V T' FU' ml') L) v) ∨ (st ≠ 0 ∧ Env w0 (LU (SR C { X with A := A', rc := rc', N := N' } V T' FU' ml') L) v))) (by kernel_rfl) (by kernel_rfl) (by kernel_rfl) ⟨hL.drew.below, hL.drew.mem (List.mem_append_right [_, _, _, _] HMEM.out)⟩ (by rw [if_pos rfl]; exact hL.drew) (fun hT => ?_)
  have hT9 := Lib.hid hT
  clear hT
  repeat (first
    | (refine Ord.ch_value (v := ?_) hT9.out (by decide) (by rfl) ?_ ?_; rotate_left; (focus (intro w5 hS; have r := hS.2.rule; have rc9 := HC.out _ hS.1; have c1 := rc9 1 _ rfl; have c2 := rc9 2 _ rfl; have c3 := rc9 3 _ rfl; have c4 := rc9 4 _ rfl; clear rc9; go_simp <;> with_reducible rfl)); (try simp only [Act.put, List.setIfInBounds_toArray, List.set_cons_zero, List.set_cons_succ]))
    | (refine Ord.ch_off hT9.out (by decide) (by rfl) ?_; (try simp only [Act.put, List.setIfInBounds_toArray, List.set_cons_zero, List.set_cons_succ])))
  have htn : 0 < ([22] : List Nat).length := by decide
  refine Ord.ch_turn (v := .int .i64 st) 0 hT9.out rfl (by decide) (Or.inl rfl) (by rfl) ?_ ?_
  · rintro w5 hC5 hA5
    rw [if_pos rfl] at hA5
    go_simp
    simp only [Ord.LandsIn]
    refine (HAR.out w5 L hA5).mono ?_
    rintro e w6 ⟨rfl, A', rc', N', FU', ml', h1, h2, h3, h4, h5⟩
    refine ⟨rfl, ?_, ?_⟩
    · rcases h5 with ⟨-, h5⟩ | ⟨-, h5⟩
      · exact ⟨h5.below, h5.mem (List.mem_append_right [_, _, _, _] HMEM.out)⟩
      · exact ⟨h5.below, h5.mem (List.mem_append_right [_, _, _] HMEM.out)⟩
    · exact ⟨A', rc', N', FU', ml', h1, h2, h3, h4, h5⟩
  (try simp only [Act.put, List.setIfInBounds_toArray, List.set_cons_zero, List.set_cons_succ])
  repeat (first
    | (refine Ord.ch_value (v := ?_) hT9.out (by decide) (by rfl) ?_ ?_; rotate_left; (focus (intro w5 hS; skip; go_simp <;> with_reducible rfl)); (try simp only [Act.put, List.setIfInBounds_toArray, List.set_cons_zero, List.set_cons_succ]))
    | (refine Ord.ch_off hT9.out (by decide) (by rfl) ?_; (try simp only [Act.put, List.setIfInBounds_toArray, List.set_cons_zero, List.set_cons_succ])))
  refine Ord.InText.nil fun w5 hS => ?_
  clear hT9
  obtain ⟨hC9, hA9⟩ := Ord.chain_end hS
  clear hS
  rw [if_neg (by decide)] at hA9
  obtain ⟨A', rc', N', FU', ml', h1, h2, h3, h4, h5⟩ := hA9
  -- TAIL
  have HH := Lib.hid (And.intro h1 (And.intro h2 (And.intro h3 h4)))
  have H5 := Lib.hid h5
  clear h1 h2 h3 h4 h5 hC9 hL htn
  have HKP := Lib.hid hkp
  clear hkp
  rcases hst with hst | hst | hst | hst | hst
  · obtain ⟨h1, h2, h3, h4⟩ := HH.out
    have HS := Lib.hid hst
    have b2 : (st == 2) = false := by rw [hst]; decide
    have b0 : (st != 0) = false := by rw [hst]; decide
    have b1 : (st == 1) = false := by rw [hst]; decide
    have b3 : (st == 3) = false := by rw [hst]; decide
    clear hst
    rcases HFIN.out with ⟨-, left', s', gl', hlf', hLe⟩ | ⟨h0, -⟩
    rotate_left
    · exact absurd HS.out h0
    rcases H5.out with ⟨-, hE5⟩ | ⟨h0, -⟩
    rotate_left
    · exact absurd HS.out h0
    subst hLe
    subst hX1
    have hF : Env w0 (LT (SP C ({ X with F := F', kq := k', A := A', rc := rc', N := N' } : Tm) V T' f' G' qc' n') (LU (SR C ({ X with F := F', kq := k', A := A', rc := rc', N := N' } : Tm) V T' FU' ml') (boxI X.thr [Value.pointer (some ⟨X.c, 0, none⟩), .pointer (some ⟨X.u, 0, none⟩), .slice (some ⟨g, off, none⟩) X.dn X.dc, .int .i64 N1, .int .i64 2, .pointer (some ⟨a, 0, none⟩), .pointer (some ⟨b, 0, none⟩), X.pr, X.pq, X.pg, X.ph, .int .i64 T.done, .bool false] :: boxI a (avD X.c a d T' left' s') :: boxI b (rav (T'.apc : Int) T'.ah T'.an T'.ar) :: (gl' ++ R)))) w5 := hE5.perm (perm_of fun z => by
      simp only [LT, LU, SP, SR, List.count_append, List.count_cons]
      omega)
    have HLF := Lib.hid hlf'
    clear hE5 hlf'
    have q0 := hF.rule 7 rfl
    have g0 := hF.thaw 7 rfl 12 (by simp)
    have hF0 := hF.put 7 rfl (j := 12) (by simp) (Value.bool false)
    have ht9 : thv ({ X with F := F', kq := k', A := A', rc := rc', N := N' } : Tm) ({ T' with pc := 2, done := T.done, full := false } : Th) = [Value.pointer (some ⟨X.c, 0, none⟩), .pointer (some ⟨X.u, 0, none⟩), .slice (some ⟨g, off, none⟩) X.dn X.dc, .int .i64 N1, .int .i64 2, .pointer (some ⟨a, 0, none⟩), .pointer (some ⟨b, 0, none⟩), X.pr, X.pq, X.pg, X.ph, .int .i64 T.done, .bool false] := by
      unfold thv
      dsimp only
      rw [hdA, hpa, hpb, HKP.out.2.1, HN1.out]
      rfl
    have HT9 := Lib.hid ht9
    have HPF := Lib.hid hF0
    clear ht9 hF hF0
    have hw9 : wrap64 (T.done + 1) = T.done + 1 := w64 _ (by omega)
    clear HFIN HMEM H5
    go_wp2_with fail
    (try go_ret)
    have hs9 := HS.out
    clear HS b0 b1 b2 b3
    subst hs9
    refine HPP.out _ _ ?_
    have hr1 : ({ T' with pc := if (0 : Int) = 2 then 1 else if (0 : Int) = 0 then 2 else 0, done := if (0 : Int) = 1 then T.done + 1 else T.done, full := (0 : Int) == 3 } : Th) = ({ T' with pc := 2, done := T.done, full := false } : Th) := rfl
    rw [hr1]
    refine ⟨rfl, ({ X with F := F', kq := k', A := A', rc := rc', N := N' } : Tm), G', FU', qc', n', ml', boxI a (avD X.c a d T' left' s') :: boxI b (rav (T'.apc : Int) T'.ah T'.an T'.ar) :: gl', ⟨rfl, rfl, rfl, rfl, rfl, rfl, rfl⟩, h1, h2, hn', h3, h4, (by unfold Mach; rw [if_pos rfl]; exact ⟨a, b, left', s', gl', hpa, hpb, HLF.out, rfl⟩), ?_⟩
    rw [HT9.out, h1]
    exact HPF.out
  · obtain ⟨h1, h2, h3, h4⟩ := HH.out
    have HS := Lib.hid hst
    have b2 : (st == 2) = false := by rw [hst]; decide
    have b0 : (st != 0) = true := by rw [hst]; decide
    have b1 : (st == 1) = true := by rw [hst]; decide
    have b3 : (st == 3) = false := by rw [hst]; decide
    clear hst
    rcases HFIN.out with ⟨h0, -⟩ | ⟨-, hLe⟩
    · exact absurd (HS.out.symm.trans h0) (by decide)
    rcases H5.out with ⟨h0, -⟩ | ⟨-, hE5⟩
    · exact absurd (HS.out.symm.trans h0) (by decide)
    subst hLe
    subst hX1
    have hF : Env w0 (LT (SP C ({ X with F := F', kq := k', A := A', rc := rc', N := N' } : Tm) V T' f' G' qc' n') (LU (SR C ({ X with F := F', kq := k', A := A', rc := rc', N := N' } : Tm) V T' FU' ml') (boxI X.thr [Value.pointer (some ⟨X.c, 0, none⟩), .pointer (some ⟨X.u, 0, none⟩), .slice (some ⟨g, off, none⟩) X.dn X.dc, .int .i64 N1, .int .i64 2, .pointer (some ⟨a, 0, none⟩), .pointer (some ⟨b, 0, none⟩), X.pr, X.pq, X.pg, X.ph, .int .i64 T.done, .bool false] :: R))) w5 := hE5.perm (perm_of fun z => by
      simp only [LT, LU, SP, SR, List.count_append, List.count_cons]
      omega)
    clear hE5
    have q0 := hF.rule 7 rfl
    have g0 := hF.thaw 7 rfl 4 (by simp)
    have hF0 := hF.put 7 rfl (j := 4) (by simp) (Value.int .i64 0)
    have q1 := hF0.rule 7 rfl
    have g1 := hF0.thaw 7 rfl 11 (by simp)
    have hF1 := hF0.put 7 rfl (j := 11) (by simp) (Value.int .i64 (T.done + 1))
    have q2 := hF1.rule 7 rfl
    have g2 := hF1.thaw 7 rfl 12 (by simp)
    have hF2 := hF1.put 7 rfl (j := 12) (by simp) (Value.bool false)
    have ht9 : thv ({ X with F := F', kq := k', A := A', rc := rc', N := N' } : Tm) ({ T' with pc := 0, done := (T.done + 1), full := false } : Th) = [Value.pointer (some ⟨X.c, 0, none⟩), .pointer (some ⟨X.u, 0, none⟩), .slice (some ⟨g, off, none⟩) X.dn X.dc, .int .i64 N1, .int .i64 0, .pointer (some ⟨a, 0, none⟩), .pointer (some ⟨b, 0, none⟩), X.pr, X.pq, X.pg, X.ph, .int .i64 (T.done + 1), .bool false] := by
      unfold thv
      dsimp only
      rw [hdA, hpa, hpb, HKP.out.2.1, HN1.out]
      rfl
    have HT9 := Lib.hid ht9
    have HPF := Lib.hid hF2
    clear ht9 hF hF0 hF1 hF2
    have hw9 : wrap64 (T.done + 1) = T.done + 1 := w64 _ (by omega)
    clear HFIN HMEM H5
    go_wp2_with fail
    (try go_ret)
    have hs9 := HS.out
    clear HS b0 b1 b2 b3
    subst hs9
    refine HPP.out _ _ ?_
    have hr1 : ({ T' with pc := if (1 : Int) = 2 then 1 else if (1 : Int) = 0 then 2 else 0, done := if (1 : Int) = 1 then T.done + 1 else T.done, full := (1 : Int) == 3 } : Th) = ({ T' with pc := 0, done := (T.done + 1), full := false } : Th) := rfl
    rw [hr1]
    refine ⟨rfl, ({ X with F := F', kq := k', A := A', rc := rc', N := N' } : Tm), G', FU', qc', n', ml', [], ⟨rfl, rfl, rfl, rfl, rfl, rfl, rfl⟩, h1, h2, hn', h3, h4, (by unfold Mach; rw [if_neg (show ¬ (0 : Nat) = 2 by decide), if_neg (show ¬ (0 : Nat) = 3 by decide), if_neg (show ¬ (0 : Nat) = 4 by decide)]), ?_⟩
    rw [HT9.out, h1]
    exact HPF.out
  · obtain ⟨h1, h2, h3, h4⟩ := HH.out
    have HS := Lib.hid hst
    have b2 : (st == 2) = true := by rw [hst]; decide
    have b0 : (st != 0) = true := by rw [hst]; decide
    have b1 : (st == 1) = false := by rw [hst]; decide
    have b3 : (st == 3) = false := by rw [hst]; decide
    clear hst
    rcases HFIN.out with ⟨h0, -⟩ | ⟨-, hLe⟩
    · exact absurd (HS.out.symm.trans h0) (by decide)
    rcases H5.out with ⟨h0, -⟩ | ⟨-, hE5⟩
    · exact absurd (HS.out.symm.trans h0) (by decide)
    subst hLe
    subst hX1
    have hF : Env w0 (LT (SP C ({ X with F := F', kq := k', A := A', rc := rc', N := N' } : Tm) V T' f' G' qc' n') (LU (SR C ({ X with F := F', kq := k', A := A', rc := rc', N := N' } : Tm) V T' FU' ml') (boxI X.thr [Value.pointer (some ⟨X.c, 0, none⟩), .pointer (some ⟨X.u, 0, none⟩), .slice (some ⟨g, off, none⟩) X.dn X.dc, .int .i64 N1, .int .i64 2, .pointer (some ⟨a, 0, none⟩), .pointer (some ⟨b, 0, none⟩), X.pr, X.pq, X.pg, X.ph, .int .i64 T.done, .bool false] :: R))) w5 := hE5.perm (perm_of fun z => by
      simp only [LT, LU, SP, SR, List.count_append, List.count_cons]
      omega)
    clear hE5
    have q0 := hF.rule 7 rfl
    have g0 := hF.thaw 7 rfl 4 (by simp)
    have hF0 := hF.put 7 rfl (j := 4) (by simp) (Value.int .i64 1)
    have q1 := hF0.rule 7 rfl
    have g1 := hF0.thaw 7 rfl 12 (by simp)
    have hF1 := hF0.put 7 rfl (j := 12) (by simp) (Value.bool false)
    have ht9 : thv ({ X with F := F', kq := k', A := A', rc := rc', N := N' } : Tm) ({ T' with pc := 1, done := T.done, full := false } : Th) = [Value.pointer (some ⟨X.c, 0, none⟩), .pointer (some ⟨X.u, 0, none⟩), .slice (some ⟨g, off, none⟩) X.dn X.dc, .int .i64 N1, .int .i64 1, .pointer (some ⟨a, 0, none⟩), .pointer (some ⟨b, 0, none⟩), X.pr, X.pq, X.pg, X.ph, .int .i64 T.done, .bool false] := by
      unfold thv
      dsimp only
      rw [hdA, hpa, hpb, HKP.out.2.1, HN1.out]
      rfl
    have HT9 := Lib.hid ht9
    have HPF := Lib.hid hF1
    clear ht9 hF hF0 hF1
    have hw9 : wrap64 (T.done + 1) = T.done + 1 := w64 _ (by omega)
    clear HFIN HMEM H5
    go_wp2_with fail
    (try go_ret)
    have hs9 := HS.out
    clear HS b0 b1 b2 b3
    subst hs9
    refine HPP.out _ _ ?_
    have hr1 : ({ T' with pc := if (2 : Int) = 2 then 1 else if (2 : Int) = 0 then 2 else 0, done := if (2 : Int) = 1 then T.done + 1 else T.done, full := (2 : Int) == 3 } : Th) = ({ T' with pc := 1, done := T.done, full := false } : Th) := rfl
    rw [hr1]
    refine ⟨rfl, ({ X with F := F', kq := k', A := A', rc := rc', N := N' } : Tm), G', FU', qc', n', ml', [], ⟨rfl, rfl, rfl, rfl, rfl, rfl, rfl⟩, h1, h2, hn', h3, h4, (by unfold Mach; rw [if_neg (show ¬ (1 : Nat) = 2 by decide), if_neg (show ¬ (1 : Nat) = 3 by decide), if_neg (show ¬ (1 : Nat) = 4 by decide)]), ?_⟩
    rw [HT9.out, h1]
    exact HPF.out
  · obtain ⟨h1, h2, h3, h4⟩ := HH.out
    have HS := Lib.hid hst
    have b2 : (st == 2) = false := by rw [hst]; decide
    have b0 : (st != 0) = true := by rw [hst]; decide
    have b1 : (st == 1) = false := by rw [hst]; decide
    have b3 : (st == 3) = true := by rw [hst]; decide
    clear hst
    rcases HFIN.out with ⟨h0, -⟩ | ⟨-, hLe⟩
    · exact absurd (HS.out.symm.trans h0) (by decide)
    rcases H5.out with ⟨h0, -⟩ | ⟨-, hE5⟩
    · exact absurd (HS.out.symm.trans h0) (by decide)
    subst hLe
    subst hX1
    have hF : Env w0 (LT (SP C ({ X with F := F', kq := k', A := A', rc := rc', N := N' } : Tm) V T' f' G' qc' n') (LU (SR C ({ X with F := F', kq := k', A := A', rc := rc', N := N' } : Tm) V T' FU' ml') (boxI X.thr [Value.pointer (some ⟨X.c, 0, none⟩), .pointer (some ⟨X.u, 0, none⟩), .slice (some ⟨g, off, none⟩) X.dn X.dc, .int .i64 N1, .int .i64 2, .pointer (some ⟨a, 0, none⟩), .pointer (some ⟨b, 0, none⟩), X.pr, X.pq, X.pg, X.ph, .int .i64 T.done, .bool false] :: R))) w5 := hE5.perm (perm_of fun z => by
      simp only [LT, LU, SP, SR, List.count_append, List.count_cons]
      omega)
    clear hE5
    have q0 := hF.rule 7 rfl
    have g0 := hF.thaw 7 rfl 4 (by simp)
    have hF0 := hF.put 7 rfl (j := 4) (by simp) (Value.int .i64 0)
    have q1 := hF0.rule 7 rfl
    have g1 := hF0.thaw 7 rfl 12 (by simp)
    have hF1 := hF0.put 7 rfl (j := 12) (by simp) (Value.bool true)
    have ht9 : thv ({ X with F := F', kq := k', A := A', rc := rc', N := N' } : Tm) ({ T' with pc := 0, done := T.done, full := true } : Th) = [Value.pointer (some ⟨X.c, 0, none⟩), .pointer (some ⟨X.u, 0, none⟩), .slice (some ⟨g, off, none⟩) X.dn X.dc, .int .i64 N1, .int .i64 0, .pointer (some ⟨a, 0, none⟩), .pointer (some ⟨b, 0, none⟩), X.pr, X.pq, X.pg, X.ph, .int .i64 T.done, .bool true] := by
      unfold thv
      dsimp only
      rw [hdA, hpa, hpb, HKP.out.2.1, HN1.out]
      rfl
    have HT9 := Lib.hid ht9
    have HPF := Lib.hid hF1
    clear ht9 hF hF0 hF1
    have hw9 : wrap64 (T.done + 1) = T.done + 1 := w64 _ (by omega)
    clear HFIN HMEM H5
    go_wp2_with fail
    (try go_ret)
    have hs9 := HS.out
    clear HS b0 b1 b2 b3
    subst hs9
    refine HPP.out _ _ ?_
    have hr1 : ({ T' with pc := if (3 : Int) = 2 then 1 else if (3 : Int) = 0 then 2 else 0, done := if (3 : Int) = 1 then T.done + 1 else T.done, full := (3 : Int) == 3 } : Th) = ({ T' with pc := 0, done := T.done, full := true } : Th) := rfl
    rw [hr1]
    refine ⟨rfl, ({ X with F := F', kq := k', A := A', rc := rc', N := N' } : Tm), G', FU', qc', n', ml', [], ⟨rfl, rfl, rfl, rfl, rfl, rfl, rfl⟩, h1, h2, hn', h3, h4, (by unfold Mach; rw [if_neg (show ¬ (0 : Nat) = 2 by decide), if_neg (show ¬ (0 : Nat) = 3 by decide), if_neg (show ¬ (0 : Nat) = 4 by decide)]), ?_⟩
    rw [HT9.out, h1]
    exact HPF.out
  · obtain ⟨h1, h2, h3, h4⟩ := HH.out
    have HS := Lib.hid hst
    have b2 : (st == 2) = false := by rw [hst]; decide
    have b0 : (st != 0) = true := by rw [hst]; decide
    have b1 : (st == 1) = false := by rw [hst]; decide
    have b3 : (st == 3) = false := by rw [hst]; decide
    clear hst
    rcases HFIN.out with ⟨h0, -⟩ | ⟨-, hLe⟩
    · exact absurd (HS.out.symm.trans h0) (by decide)
    rcases H5.out with ⟨h0, -⟩ | ⟨-, hE5⟩
    · exact absurd (HS.out.symm.trans h0) (by decide)
    subst hLe
    subst hX1
    have hF : Env w0 (LT (SP C ({ X with F := F', kq := k', A := A', rc := rc', N := N' } : Tm) V T' f' G' qc' n') (LU (SR C ({ X with F := F', kq := k', A := A', rc := rc', N := N' } : Tm) V T' FU' ml') (boxI X.thr [Value.pointer (some ⟨X.c, 0, none⟩), .pointer (some ⟨X.u, 0, none⟩), .slice (some ⟨g, off, none⟩) X.dn X.dc, .int .i64 N1, .int .i64 2, .pointer (some ⟨a, 0, none⟩), .pointer (some ⟨b, 0, none⟩), X.pr, X.pq, X.pg, X.ph, .int .i64 T.done, .bool false] :: R))) w5 := hE5.perm (perm_of fun z => by
      simp only [LT, LU, SP, SR, List.count_append, List.count_cons]
      omega)
    clear hE5
    have q0 := hF.rule 7 rfl
    have g0 := hF.thaw 7 rfl 4 (by simp)
    have hF0 := hF.put 7 rfl (j := 4) (by simp) (Value.int .i64 0)
    have q1 := hF0.rule 7 rfl
    have g1 := hF0.thaw 7 rfl 12 (by simp)
    have hF1 := hF0.put 7 rfl (j := 12) (by simp) (Value.bool false)
    have ht9 : thv ({ X with F := F', kq := k', A := A', rc := rc', N := N' } : Tm) ({ T' with pc := 0, done := T.done, full := false } : Th) = [Value.pointer (some ⟨X.c, 0, none⟩), .pointer (some ⟨X.u, 0, none⟩), .slice (some ⟨g, off, none⟩) X.dn X.dc, .int .i64 N1, .int .i64 0, .pointer (some ⟨a, 0, none⟩), .pointer (some ⟨b, 0, none⟩), X.pr, X.pq, X.pg, X.ph, .int .i64 T.done, .bool false] := by
      unfold thv
      dsimp only
      rw [hdA, hpa, hpb, HKP.out.2.1, HN1.out]
      rfl
    have HT9 := Lib.hid ht9
    have HPF := Lib.hid hF1
    clear ht9 hF hF0 hF1
    have hw9 : wrap64 (T.done + 1) = T.done + 1 := w64 _ (by omega)
    clear HFIN HMEM H5
    go_wp2_with fail
    (try go_ret)
    have hs9 := HS.out
    clear HS b0 b1 b2 b3
    subst hs9
    refine HPP.out _ _ ?_
    have hr1 : ({ T' with pc := if (4 : Int) = 2 then 1 else if (4 : Int) = 0 then 2 else 0, done := if (4 : Int) = 1 then T.done + 1 else T.done, full := (4 : Int) == 3 } : Th) = ({ T' with pc := 0, done := T.done, full := false } : Th) := rfl
    rw [hr1]
    refine ⟨rfl, ({ X with F := F', kq := k', A := A', rc := rc', N := N' } : Tm), G', FU', qc', n', ml', [], ⟨rfl, rfl, rfl, rfl, rfl, rfl, rfl⟩, h1, h2, hn', h3, h4, (by unfold Mach; rw [if_neg (show ¬ (0 : Nat) = 2 by decide), if_neg (show ¬ (0 : Nat) = 3 by decide), if_neg (show ¬ (0 : Nat) = 4 by decide)]), ?_⟩
    rw [HT9.out, h1]
    exact HPF.out
end
end Go.Proofs.YtmifdkbpbkafjaaGreatDoor

/- Threads: begin, over the model; a step that finds nothing to begin. -/
namespace Go.Proofs.YtmifdkbpbkafjaaGreatDoor
open Go.RowKit Go.Maps
set_option maxRecDepth 100000

section
variable {w0 w : World} {R : List Item} {C : Cf} {X : Tm} {V : Wm} {T : Th} {G FU : Nat → Prop} {qc : Cnt} {ml : List OneR} {n : Nat}
set_option maxHeartbeats 1600000 in
theorem begin_T (ds : List Dd) (hds : RowX encD 5 w0 X.dA ds) (hdn : X.dn = ds.length) (hdl : ds.length ≤ 1000) (hnd : T.nd ≤ ds.length) (h0 : 0 ≤ T.hs) (hq : T.ql.length + (ds.length - T.nd) ≤ 1000000) (hN : 0 ≤ X.N ∧ X.N ≤ 4000000) (hpc : T.pc = 0)
    (hE : Env w0 (LT (SP C X V T (getL ml) G qc n) (LU (SR C X V T FU ml) (boxI X.thr (thv X T) :: R))) w) :
    Calls Tryz.prog 39 #[.pointer (some ⟨X.thr, 0, none⟩)] w fun o w' => ∃ (X' : Tm) (T' : Th), Same X X' ∧ 0 ≤ X'.N ∧ X'.N ≤ 4000000 ∧
      ((beginM (ds.drop T.nd) T = (false, T') ∧ T'.pc = 0 ∧ o = .returned (.bool false) ∧ Env w0 (LT (SP C X' V T' (getL ml) G qc n) (LU (SR C X' V T' FU ml) (boxI X.thr (thv X' T') :: R))) w') ∨
       (beginM (ds.drop T.nd) T = (true, T') ∧ T'.pc = 1 ∧ o = .returned (.bool true) ∧ Env w0 (LT (SP C X' V T' (getL ml) G qc n) (LU (SR C X' V T' FU ml) (boxI X.thr (thv X' T') :: R))) w') ∨
       (∃ a b, beginM (ds.drop T.nd) T = (true, T') ∧ T'.pc = 3 ∧ T'.rpc = 0 ∧ X'.pr = .pointer (some ⟨a, 0, none⟩) ∧ X'.pq = .pointer (some ⟨b, 0, none⟩) ∧ o = .returned (.bool true) ∧ Env w0 (LT (SP C X' V T' (getL ml) G qc n) (LU (SR C X' V T' FU ml) (boxI X.thr (thv X' T') :: boxI a (rtv X'.c (nxR a T'.rpc) T'.rs T'.re) :: boxI b (rrv T'.rs (T'.rpc : Int) T'.re) :: R))) w') ∨
       (∃ a b, beginM (ds.drop T.nd) T = (true, T') ∧ T'.pc = 4 ∧ T'.gpc = 0 ∧ X'.pg = .pointer (some ⟨a, 0, none⟩) ∧ X'.ph = .pointer (some ⟨b, 0, none⟩) ∧ o = .returned (.bool true) ∧ Env w0 (LT (SP C X' V T' (getL ml) G qc n) (LU (SR C X' V T' FU ml) (boxI X.thr (thv X' T') :: boxI a (gvv X'.c (nxG a T'.gpc) T'.gh T'.gg) :: boxI b (rgv (T'.gpc : Int) T'.gh T'.gg) :: R))) w')) := by
  obtain ⟨e, ql, hs, nd, pc, apc, ah, an, ar, rs, rpc, re, gpc, gh, gg, done, full⟩ := T
  obtain rfl : pc = 0 := hpc
  refine (begin_t (thr := X.thr) (c := X.c) (q := X.q) (u := X.u) (F := X.F) (kq := X.kq) (A := X.A) (rc := X.rc) (N := X.N) (cr := X.cr) (ro := X.ro) (p := V.p) (cc := V.cc) (m := V.m) (dc := X.dc) (pa := X.pa) (pb := X.pb) (pr := X.pr) (pq := X.pq) (pg := X.pg) (ph := X.ph) (apc := apc) (ah := ah) (an := an) (ar := ar) (rs := rs) (rpc := rpc) (re := re) (gpc := gpc) (gh := gh) (gg := gg) (done := done) (full := full) ds hds hdn hdl hnd h0 hq hN hE).mono ?_
  rintro o w' ⟨nd', hs', ql', F', k', A', rc', N', hN0, hN1, h⟩
  rcases h with ⟨hb, ho, hE'⟩ | ⟨hb, ho, hE'⟩ | ⟨r, x, hb, ho, hE'⟩ | ⟨r, x, hb, ho, hE'⟩
  · exact ⟨{ X with F := F', kq := k', A := A', rc := rc', N := N' }, _, ⟨rfl, rfl, rfl, rfl, rfl, rfl, rfl⟩, hN0, hN1, .inl ⟨hb, rfl, ho, hE'⟩⟩
  · exact ⟨{ X with F := F', kq := k', A := A', rc := rc', N := N' }, _, ⟨rfl, rfl, rfl, rfl, rfl, rfl, rfl⟩, hN0, hN1, .inr (.inl ⟨hb, rfl, ho, hE'⟩)⟩
  · exact ⟨{ X with F := F', kq := k', A := A', rc := rc', N := N', pr := .pointer (some ⟨r, 0, none⟩), pq := .pointer (some ⟨x, 0, none⟩) }, _, ⟨rfl, rfl, rfl, rfl, rfl, rfl, rfl⟩, hN0, hN1, .inr (.inr (.inl ⟨r, x, hb, rfl, rfl, rfl, rfl, ho, hE'⟩))⟩
  · exact ⟨{ X with F := F', kq := k', A := A', rc := rc', N := N', pg := .pointer (some ⟨r, 0, none⟩), ph := .pointer (some ⟨x, 0, none⟩) }, _, ⟨rfl, rfl, rfl, rfl, rfl, rfl, rfl⟩, hN0, hN1, .inr (.inr (.inr ⟨r, x, hb, rfl, rfl, rfl, rfl, ho, hE'⟩))⟩
set_option maxHeartbeats 1600000 in
theorem step00_t (Q : World → Prop) (r70 : w.cell? ⟨X.thr, 4, none⟩ = some (.int .i64 0)) (hbg : Calls Tryz.prog 39 #[.pointer (some ⟨X.thr, 0, none⟩)] w fun o w' => o = .returned (.bool false) ∧ Q w') :
    Calls Tryz.prog 14 #[.pointer (some ⟨X.thr, 0, none⟩), .pointer (some ⟨V.p, 0, none⟩), .pointer (some ⟨V.m, 0, none⟩)] w fun o w' => o = .returned (.bool true) ∧ Q w' := by
  have HBG := Lib.hid hbg
  clear hbg
  go_enter Tryz.func14, Tryz.ntmps14
  go_wp2_with fail
  refine HBG.out.mono ?_
  rintro o w1 ⟨rfl, hQ⟩
  clear HBG r70
  go_wp2_with fail
  (try go_ret)
  exact ⟨rfl, hQ⟩
end
end Go.Proofs.YtmifdkbpbkafjaaGreatDoor

/- Threads: the contract of step, where a checkpoint is due and an Alloc begins. -/
namespace Go.Proofs.YtmifdkbpbkafjaaGreatDoor
open Go.RowKit Go.Maps
set_option maxRecDepth 100000

section
variable {w0 w : World} {R : List Item} {C : Cf} {d : Dd} {X : Tm} {V : Wm} {T : Th} {G FU : Nat → Prop} {qc : Cnt} {ml : List OneR} {n : Nat}
set_option maxHeartbeats 6400000 in
theorem step1_t (ds : List Dd) (hds : RowX encD 5 w0 X.dA ds) (hdn : X.dn = ds.length) (hdl : ds.length ≤ 1000) (hnd : 1 ≤ T.nd ∧ T.nd ≤ ds.length) (hdd : ds.getD (T.nd - 1) default = d) (hpc : T.pc = 1) (hs0 : T.hs = 0)
    (hml : ml.length ≤ 999999) (hN : 0 ≤ X.N ∧ X.N ≤ 4000000)
    (hE : Env w0 (LT (SP C X V T (getL ml) G qc n) (LU (SR C X V T FU ml) (boxI X.thr (thv X T) :: R))) w) :
    Calls Tryz.prog 14 #[.pointer (some ⟨X.thr, 0, none⟩), .pointer (some ⟨V.p, 0, none⟩), .pointer (some ⟨V.m, 0, none⟩)] w fun o w' => o = .returned (.bool true) ∧ ∃ (X' : Tm) (G' FU' : Nat → Prop) (qc' : Cnt) (n' : Nat) (ml' : List OneR) (ms' : List Item), Same X X' ∧ getL ml' = (actM C d T (getL ml)).2 ∧ ml'.length ≤ ml.length + 1 ∧ n' ≤ n + 1 ∧ 0 ≤ X'.N ∧ X'.N ≤ 4000000 ∧ Mach C d X' (actM C d T (getL ml)).1 ms' ∧ Env w0 (LT (SP C X' V (actM C d T (getL ml)).1 (getL ml') G' qc' n') (LU (SR C X' V (actM C d T (getL ml)).1 FU' ml') (boxI X'.thr (thv X' (actM C d T (getL ml)).1) :: (ms' ++ R)))) w' := by
  have hfu : ∀ x, InU (getL ml x) := fun x => (hE.cell 3 rfl).words.1 x
  obtain ⟨m, hm⟩ : ∃ m, T.nd = m + 1 := ⟨T.nd - 1, by omega⟩
  have hmm : T.nd - 1 = m := by omega
  rw [hmm] at hdd
  obtain ⟨g, off, hdA, hc⟩ := rowD hds (Below.refl _ _) m (by omega)
  rw [hdd] at hc
  have HC := Lib.hid hc
  obtain ⟨N1, hN1⟩ : ∃ N1 : Int, (T.nd : Int) = N1 := ⟨_, rfl⟩
  have HN1 := Lib.hid hN1
  have hx1 : wrap64 (N1 - 1) = (m : Int) := by rw [w64 _ (by omega)]; omega
  have hx2 : N1 - 1 = (m : Int) := by omega
  have hlt1 : (m : Int) < ((X.dn : Nat) : Int) := by omega
  have hge1 : (0 : Int) ≤ (m : Int) := by omega
  have hb1 : decide ((m : Int) < ((X.dn : Nat) : Int)) = true := by simpa using hlt1
  have hb2 : m < X.dn := by omega
  have hx4 : IntKind.i64.wrap (m : Int) = (m : Int) := (wrap_i _).trans (w64 _ (by omega))
  obtain ⟨e1, he1⟩ : ∃ e1, epI (getL ml (1, 0, 0)) = e1 := ⟨_, rfl⟩
  obtain ⟨D, hD⟩ : ∃ D, decP T.ql e1 C.l = D := ⟨_, rfl⟩
  have hact : actM C d T (getL ml) = ({ T with e := e1, apc := D, ah := 0, an := 0, ar := 0, pc := if D = 0 then 0 else 2, full := false }, getL ml) := by
    unfold actM
    rw [if_pos hpc, he1]
    dsimp only
    rw [hD]
  obtain ⟨T9, hT9⟩ : ∃ T9 : Th, T9 = { T with e := e1, apc := D, ah := 0, an := 0, ar := 0, pc := if D = 0 then 0 else 2, full := false } := ⟨_, rfl⟩
  rw [← hT9] at hact
  rw [hact]
  have HT9 := Lib.hid hT9
  clear hact hT9
  have hthv : thv X T = [Value.pointer (some ⟨X.c, 0, none⟩), .pointer (some ⟨X.u, 0, none⟩), .slice (some ⟨g, off, none⟩) X.dn X.dc, .int .i64 N1, .int .i64 1, X.pa, X.pb, X.pr, X.pq, X.pg, X.ph, .int .i64 T.done, .bool T.full] := by
    unfold thv
    rw [hdA, hN1, hpc]
    rfl
  rw [hthv] at hE
  have r7 := hE.rule 7 rfl
  have f12 := hE.thaw 7 rfl 12 (by simp)
  have hE1 := hE.put 7 rfl (j := 12) (by simp) (.bool false)
  have r7b : ∀ j, (w.setCell ⟨X.thr, 12, none⟩ (.bool false)).cell? ⟨X.thr, j, none⟩ = [Value.pointer (some ⟨X.c, 0, none⟩), .pointer (some ⟨X.u, 0, none⟩), .slice (some ⟨g, off, none⟩) X.dn X.dc, .int .i64 N1, .int .i64 1, X.pa, X.pb, X.pr, X.pq, X.pg, X.ph, .int .i64 T.done, .bool false][j]? := hE1.rule 7 rfl
  have HCH := Lib.hid (check_w (getL ml (1, 0, 0)) rfl 0 2 3 (by decide) (by decide) hE1 rfl rfl rfl)
  have HRC := Lib.hid (fun (L : List Item) (w : World) (h0 : Env w0 L w) h4 h6 => rcheck_w (getL ml (1, 0, 0)) rfl (hfu _) (by omega) 4 6 h0 (u := X.u) (k := C.k) (s := C.s) (b := C.b) (h := C.h) (l := C.l) (e := T.e) (A := X.A) (n := T.ql.length) (c := X.rc) (N := X.N) (hs := T.hs) (r := X.ro) (m := V.m) (F := FU) h4 h6)
  have HN := Lib.hid hN
  have HE1 := Lib.hid he1
  have HD := Lib.hid hD
  have HPC := Lib.hid hs0
  have HDA := Lib.hid hdA
  have HML := Lib.hid hml
  clear hthv hc hds hdn hdl hnd hdd hN1 hN he1 hD hs0 hpc hE hE1 hdA hfu hml
  refine gen_post fun PP HPP => ?_
  go_enter Tryz.func14, Tryz.ntmps14
  go_wp2_with fail
  refine HCH.out.mono ?_
  rintro o w1 ⟨rfl, hE2⟩
  clear HCH r7 r7b f12
  rw [HE1.out] at hE2
  obtain ⟨qc1, hqc1⟩ : ∃ qc1 : Cnt, qc1 = { (SP C X V T (getL ml) G qc n).qc with l := wrap64 ((SP C X V T (getL ml) G qc n).qc.l + 1) } := ⟨_, rfl⟩
  obtain ⟨T1, hT1⟩ : ∃ T1 : Th, T1 = { T with e := e1 } := ⟨_, rfl⟩
  have hE3 : Env w0 (LT (SP C X V T1 (getL ml) G qc1 n) (LU (SR C X V T FU ml) (boxI X.thr [Value.pointer (some ⟨X.c, 0, none⟩), .pointer (some ⟨X.u, 0, none⟩), .slice (some ⟨g, off, none⟩) X.dn X.dc, .int .i64 N1, .int .i64 1, X.pa, X.pb, X.pr, X.pq, X.pg, X.ph, .int .i64 T.done, .bool false] :: R))) w1 := by
    rw [hT1, hqc1]
    exact hE2
  clear hE2 hqc1
  have r7 : ∀ j, w1.cell? ⟨X.thr, j, none⟩ = [Value.pointer (some ⟨X.c, 0, none⟩), .pointer (some ⟨X.u, 0, none⟩), .slice (some ⟨g, off, none⟩) X.dn X.dc, .int .i64 N1, .int .i64 1, X.pa, X.pb, X.pr, X.pq, X.pg, X.ph, .int .i64 T.done, .bool false][j]? := hE3.rule 7 rfl
  go_wp2_with fail
  refine (HRC.out _ w1 hE3 rfl rfl).mono ?_
  rintro o w2 ⟨rfl, hE4⟩
  rw [HE1.out] at hE4
  have hE5 : Env w0 (LT (SP C X V T1 (getL ml) G qc1 n) (LU (SR C X V T1 FU ml) (boxI X.thr [Value.pointer (some ⟨X.c, 0, none⟩), .pointer (some ⟨X.u, 0, none⟩), .slice (some ⟨g, off, none⟩) X.dn X.dc, .int .i64 N1, .int .i64 1, X.pa, X.pb, X.pr, X.pq, X.pg, X.ph, .int .i64 T.done, .bool false] :: R))) w2 := by
    rw [hT1] at hE4 ⊢
    exact hE4
  clear hE4 hE3 r7 HRC
  have hnew := fun (v : World) (L : List Item) (h : Env w0 (LT (SP C X V T1 (getL ml) G qc1 n) L) v) => new_a d.ok d.key d.val d.lv (by show T1.hs = 0; rw [hT1]; exact HPC.out) h
  have hdec : decP (SP C X V T1 (getL ml) G qc1 n).ql (SP C X V T1 (getL ml) G qc1 n).ce (SP C X V T1 (getL ml) G qc1 n).cl = D := by
    show decP T1.ql T1.e C.l = D
    rw [hT1]
    exact HD.out
  simp only [hdec] at hnew
  have hnl := fun (h0 : D = 0) (v : World) (L : List Item) (h : Env w0 (LT (SP C X V T1 (getL ml) G qc1 n) L) v) => (hnew v L h).mono (R' := fun o w' => o = .returned (.tuple #[.pointer none, .int .i64 4]) ∧ Env w0 (LT (SP C X V T1 (getL ml) G qc1 n) L) w') (by rintro o w' (⟨-, h1, h2⟩ | ⟨h1, -⟩); exact ⟨h1, h2⟩; exact absurd h0 h1)
  have hny := fun (h0 : D ≠ 0) (v : World) (L : List Item) (h : Env w0 (LT (SP C X V T1 (getL ml) G qc1 n) L) v) => (hnew v L h).mono (R' := fun o w' => ∃ a1, o = .returned (.tuple #[.pointer (some ⟨a1, 0, none⟩), .int .i64 0]) ∧ Env w0 (boxI a1 (av X.c { nx := nxA a1 D, left := .slice none 0 0, k := d.ok, key := d.key, val := d.val, lv := d.lv, h := 0, n := 0, r := 0, s := 0 }) :: LT (SP C X V T1 (getL ml) G qc1 n) L) w') (by rintro o w' (⟨h1, -⟩ | ⟨-, h1⟩); exact absurd h1 h0; exact h1)
  have HNL := Lib.hid hnl
  have HNY := Lib.hid hny
  have hdr := fun (v : World) (B : Nat) (L : List Item) (h : Env w0 (boxI B (rav 0 0 0 0) :: LU (SR C X V T1 FU ml) L) v) => rdecide_a h
  have hdec2 : decP (SR C X V T1 FU ml).ql (SR C X V T1 FU ml).ce (SR C X V T1 FU ml).cl = D := hdec
  have hdec3 : decS (SR C X V T1 FU ml).ql (SR C X V T1 FU ml).ce (SR C X V T1 FU ml).cl = if D = 0 then 4 else 0 := by
    unfold decS
    rw [hdec2]
  simp only [hdec2, hdec3] at hdr
  have HDR := Lib.hid hdr
  have HT1 := Lib.hid hT1
  clear hdr hdec2 hdec3
  clear hnew hdec hT1 hnl hny
  go_wp2_with fail
  by_cases h0 : D = 0
  · subst h0
    refine Ord.wp_chain [] (fun v => Env w0 (LT (SP C X V T1 (getL ml) G qc1 n) (LU (SR C X V T1 FU ml) (boxI X.thr [Value.pointer (some ⟨X.c, 0, none⟩), .pointer (some ⟨X.u, 0, none⟩), .slice (some ⟨g, off, none⟩) X.dn X.dc, .int .i64 N1, .int .i64 1, X.pa, X.pb, X.pr, X.pq, X.pg, X.ph, .int .i64 T.done, .bool false] :: R))) v) (fun _ _ => True) (by kernel_rfl) (by kernel_rfl) (by kernel_rfl) hE5.drew trivial (fun hT => ?_)
    have hT9 := Lib.hid hT
    clear hT
    repeat (first
      | (refine Ord.ch_value (v := ?_) hT9.out (by decide) (by rfl) ?_ ?_; rotate_left; (focus (intro w5 hS; have hS9 := (show Below w0.heap.size w0 w5 ∧ Blk 0 w5 X.thr [Value.pointer (some ⟨X.c, 0, none⟩), .pointer (some ⟨X.u, 0, none⟩), .slice (some ⟨g, off, none⟩) X.dn X.dc, .int .i64 N1, .int .i64 1, X.pa, X.pb, X.pr, X.pq, X.pg, X.ph, .int .i64 T.done, .bool false] from ⟨hS.below, hS.get 7 rfl⟩); have r := hS9.2.rule; have rc9 := HC.out _ hS9.1; have c1 := rc9 1 _ rfl; have c2 := rc9 2 _ rfl; have c3 := rc9 3 _ rfl; have c4 := rc9 4 _ rfl; clear rc9; go_simp <;> with_reducible rfl)); (try simp only [Act.put, List.setIfInBounds_toArray, List.set_cons_zero, List.set_cons_succ]))
      | (refine Ord.ch_off hT9.out (by decide) (by rfl) ?_; (try simp only [Act.put, List.setIfInBounds_toArray, List.set_cons_zero, List.set_cons_succ]))
      | (refine Ord.ch_call (v := ?_) (f := ?_) (args := ?_) hT9.out (by decide) (by rfl) ?_ ?_ ?_; rotate_left 3; (focus (intro w5 hS; have hS9 := (show Below w0.heap.size w0 w5 ∧ Blk 0 w5 X.thr [Value.pointer (some ⟨X.c, 0, none⟩), .pointer (some ⟨X.u, 0, none⟩), .slice (some ⟨g, off, none⟩) X.dn X.dc, .int .i64 N1, .int .i64 1, X.pa, X.pb, X.pr, X.pq, X.pg, X.ph, .int .i64 T.done, .bool false] from ⟨hS.below, hS.get 7 rfl⟩); have r := hS9.2.rule; have rc9 := HC.out _ hS9.1; have c1 := rc9 1 _ rfl; have c2 := rc9 2 _ rfl; have c3 := rc9 3 _ rfl; have c4 := rc9 4 _ rfl; clear rc9; go_simp; constructor <;> with_reducible rfl)); (focus (intro w5 hS; (first | (refine (HNL.out rfl _ _ hS).mono ?_; rintro e w6 ⟨rfl, hE6⟩; constructor; with_reducible rfl; exact ⟨hE6, fun _ h => h⟩)))); (try simp only [Act.put, List.setIfInBounds_toArray, List.set_cons_zero, List.set_cons_succ])))
    refine Ord.InText.nil fun w5 hS => ?_
    clear hT9
    obtain ⟨hE6, hA9⟩ := Ord.chain_end hS
    clear hS
    clear hE5 hA9 HNL HNY
    obtain ⟨w4, rfl⟩ : ∃ w4, w4 = w5 := ⟨_, rfl⟩
    have r7 : ∀ j, w4.cell? ⟨X.thr, j, none⟩ = [Value.pointer (some ⟨X.c, 0, none⟩), .pointer (some ⟨X.u, 0, none⟩), .slice (some ⟨g, off, none⟩) X.dn X.dc, .int .i64 N1, .int .i64 1, X.pa, X.pb, X.pr, X.pq, X.pg, X.ph, .int .i64 T.done, .bool false][j]? := hE6.rule 7 rfl
    have f5 := hE6.thaw 7 rfl 5 (by simp)
    have hE7 := hE6.put 7 rfl (j := 5) (by simp) (.pointer none)
    have hE8 := hE7.box w4.heap.size (by simp) [.int .i64 0, .int .u64 0, .int .u64 0, .int .u64 0] 108
    have f6 := hE8.thaw 8 rfl 6 (by simp)
    have r8 := hE8.rule 8 rfl
    have hE9 := hE8.put 8 rfl (j := 6) (by simp) (.pointer (some ⟨w4.heap.size, 0, none⟩))
    have HE9 := Lib.hid hE9
    clear hE9 hE8 hE7 hE6
    go_wp2_with fail
    clear r7 f5 f6 r8
    obtain ⟨L, hL⟩ : ∃ L, L = (LT (SP C X V T1 (getL ml) G qc1 n) (boxI X.thr [Value.pointer (some ⟨X.c, 0, none⟩), .pointer (some ⟨X.u, 0, none⟩), .slice (some ⟨g, off, none⟩) X.dn X.dc, .int .i64 N1, .int .i64 1, (.pointer none), (.pointer (some ⟨w4.heap.size, 0, none⟩)), X.pr, X.pq, X.pg, X.ph, .int .i64 T.done, .bool false] :: R)) := ⟨_, rfl⟩
    have hmem : boxI X.thr [Value.pointer (some ⟨X.c, 0, none⟩), .pointer (some ⟨X.u, 0, none⟩), .slice (some ⟨g, off, none⟩) X.dn X.dc, .int .i64 N1, .int .i64 1, (.pointer none), (.pointer (some ⟨w4.heap.size, 0, none⟩)), X.pr, X.pq, X.pg, X.ph, .int .i64 T.done, .bool false] ∈ L := by rw [hL]; simp [LT]
    have hE10 := HE9.out.perm (show List.Perm _ (boxI w4.heap.size (rav 0 0 0 0) :: LU (SR C X V T1 FU ml) L) from by
      rw [hL]
      exact perm_of fun z => by
        simp only [LT, LU, SP, SR, rav, List.count_append, List.count_cons, List.set_cons_succ, List.set_cons_zero]
        omega)
    have HL := Lib.hid hL
    have HMEM := Lib.hid hmem
    clear hL hmem HE9
    refine Ord.wp_chain [9] (fun v => Blk 0 v X.thr [Value.pointer (some ⟨X.c, 0, none⟩), .pointer (some ⟨X.u, 0, none⟩), .slice (some ⟨g, off, none⟩) X.dn X.dc, .int .i64 N1, .int .i64 1, (.pointer none), (.pointer (some ⟨w4.heap.size, 0, none⟩)), X.pr, X.pq, X.pg, X.ph, .int .i64 T.done, .bool false]) (fun k v => if k = 0 then Env w0 (boxI w4.heap.size (rav 0 0 0 0) :: LU (SR C X V T1 FU ml) L) v else ∃ pc', Env w0 (boxI w4.heap.size (rav pc' 0 0 0) :: LU (SR C X V T1 FU ml) L) v) (by kernel_rfl) (by kernel_rfl) (by kernel_rfl) (hE10.drew.mem (List.mem_append_right [_, _, _, _] HMEM.out)) (by rw [if_pos rfl]; exact hE10.drew) (fun hT => ?_)
    have hT9 := Lib.hid hT
    clear hT
    repeat (first
      | (refine Ord.ch_value (v := ?_) hT9.out (by decide) (by rfl) ?_ ?_; rotate_left; (focus (intro w5 hS; have r := Blk.rule hS; go_simp <;> with_reducible rfl)); (try simp only [Act.put, List.setIfInBounds_toArray, List.set_cons_zero, List.set_cons_succ]))
      | (refine Ord.ch_off hT9.out (by decide) (by rfl) ?_; (try simp only [Act.put, List.setIfInBounds_toArray, List.set_cons_zero, List.set_cons_succ])))
    refine Ord.ch_turn (v := .int .i64 4) 0 hT9.out rfl (by decide) (Or.inl rfl) (by rfl) ?_ ?_
    · rintro w7 hC7 hA7
      rw [if_pos rfl] at hA7
      go_simp
      simp only [Ord.LandsIn]
      refine (HDR.out w7 _ L hA7).mono ?_
      rintro e w8 ⟨rfl, pc', h1, h2⟩
      exact ⟨rfl, h2.mem (List.mem_append_right [_, _, _, _] HMEM.out), pc', h2⟩
    (try simp only [Act.put, List.setIfInBounds_toArray, List.set_cons_zero, List.set_cons_succ])
    repeat (first
      | (refine Ord.ch_value (v := ?_) hT9.out (by decide) (by rfl) ?_ ?_; rotate_left; (focus (intro w5 hS; have r := Blk.rule hS; go_simp <;> with_reducible rfl)); (try simp only [Act.put, List.setIfInBounds_toArray, List.set_cons_zero, List.set_cons_succ]))
      | (refine Ord.ch_off hT9.out (by decide) (by rfl) ?_; (try simp only [Act.put, List.setIfInBounds_toArray, List.set_cons_zero, List.set_cons_succ]))
      | (refine Ord.ch_call (v := ?_) (f := ?_) (args := ?_) hT9.out (by decide) (by rfl) ?_ ?_ ?_; rotate_left 3; (focus (intro w5 hS; have r := Blk.rule hS; go_simp; constructor <;> with_reducible rfl)); (focus (intro w5 hS; (first | fail))); (try simp only [Act.put, List.setIfInBounds_toArray, List.set_cons_zero, List.set_cons_succ])))
    refine Ord.InText.nil fun w5 hS => ?_
    clear hT9
    obtain ⟨hC9, hA9⟩ := Ord.chain_end hS
    clear hS
    rw [if_neg (by decide)] at hA9
    have hLe := HL.out
    subst hLe
    obtain ⟨pc', hA9⟩ := hA9
    have hF := (hA9.perm (show List.Perm _ (boxI w4.heap.size (rav pc' 0 0 0) :: LT (SP C X V T1 (getL ml) G qc1 n) (LU (SR C X V T1 FU ml) (boxI X.thr [Value.pointer (some ⟨X.c, 0, none⟩), .pointer (some ⟨X.u, 0, none⟩), .slice (some ⟨g, off, none⟩) X.dn X.dc, .int .i64 N1, .int .i64 1, (.pointer none), (.pointer (some ⟨w4.heap.size, 0, none⟩)), X.pr, X.pq, X.pg, X.ph, .int .i64 T.done, .bool false] :: R))) from perm_of fun z => by
      simp only [LT, LU, SP, SR, List.count_append, List.count_cons]
      omega)).sub (.cons _ (List.Sublist.refl _))
    have q0 := hF.rule 7 rfl
    have g0 := hF.thaw 7 rfl 4 (by simp)
    have hF2 := hF.put 7 rfl (j := 4) (by simp) (Value.int .i64 2)
    have q1 := hF2.rule 7 rfl
    have g1 := hF2.thaw 7 rfl 4 (by simp)
    have HPF := Lib.hid (hF2.put 7 rfl (j := 4) (by simp) (Value.int .i64 0))
    clear hF2
    clear hF hA9 hC9
    go_wp2_with fail
    (try go_ret)
    refine HPP.out _ _ ?_
    have ht9 : T9 = { T with e := e1, apc := (0 : Nat), ah := 0, an := 0, ar := 0, pc := 0, full := false } := by
      rw [HT9.out]
      rfl
    have ht1 := HT1.out
    subst ht9
    subst ht1
    have hth : thv ({ X with pa := (.pointer none), pb := .pointer (some ⟨w4.heap.size, 0, none⟩) } : Tm) { T with e := e1, apc := (0 : Nat), ah := 0, an := 0, ar := 0, pc := 0, full := false } = [Value.pointer (some ⟨X.c, 0, none⟩), .pointer (some ⟨X.u, 0, none⟩), .slice (some ⟨g, off, none⟩) X.dn X.dc, .int .i64 N1, .int .i64 0, (.pointer none), (.pointer (some ⟨w4.heap.size, 0, none⟩)), X.pr, X.pq, X.pg, X.ph, .int .i64 T.done, .bool false] := by
      unfold thv
      dsimp only
      rw [HN1.out, HDA.out]
      rfl
    refine ⟨rfl, ({ X with pa := (.pointer none), pb := .pointer (some ⟨w4.heap.size, 0, none⟩) } : Tm), G, FU, qc1, n, ml, [], ⟨rfl, rfl, rfl, rfl, rfl, rfl, rfl⟩, rfl, by omega, by omega, HN.out.1, HN.out.2, (by unfold Mach; rw [if_neg (show ¬ (0 : Nat) = 2 by decide), if_neg (show ¬ (0 : Nat) = 3 by decide), if_neg (show ¬ (0 : Nat) = 4 by decide)]), ?_⟩
    rw [hth]
    exact HPF.out
  · have hD0 : decP (SP C X V T1 (getL ml) G qc1 n).ql (SP C X V T1 (getL ml) G qc1 n).ce (SP C X V T1 (getL ml) G qc1 n).cl ≤ 10 := by
      unfold decP
      repeat' split
      all_goals decide
    have HDL := Lib.hid (show D ≤ 10 by
      have := HD.out
      rw [← this]
      unfold decP
      repeat' split
      all_goals decide)
    clear hD0
    refine Ord3.wp_chain [?_, ?_, ?_, ?_, ?_, ?_, ?_, ?_, ?_, ?_, ?_, ?_, ?_, ?_, ?_, ?_, ?_, ?_, ?_, ?_, ?_, ?_] [16, 17, 18, 20] (fun v => Below w0.heap.size w0 v ∧ Blk 0 v X.thr [Value.pointer (some ⟨X.c, 0, none⟩), .pointer (some ⟨X.u, 0, none⟩), .slice (some ⟨g, off, none⟩) X.dn X.dc, .int .i64 N1, .int .i64 1, X.pa, X.pb, X.pr, X.pq, X.pg, X.ph, .int .i64 T.done, .bool false]) (Ord3.Stage fun κs => [Env w0 (LT (SP C X V T1 (getL ml) G qc1 n) (LU (SR C X V T1 FU ml) (boxI X.thr [Value.pointer (some ⟨X.c, 0, none⟩), .pointer (some ⟨X.u, 0, none⟩), .slice (some ⟨g, off, none⟩) X.dn X.dc, .int .i64 N1, .int .i64 1, X.pa, X.pb, X.pr, X.pq, X.pg, X.ph, .int .i64 T.done, .bool false] :: R))), fun v => ∃ a1, κs = [.tuple #[.pointer (some ⟨a1, 0, none⟩), .int .i64 0]] ∧ Env w0 (boxI a1 (av X.c { nx := nxA a1 D, left := .slice none 0 0, k := d.ok, key := d.key, val := d.val, lv := d.lv, h := 0, n := 0, r := 0, s := 0 }) :: LT (SP C X V T1 (getL ml) G qc1 n) (LU (SR C X V T1 FU ml) (boxI X.thr [Value.pointer (some ⟨X.c, 0, none⟩), .pointer (some ⟨X.u, 0, none⟩), .slice (some ⟨g, off, none⟩) X.dn X.dc, .int .i64 N1, .int .i64 1, X.pa, X.pb, X.pr, X.pq, X.pg, X.ph, .int .i64 T.done, .bool false] :: R))) v, fun v => ∃ a1, κs = [.tuple #[.pointer (some ⟨a1, 0, none⟩), .int .i64 0], .tuple #[.pointer (some ⟨a1, 0, none⟩), .int .i64 0]] ∧ Env w0 (boxI a1 (av X.c { nx := nxA a1 D, left := .slice none 0 0, k := d.ok, key := d.key, val := d.val, lv := d.lv, h := 0, n := 0, r := 0, s := 0 }) :: LT (SP C X V T1 (getL ml) G qc1 n) (LU (SR C X V T1 FU ml) (boxI X.thr [Value.pointer (some ⟨X.c, 0, none⟩), .pointer (some ⟨X.u, 0, none⟩), .slice (some ⟨g, off, none⟩) X.dn X.dc, .int .i64 N1, .int .i64 1, X.pa, X.pb, X.pr, X.pq, X.pg, X.ph, .int .i64 T.done, .bool false] :: R))) v, fun v => ∃ a1, κs = [.tuple #[.pointer (some ⟨a1, 0, none⟩), .int .i64 0], .tuple #[.pointer (some ⟨a1, 0, none⟩), .int .i64 0], .pointer (some ⟨a1, 0, none⟩)] ∧ Env w0 (boxI a1 (av X.c { nx := nxA a1 D, left := .slice none 0 0, k := d.ok, key := d.key, val := d.val, lv := d.lv, h := 0, n := 0, r := 0, s := 0 }) :: LT (SP C X V T1 (getL ml) G qc1 n) (LU (SR C X V T1 FU ml) (boxI X.thr [Value.pointer (some ⟨X.c, 0, none⟩), .pointer (some ⟨X.u, 0, none⟩), .slice (some ⟨g, off, none⟩) X.dn X.dc, .int .i64 N1, .int .i64 1, X.pa, X.pb, X.pr, X.pq, X.pg, X.ph, .int .i64 T.done, .bool false] :: R))) v, fun v => ∃ a1, κs = [.tuple #[.pointer (some ⟨a1, 0, none⟩), .int .i64 0], .tuple #[.pointer (some ⟨a1, 0, none⟩), .int .i64 0], .pointer (some ⟨a1, 0, none⟩), .pointer (some ⟨a1, 0, none⟩)] ∧ Env w0 (boxI a1 (av X.c { nx := nxA a1 D, left := .slice none 0 0, k := d.ok, key := d.key, val := d.val, lv := d.lv, h := 0, n := 0, r := 0, s := 0 }) :: LT (SP C X V T1 (getL ml) G qc1 n) (LU (SR C X V T1 FU ml) (boxI X.thr [Value.pointer (some ⟨X.c, 0, none⟩), .pointer (some ⟨X.u, 0, none⟩), .slice (some ⟨g, off, none⟩) X.dn X.dc, .int .i64 N1, .int .i64 1, X.pa, X.pb, X.pr, X.pq, X.pg, X.ph, .int .i64 T.done, .bool false] :: R))) v]) (by kernel_rfl) (by kernel_rfl) (by kernel_rfl) ⟨hE5.drew.below, hE5.drew.get 7 rfl⟩ ⟨_, rfl, hE5.drew⟩ (fun hT => ?_)
    rotate_left 22
    have hT9 := Lib.hid hT
    clear hT
    repeat (first
      | (focus (refine Ord3.in_value (v := ?_) hT9.out (by decide) ?_ (by rfl) ?_ ?_; rotate_left 2; (focus (intro w5 hS; have r := hS.2.rule; have rc9 := HC.out _ hS.1; have c1 := rc9 1 _ rfl; have c2 := rc9 2 _ rfl; have c3 := rc9 3 _ rfl; have c4 := rc9 4 _ rfl; clear rc9; go_simp <;> with_reducible rfl)); rotate_right; (focus rfl); (try simp only [Act.put, List.setIfInBounds_toArray, List.set_cons_zero, List.set_cons_succ])))
      | (focus (refine Ord3.in_off hT9.out (by decide) ?_ (by rfl) ?_; (focus rfl); (try simp only [Act.put, List.setIfInBounds_toArray, List.set_cons_zero, List.set_cons_succ]))))
    refine Ord3.in_turn (fun u => ∃ z, u = .tuple #[.pointer (some ⟨z, 0, none⟩), .int .i64 0]) _ ⟨0, rfl⟩ hT9.out rfl (by decide) (by rfl) ?_ (Or.inl rfl) (by rfl) ?_ ?_
    · rfl
    · rintro v7 hC7 ⟨P7, hP7, hA7⟩
      cases hP7
      go_simp
      simp only [Ord3.Lands]
      refine (HNY.out h0 _ _ hA7).mono ?_
      rintro o v8 ⟨a1, rfl, hX8⟩
      exact ⟨_, rfl, ⟨_, rfl⟩, ⟨hX8.below, hX8.get 8 rfl⟩, _, rfl, a1, rfl, hX8⟩
    rintro _ ⟨z1, rfl⟩
    (try simp only [Act.put, List.setIfInBounds_toArray, List.set_cons_zero, List.set_cons_succ])
    refine Ord3.in_turn (fun u => ∃ z, u = .tuple #[.pointer (some ⟨z, 0, none⟩), .int .i64 0]) _ ⟨0, rfl⟩ hT9.out rfl (by decide) (by rfl) ?_ (Or.inr ⟨_, 16, [], rfl, by kernel_rfl, by kernel_rfl, rfl⟩) (by rfl) ?_ ?_
    · rfl
    · rintro v7 hC7 ⟨P7, hP7, hA7⟩
      cases hP7
      go_simp
      simp only [Ord3.Lands]
      obtain ⟨a1, he, hA7⟩ := hA7
      cases he
      exact ⟨⟨_, rfl⟩, hC7, _, rfl, _, rfl, hA7⟩
    rintro _ ⟨z2, rfl⟩
    (try simp only [Act.put, List.setIfInBounds_toArray, List.set_cons_zero, List.set_cons_succ])
    refine Ord3.in_turn (fun u => ∃ z, u = .pointer (some ⟨z, 0, none⟩)) _ ⟨0, rfl⟩ hT9.out rfl (by decide) (by rfl) ?_ (Or.inr ⟨_, 17, [], rfl, by kernel_rfl, by kernel_rfl, rfl⟩) (by rfl) ?_ ?_
    · rfl
    · rintro v7 hC7 ⟨P7, hP7, hA7⟩
      cases hP7
      go_simp
      simp only [Ord3.Lands]
      obtain ⟨a1, he, hA7⟩ := hA7
      cases he
      exact ⟨⟨_, rfl⟩, hC7, _, rfl, _, rfl, hA7⟩
    rintro _ ⟨z3, rfl⟩
    (try simp only [Act.put, List.setIfInBounds_toArray, List.set_cons_zero, List.set_cons_succ])
    repeat (first
      | (focus (refine Ord3.in_value (v := ?_) hT9.out (by decide) ?_ (by rfl) ?_ ?_; rotate_left 2; (focus (intro w5 hS; have r := hS.2.rule; have rc9 := HC.out _ hS.1; have c1 := rc9 1 _ rfl; have c2 := rc9 2 _ rfl; have c3 := rc9 3 _ rfl; have c4 := rc9 4 _ rfl; clear rc9; go_simp <;> with_reducible rfl)); rotate_right; (focus rfl); (try simp only [Act.put, List.setIfInBounds_toArray, List.set_cons_zero, List.set_cons_succ])))
      | (focus (refine Ord3.in_off hT9.out (by decide) ?_ (by rfl) ?_; (focus rfl); (try simp only [Act.put, List.setIfInBounds_toArray, List.set_cons_zero, List.set_cons_succ]))))
    refine Ord3.in_turn (fun u => ∃ z, u = .pointer (some ⟨z, 0, none⟩)) _ ⟨0, rfl⟩ hT9.out rfl (by decide) (by rfl) ?_ (Or.inr ⟨_, 18, [], rfl, by kernel_rfl, by kernel_rfl, rfl⟩) (by rfl) ?_ ?_
    · rfl
    · rintro v7 hC7 ⟨P7, hP7, hA7⟩
      cases hP7
      go_simp
      simp only [Ord3.Lands]
      obtain ⟨a1, he, hA7⟩ := hA7
      cases he
      exact ⟨⟨_, rfl⟩, hC7, _, rfl, _, rfl, hA7⟩
    rintro _ ⟨z4, rfl⟩
    (try simp only [Act.put, List.setIfInBounds_toArray, List.set_cons_zero, List.set_cons_succ])
    repeat (first
      | (focus (refine Ord3.in_value (v := ?_) hT9.out (by decide) ?_ (by rfl) ?_ ?_; rotate_left 2; (focus (intro w5 hS; have r := hS.2.rule; have rc9 := HC.out _ hS.1; have c1 := rc9 1 _ rfl; have c2 := rc9 2 _ rfl; have c3 := rc9 3 _ rfl; have c4 := rc9 4 _ rfl; clear rc9; go_simp <;> with_reducible rfl)); rotate_right; (focus rfl); (try simp only [Act.put, List.setIfInBounds_toArray, List.set_cons_zero, List.set_cons_succ])))
      | (focus (refine Ord3.in_off hT9.out (by decide) ?_ (by rfl) ?_; (focus rfl); (try simp only [Act.put, List.setIfInBounds_toArray, List.set_cons_zero, List.set_cons_succ]))))
    refine Ord3.in_nil rfl ?_
    rintro w5 hC9 ⟨P9, hP9, hA9⟩
    cases hP9
    obtain ⟨a2, he, hE6⟩ := hA9
    cases he
    obtain ⟨a1, rfl⟩ : ∃ a1, a1 = z1 := ⟨_, rfl⟩
    clear hT9 hC9 hE5 HNL HNY
    obtain ⟨w4, rfl⟩ : ∃ w4, w4 = w5 := ⟨_, rfl⟩
    have r7 : ∀ j, w4.cell? ⟨X.thr, j, none⟩ = [Value.pointer (some ⟨X.c, 0, none⟩), .pointer (some ⟨X.u, 0, none⟩), .slice (some ⟨g, off, none⟩) X.dn X.dc, .int .i64 N1, .int .i64 1, X.pa, X.pb, X.pr, X.pq, X.pg, X.ph, .int .i64 T.done, .bool false][j]? := hE6.rule 8 rfl
    have f5 := hE6.thaw 8 rfl 5 (by simp)
    have hE7 := hE6.put 8 rfl (j := 5) (by simp) (.pointer (some ⟨a1, 0, none⟩))
    have hE8 := hE7.box w4.heap.size (by simp) [.int .i64 0, .int .u64 0, .int .u64 0, .int .u64 0] 108
    have f6 := hE8.thaw 9 rfl 6 (by simp)
    have r8 := hE8.rule 9 rfl
    have hE9 := hE8.put 9 rfl (j := 6) (by simp) (.pointer (some ⟨w4.heap.size, 0, none⟩))
    have HE9 := Lib.hid hE9
    clear hE9 hE8 hE7 hE6
    go_wp2_with fail
    clear r7 f5 f6 r8
    obtain ⟨L, hL⟩ : ∃ L, L = (boxI a1 (av X.c { nx := nxA a1 D, left := .slice none 0 0, k := d.ok, key := d.key, val := d.val, lv := d.lv, h := 0, n := 0, r := 0, s := 0 }) :: LT (SP C X V T1 (getL ml) G qc1 n) (boxI X.thr [Value.pointer (some ⟨X.c, 0, none⟩), .pointer (some ⟨X.u, 0, none⟩), .slice (some ⟨g, off, none⟩) X.dn X.dc, .int .i64 N1, .int .i64 1, (.pointer (some ⟨a1, 0, none⟩)), (.pointer (some ⟨w4.heap.size, 0, none⟩)), X.pr, X.pq, X.pg, X.ph, .int .i64 T.done, .bool false] :: R)) := ⟨_, rfl⟩
    have hmem : boxI X.thr [Value.pointer (some ⟨X.c, 0, none⟩), .pointer (some ⟨X.u, 0, none⟩), .slice (some ⟨g, off, none⟩) X.dn X.dc, .int .i64 N1, .int .i64 1, (.pointer (some ⟨a1, 0, none⟩)), (.pointer (some ⟨w4.heap.size, 0, none⟩)), X.pr, X.pq, X.pg, X.ph, .int .i64 T.done, .bool false] ∈ L := by rw [hL]; simp [LT]
    have hE10 := HE9.out.perm (show List.Perm _ (boxI w4.heap.size (rav 0 0 0 0) :: LU (SR C X V T1 FU ml) L) from by
      rw [hL]
      exact perm_of fun z => by
        simp only [LT, LU, SP, SR, rav, List.count_append, List.count_cons, List.set_cons_succ, List.set_cons_zero]
        omega)
    have HL := Lib.hid hL
    have HMEM := Lib.hid hmem
    clear hL hmem HE9
    refine Ord.wp_chain [9] (fun v => Blk 0 v X.thr [Value.pointer (some ⟨X.c, 0, none⟩), .pointer (some ⟨X.u, 0, none⟩), .slice (some ⟨g, off, none⟩) X.dn X.dc, .int .i64 N1, .int .i64 1, (.pointer (some ⟨a1, 0, none⟩)), (.pointer (some ⟨w4.heap.size, 0, none⟩)), X.pr, X.pq, X.pg, X.ph, .int .i64 T.done, .bool false]) (fun k v => if k = 0 then Env w0 (boxI w4.heap.size (rav 0 0 0 0) :: LU (SR C X V T1 FU ml) L) v else Env w0 (boxI w4.heap.size (rav (D : Int) 0 0 0) :: LU (SR C X V T1 FU ml) L) v) (by kernel_rfl) (by kernel_rfl) (by kernel_rfl) (hE10.drew.mem (List.mem_append_right [_, _, _, _] HMEM.out)) (by rw [if_pos rfl]; exact hE10.drew) (fun hT => ?_)
    have hT9 := Lib.hid hT
    clear hT
    repeat (first
      | (refine Ord.ch_value (v := ?_) hT9.out (by decide) (by rfl) ?_ ?_; rotate_left; (focus (intro w5 hS; have r := Blk.rule hS; go_simp <;> with_reducible rfl)); (try simp only [Act.put, List.setIfInBounds_toArray, List.set_cons_zero, List.set_cons_succ]))
      | (refine Ord.ch_off hT9.out (by decide) (by rfl) ?_; (try simp only [Act.put, List.setIfInBounds_toArray, List.set_cons_zero, List.set_cons_succ])))
    refine Ord.ch_turn (v := .int .i64 0) 0 hT9.out rfl (by decide) (Or.inl rfl) (by rfl) ?_ ?_
    · rintro w7 hC7 hA7
      rw [if_pos rfl] at hA7
      go_simp
      simp only [Ord.LandsIn]
      refine (HDR.out w7 _ L hA7).mono ?_
      rintro e w8 ⟨rfl, pc', h1, h2⟩
      rw [if_neg h0, h1 h0] at *
      exact ⟨rfl, h2.mem (List.mem_append_right [_, _, _, _] HMEM.out), h2⟩
    (try simp only [Act.put, List.setIfInBounds_toArray, List.set_cons_zero, List.set_cons_succ])
    repeat (first
      | (refine Ord.ch_value (v := ?_) hT9.out (by decide) (by rfl) ?_ ?_; rotate_left; (focus (intro w5 hS; have r := Blk.rule hS; go_simp <;> with_reducible rfl)); (try simp only [Act.put, List.setIfInBounds_toArray, List.set_cons_zero, List.set_cons_succ]))
      | (refine Ord.ch_off hT9.out (by decide) (by rfl) ?_; (try simp only [Act.put, List.setIfInBounds_toArray, List.set_cons_zero, List.set_cons_succ]))
      | (refine Ord.ch_call (v := ?_) (f := ?_) (args := ?_) hT9.out (by decide) (by rfl) ?_ ?_ ?_; rotate_left 3; (focus (intro w5 hS; have r := Blk.rule hS; go_simp; constructor <;> with_reducible rfl)); (focus (intro w5 hS; (first | fail))); (try simp only [Act.put, List.setIfInBounds_toArray, List.set_cons_zero, List.set_cons_succ])))
    refine Ord.InText.nil fun w5 hS => ?_
    clear hT9
    obtain ⟨hC9, hA9⟩ := Ord.chain_end hS
    clear hS
    rw [if_neg (by decide)] at hA9
    have hLe := HL.out
    subst hLe
    have hF := hA9.perm (show List.Perm _ (LT (SP C X V T1 (getL ml) G qc1 n) (LU (SR C X V T1 FU ml) (boxI X.thr [Value.pointer (some ⟨X.c, 0, none⟩), .pointer (some ⟨X.u, 0, none⟩), .slice (some ⟨g, off, none⟩) X.dn X.dc, .int .i64 N1, .int .i64 1, (.pointer (some ⟨a1, 0, none⟩)), (.pointer (some ⟨w4.heap.size, 0, none⟩)), X.pr, X.pq, X.pg, X.ph, .int .i64 T.done, .bool false] :: boxI a1 (av X.c { nx := nxA a1 D, left := .slice none 0 0, k := d.ok, key := d.key, val := d.val, lv := d.lv, h := 0, n := 0, r := 0, s := 0 }) :: boxI w4.heap.size (rav (D : Int) 0 0 0) :: R))) from perm_of fun z => by
      simp only [LT, LU, SP, SR, List.count_append, List.count_cons]
      omega)
    have q0 := hF.rule 7 rfl
    have g0 := hF.thaw 7 rfl 4 (by simp)
    have HPF := Lib.hid (hF.put 7 rfl (j := 4) (by simp) (Value.int .i64 2))
    clear hF hA9 hC9
    go_wp2_with fail
    (try go_ret)
    refine HPP.out _ _ ?_
    have ht9 : T9 = { T with e := e1, apc := D, ah := 0, an := 0, ar := 0, pc := 2, full := false } := by
      rw [HT9.out]
      rw [if_neg h0]
    have ht1 := HT1.out
    subst ht9
    subst ht1
    have hth : thv ({ X with pa := (.pointer (some ⟨a1, 0, none⟩)), pb := .pointer (some ⟨w4.heap.size, 0, none⟩) } : Tm) { T with e := e1, apc := D, ah := 0, an := 0, ar := 0, pc := 2, full := false } = [Value.pointer (some ⟨X.c, 0, none⟩), .pointer (some ⟨X.u, 0, none⟩), .slice (some ⟨g, off, none⟩) X.dn X.dc, .int .i64 N1, .int .i64 2, (.pointer (some ⟨a1, 0, none⟩)), (.pointer (some ⟨w4.heap.size, 0, none⟩)), X.pr, X.pq, X.pg, X.ph, .int .i64 T.done, .bool false] := by
      unfold thv
      dsimp only
      rw [HN1.out, HDA.out]
      rfl
    refine ⟨rfl, ({ X with pa := (.pointer (some ⟨a1, 0, none⟩)), pb := .pointer (some ⟨w4.heap.size, 0, none⟩) } : Tm), G, FU, qc1, n, ml, [boxI a1 (av X.c { nx := nxA a1 D, left := .slice none 0 0, k := d.ok, key := d.key, val := d.val, lv := d.lv, h := 0, n := 0, r := 0, s := 0 }), boxI w4.heap.size (rav (D : Int) 0 0 0)], ⟨rfl, rfl, rfl, rfl, rfl, rfl, rfl⟩, rfl, by omega, by omega, HN.out.1, HN.out.2, (by unfold Mach; rw [if_pos rfl]; exact ⟨a1, w4.heap.size, .slice none 0 0, 0, [], rfl, rfl, by unfold LeftIs; rw [if_pos (by have := HDL.out; exact this)], rfl⟩), ?_⟩
    rw [hth]
    exact HPF.out
end
end Go.Proofs.YtmifdkbpbkafjaaGreatDoor
