/- What is proved on the way to the statement, part 8 of 17: contracts of the functions, among other things in memory. -/
import Derived.Test.YtdknbegcflldjaaGreatDoorE7

/- The reference's Alloc: contracts of write, and of Step from there on. -/
namespace Go.Proofs.YtdknbegcflldjaaGreatDoor
open Go.RowKit Go.Maps
set_option maxRecDepth 100000

/-- A cell that is read. -/
def Lie (v : World) (g k : Nat) (x : Value) : Prop := g < v.heap.size ∧ v.cell? ⟨g, k, none⟩ = some x
theorem Lie.under {v v' : World} {g k : Nat} {x : Value} (h : Lie v g k x) (hb : Below v.heap.size v v') : Lie v' g k x := ⟨Nat.lt_of_lt_of_le h.1 hb.size, by rw [hb.cell (p := ⟨g, k, none⟩) h.1]; exact h.2⟩
theorem Env.lie {w0 w : World} {L : List Item} (h : Env w0 L w) (i : Nat) {g : Nat} {xs : List Value} (hi : L[i]? = some (lieI g xs)) (k : Nat) {x : Value} (hx : xs[k]? = some x) : Lie w g k x := ⟨h.lt i hi g rfl, h.lies i hi k x hx⟩
/-- The item at place i becomes another, told by the same. -/
theorem Env.as {w0 w : World} {L : List Item} (h : Env w0 L w) (i : Nat) {a : Item} (b : Item) (hi : L[i]? = some a) (hF : ∀ k, b.F k → a.F k) (hb : b.says w) : Env w0 (L.set i b) w :=
  h.step i b hi ⟨Turn.refl _ w, fun k hk => .inl (hF k hk)⟩ hb fun k hk => h.lt i hi k (hF k hk)
theorem Env.rowLiesAt {w0 w : World} {L : List Item} {e : TypeId} {s n : Nat} {v : Value} {xs : List Value} (h : Env w0 L w) (i : Nat) (hi : L[i]? = some (rowI v e s n xs)) (hn : n ≠ 0) :
    ∃ g c, v = .slice (some ⟨g, 0, none⟩) n c ∧ Env w0 (L.set i (lieI g xs)) w := by
  have ho : w.ownsRow 0 e s v n xs := h.get i hi
  rcases ho.2 with ⟨-, h0⟩ | ⟨g, cap, cur, hv, -, hg, hnc, -⟩
  · exact absurd h0 hn
  · refine ⟨g, cap, hv, h.as i (lieI g xs) hi (fun k hk => ?_) fun j u hu => ?_⟩
    · show v.ownBlock = some k
      rw [hv]
      show some g = some k
      rw [show k = g from hk]
    · have this := ho.cells (g := g) (by rw [hv]; rfl) j u hu
      have e2 : (⟨g, 0, none⟩ : Addr).add j = ⟨g, j, none⟩ := by unfold Addr.add; split <;> simp_all
      rw [e2] at this
      exact this
/-- A literal of n elements, as a row of the call's own. -/
theorem Env.addLit {w0 w : World} {L : List Item} (h : Env w0 L w) (e : TypeId) (s n : Nat) (xs : List Value) (hx : xs.length = n * s) (hn : n ≤ maxLen) : Env w0 (rowI (.slice (some ⟨w.heap.size, 0, none⟩) n n) e s n xs :: L) (w.alloc (.cells xs.toArray e)) :=
  h.add (rowI (.slice (some ⟨w.heap.size, 0, none⟩) n n) e s n xs) ((Below.refl _ _).alloc (Nat.le_refl _) _)
    (show (w.alloc (.cells xs.toArray e)).ownsRow 0 e s (.slice (some ⟨w.heap.size, 0, none⟩) n n) n xs from World.ownsRow_lit (base := 0) (e := e) (size := s) w xs.toArray n (Nat.zero_le _) hn (by simpa using hx)) fun k hk => by
    have : w.heap.size = k := by simpa [rowI, Value.ownBlock] using hk
    subst this
    simp
theorem infoI1 : (Tryz.prog.info? 3).map (fun i => (i.zero, i.size, i.bytes)) = some (some (.int .i64 0), 1, 8) := by kernel_rfl
theorem infoU1 : (Tryz.prog.info? 48).map (fun i => (i.zero, i.size, i.bytes)) = some (some (.int .u64 0), 1, 8) := by kernel_rfl
/-- How a store of a birth ends. -/
def lastS (k n : Nat) : Int := if k + 1 = n then 1 else 0
def partsV (l : List (Int × Int)) : List Value := l.map fun p => .int .i64 p.1
def wordsV9 (l : List (Int × Int)) : List Value := l.map fun p => .int .u64 p.2
theorem wordsA_len (ck e key val lv : Int) : (wordsA ck e key val lv).length = if ck = 2 then 4 else if ck = 3 then 5 else 3 := by
  unfold wordsA
  split
  · rfl
  · split <;> rfl

section
variable {w0 w : World} {R : List Item} {b : Nat} {U : SU} {h n r ok key val lv : Int}
set_option maxHeartbeats 6400000 in
theorem rwriteS (kk : Nat) (hk0 : 0 < kk) (part word : Int) (hpw : (wordsA U.ck U.ce key val (IntKind.u64.wrap lv))[kk]? = some (part, word)) (he : 0 ≤ U.ce ∧ U.ce ≤ 9223372036854775807) (hml : U.ml.length ≤ 1000000) (hE : Env w0 (boxI b (rav (10 + (kk : Int)) h n r) :: LU U R) w) :
    Calls Tryz.prog 153 #[.pointer (some ⟨b, 0, none⟩), .pointer (some ⟨U.u, 0, none⟩), .pointer (some ⟨U.m, 0, none⟩), .agg #[.int .i64 ok, .int .u64 key, .int .u64 val, .int .i64 lv]] w fun o w' => o = .returned (.int .i64 (lastS kk (wordsA U.ck U.ce key val (IntKind.u64.wrap lv)).length)) ∧ ∃ F5, Env w0 (boxI b (rav (10 + (kk : Int) + 1) h n r) :: LU { U with F := F5, ml := setL U.ml (5, U.hs, part) word } R) w' := by
  have hE1 := (hE.box w.heap.size rfl [.int .i64 ok, .int .u64 key, .int .u64 val, .int .i64 lv] 50).perm (L' := boxI b (rav (10 + (kk : Int)) h n r) :: LU U (boxI w.heap.size [.int .i64 ok, .int .u64 key, .int .u64 val, .int .i64 lv] :: R)) (List.perm_middle (l₁ := [boxI b (rav (10 + (kk : Int)) h n r), _, _, _])).symm
  have hw1 : IntKind.u64.wrap U.ce = U.ce := wrapU _ (by omega) (by omega)
  have hkl : kk < (wordsA U.ck U.ce key val (IntKind.u64.wrap lv)).length := (List.getElem?_eq_some_iff.1 hpw).1
  clear he hE
  have rb := hE1.rule 0 rfl
  unfold rav at rb
  have hk9 : kk < 5 := by
    rw [wordsA_len] at hkl
    split at hkl
    · omega
    · split at hkl <;> omega
  have hkb : ((10 + (kk : Int)) == 10) = false := by simp; omega
  have hw2 : (10 + (kk : Int) - 10) = kk := by omega
  go_enter Tryz.func153, Tryz.ntmps153
  go_upto_region 4 with fail
  have hE4 := hE1
  clear hE1 rb
  generalize w.alloc _ = w3 at *
  generalize w.heap.size = O at *
  have hE5 := hE4.addLit 3 1 3 [.int .i64 0, .int .i64 1, .int .i64 3] rfl (by decide)
  clear hE4
  go_wp2_with fail
  generalize w3.alloc _ = w4 at *
  generalize w3.heap.size = z1 at *
  refine Ord3.wp_chain [?_, ?_, ?_, ?_, ?_, ?_, ?_, ?_, ?_] [7, 8] (fun v => Blk 0 v U.u (urv U.ck U.cs U.cb U.ch U.cl U.ce U.A U.ql.length U.c U.N U.hs U.ro) ∧ Blk 0 v O [.int .i64 ok, .int .u64 key, .int .u64 val, .int .i64 lv]) (Ord3.Stage fun κs => [Env w0 (rowI (.slice (some ⟨z1, 0, none⟩) 3 3) 3 1 3 [.int .i64 0, .int .i64 1, .int .i64 3] :: boxI b (rav (10 + (kk : Int)) h n r) :: LU U (boxI O [.int .i64 ok, .int .u64 key, .int .u64 val, .int .i64 lv] :: R)), Env w0 (rowI (κs.getD 0 undef) 48 1 3 [.int .u64 U.ce, .int .u64 0, .int .u64 key] :: rowI (.slice (some ⟨z1, 0, none⟩) 3 3) 3 1 3 [.int .i64 0, .int .i64 1, .int .i64 3] :: boxI b (rav (10 + (kk : Int)) h n r) :: LU U (boxI O [.int .i64 ok, .int .u64 key, .int .u64 val, .int .i64 lv] :: R)), Env w0 (rowI (κs.getD 1 undef) 48 1 3 [.int .u64 U.ce, .int .u64 0, .int .u64 key] :: rowI (.slice (some ⟨z1, 0, none⟩) 3 3) 3 1 3 [.int .i64 0, .int .i64 1, .int .i64 3] :: boxI b (rav (10 + (kk : Int)) h n r) :: LU U (boxI O [.int .i64 ok, .int .u64 key, .int .u64 val, .int .i64 lv] :: R))]) (by kernel_rfl) (by kernel_rfl) (by kernel_rfl) ⟨hE5.drew.get 2 rfl, hE5.drew.get 5 rfl⟩ ⟨_, rfl, hE5.drew⟩ (fun hT => ?_)
  rotate_left 9
  have hT9 := Lib.hid hT
  clear hT
  repeat (first
    | (focus (refine Ord3.in_value (v := ?_) hT9.out (by decide) ?_ (by rfl) ?_ ?_; rotate_left 2; (focus (intro w5 hS; have r1 := Blk.rule hS.1; have r2 := Blk.rule hS.2; unfold urv at r1; go_simp <;> with_reducible rfl)); rotate_right; (focus rfl); (try simp only [Act.put, List.setIfInBounds_toArray, List.set_cons_zero, List.set_cons_succ])))
    | (focus (refine Ord3.in_off hT9.out (by decide) ?_ (by rfl) ?_; (focus rfl); (try simp only [Act.put, List.setIfInBounds_toArray, List.set_cons_zero, List.set_cons_succ])))
    | (focus (refine Ord3.in_call (v := ?_) (f := ?_) (args := ?_) hT9.out (by decide) ?_ (by rfl) ?_ ?_ ?_; rotate_left 4; (focus (intro w5 hS; have r1 := Blk.rule hS.1; have r2 := Blk.rule hS.2; unfold urv at r1; go_simp; constructor <;> with_reducible rfl)); (focus (intro w5 hS; (first | fail))); rotate_right; (focus rfl); (try simp only [Act.put, List.setIfInBounds_toArray, List.set_cons_zero, List.set_cons_succ]))))
  refine Ord3.in_turn (fun u => ∃ z, u = .slice (some ⟨z, 0, none⟩) 3 3) _ ⟨0, rfl⟩ hT9.out rfl (by decide) (by rfl) ?_ (Or.inl rfl) (by rfl) ?_ ?_
  · rfl
  · rintro w7 hC7 ⟨P7, hP7, hA7⟩
    cases hP7
    go_simp
    simp only [Ord3.Lands]
    have hE8 := hA7.addLit 48 1 3 [.int .u64 U.ce, .int .u64 0, .int .u64 key] rfl (by decide)
    exact ⟨⟨_, rfl⟩, ⟨hE8.get 3 rfl, hE8.get 6 rfl⟩, _, rfl, hE8⟩
  rintro _ ⟨z9, rfl⟩
  (try simp only [Act.put, List.setIfInBounds_toArray, List.set_cons_zero, List.set_cons_succ])
  refine Ord3.in_turn (fun u => ∃ z, u = .slice (some ⟨z, 0, none⟩) 3 3) _ ⟨0, rfl⟩ hT9.out rfl (by decide) (by rfl) ?_ (Or.inr ⟨_, 7, [], rfl, by kernel_rfl, by kernel_rfl, rfl⟩) (by rfl) ?_ ?_
  · rfl
  · rintro w7 hC7 ⟨P7, hP7, hA7⟩
    cases hP7
    go_simp
    simp only [Ord3.Lands]
    exact ⟨⟨_, rfl⟩, hC7, _, rfl, hA7⟩
  rintro _ ⟨z2, rfl⟩
  (try simp only [Act.put, List.setIfInBounds_toArray, List.set_cons_zero, List.set_cons_succ])
  refine Ord3.in_nil rfl ?_
  rintro w9 hC9 ⟨P9, hP9, hA9⟩
  cases hP9
  replace hA9 : Env w0 (rowI (.slice (some ⟨z2, 0, none⟩) 3 3) 48 1 3 [.int .u64 U.ce, .int .u64 0, .int .u64 key] :: rowI (.slice (some ⟨z1, 0, none⟩) 3 3) 3 1 3 [.int .i64 0, .int .i64 1, .int .i64 3] :: boxI b (rav (10 + (kk : Int)) h n r) :: LU U (boxI O [.int .i64 ok, .int .u64 key, .int .u64 val, .int .i64 lv] :: R)) w9 := hA9
  clear hT9 hC9 hE5
  have r1 := hA9.rule 3 rfl
  unfold urv at r1
  have r2 := hA9.rule 6 rfl
  have r3 := hA9.rule 2 rfl
  unfold rav at r3
  obtain ⟨WW, hWW⟩ : ∃ WW, (wordsA U.ck U.ce key val (IntKind.u64.wrap lv)) = WW := ⟨_, rfl⟩
  rw [hWW] at hpw hkl
  have HWW := Lib.hid hWW
  clear hWW
  rcases hk2 : U.ck == 2 with _ | _
  · rcases hk3 : U.ck == 3 with _ | _
    · have hl3 : WW = [(0, U.ce), (1, 0), (3, key)] := by rw [← HWW.out]; unfold wordsA; rw [if_neg (by simpa using hk2), if_neg (by simpa using hk3)]; rfl
      go_upto_region 12 with fail
      clear r1 r2 r3
      obtain ⟨g2, c2, he2, hB⟩ := hA9.rowLiesAt 0 rfl (by decide)
      cases he2
      obtain ⟨g1, c1, he1, hB⟩ := hB.rowLiesAt 1 rfl (by decide)
      cases he1
      subst hl3
      have HL3 : Hid (List.length ([(0, U.ce), (1, 0), (3, key)] : List (Int × Int)) = 3) := Lib.hid rfl
      have hkn : kk < 3 := hkl
      have hp1 : (partsV [(0, U.ce), (1, 0), (3, key)])[kk]? = some (.int .i64 part) := by unfold partsV; rw [List.getElem?_map, hpw]; rfl
      have hp2 : (wordsV9 [(0, U.ce), (1, 0), (3, key)])[kk]? = some (.int .u64 word) := by unfold wordsV9; rw [List.getElem?_map, hpw]; rfl
      have hB9 : Env w0 (lieI z2 (wordsV9 [(0, U.ce), (1, 0), (3, key)]) :: lieI z1 (partsV [(0, U.ce), (1, 0), (3, key)]) :: boxI b (rav (10 + (kk : Int)) h n r) :: LU U (boxI O [.int .i64 ok, .int .u64 key, .int .u64 val, .int .i64 lv] :: R)) _ := hB
      clear hB hA9
      have HL1 := hB9.lie 1 rfl kk hp1
      have HL2 := hB9.lie 0 rfl kk hp2
      have hlb : ((kk : Int) == 2) = decide (kk + 1 = 3) := by
        by_cases h : kk + 1 = 3
        · rw [decide_eq_true h]; simp; omega
        · rw [decide_eq_false h]; simp; omega
      have hlt : decide ((kk : Int) < 3) = true := by simp; omega
      have hlt2 : (kk : Int) < 3 := by omega
      have hge : (0 : Int) ≤ kk := by omega
      obtain ⟨bl, hbl⟩ : ∃ b, decide (kk + 1 = 3) = b := ⟨_, rfl⟩
      rw [hbl] at hlb
      have HBL := Lib.hid hbl
      clear hbl
      have r3 := hB9.rule 2 rfl
      unfold rav at r3
      go_wp2_with fail
      refine Ord.wp_chain [14] (fun v => Blk 0 v U.u (urv U.ck U.cs U.cb U.ch U.cl U.ce U.A U.ql.length U.c U.N U.hs U.ro) ∧ Lie v z1 kk (.int .i64 part) ∧ Lie v z2 kk (.int .u64 word)) (fun k w' => ∃ F5, Env w0 (lieI z2 (wordsV9 [(0, U.ce), (1, 0), (3, key)]) :: lieI z1 (partsV [(0, U.ce), (1, 0), (3, key)]) :: boxI b (rav (10 + (kk : Int)) h n r) :: LU (if k = 0 then U else { U with F := F5, ml := setL U.ml (5, U.hs, part) word }) (boxI O [.int .i64 ok, .int .u64 key, .int .u64 val, .int .i64 lv] :: R)) w') (by kernel_rfl) (by kernel_rfl) (by kernel_rfl) ⟨hB9.drew.get 3 rfl, HL1.under ((Below.refl _ _).drew), HL2.under ((Below.refl _ _).drew)⟩ ⟨U.F, hB9.drew⟩ (fun hT => ?_)
      have hT9 := Lib.hid hT
      clear hT
      repeat (first
        | (refine Ord.ch_value (v := ?_) hT9.out (by decide) (by rfl) ?_ ?_; rotate_left; (focus (intro w5 hS; have r1 := hS.1.rule; have r2 := hS.2.1.2; have r3 := hS.2.2.2; unfold urv at r1; go_simp <;> with_reducible rfl)); (try simp only [Act.put, List.setIfInBounds_toArray, List.set_cons_zero, List.set_cons_succ]))
        | (refine Ord.ch_off hT9.out (by decide) (by rfl) ?_; (try simp only [Act.put, List.setIfInBounds_toArray, List.set_cons_zero, List.set_cons_succ]))
        | (refine Ord.ch_call (v := ?_) (f := ?_) (args := ?_) hT9.out (by decide) (by rfl) ?_ ?_ ?_; rotate_left 3; (focus (intro w5 hS; have r1 := hS.1.rule; have r2 := hS.2.1.2; have r3 := hS.2.2.2; unfold urv at r1; go_simp; constructor <;> with_reducible rfl)); (focus (intro w5 hS; (first | (with_reducible refine (cell13_any _ _ _).mono ?_; rintro e w6 ⟨rfl, hb6⟩; constructor; with_reducible rfl; exact ⟨⟨hS.1.under hb6, hS.2.1.under hb6, hS.2.2.under hb6⟩, fun k h => h.elim fun F5 h => ⟨F5, h.over hb6⟩⟩)))); (try simp only [Act.put, List.setIfInBounds_toArray, List.set_cons_zero, List.set_cons_succ])))
      refine Ord.ch_turn (v := .tuple #[]) 0 hT9.out rfl (by decide) (Or.inl rfl) (by rfl) ?_ ?_
      · rintro w5 hC5 ⟨F5, hA5⟩
        simp only [if_true] at hA5
        go_simp
        simp only [Ord.LandsIn]
        refine (refSet_any 5 U.hs part word hml (hA5.ref 5 rfl)).mono ?_
        rintro e w6 ⟨rfl, F6, hU, hs9⟩
        have hE6 := hA5.turnU 5 rfl hU hs9
        exact ⟨rfl, ⟨hE6.get 3 rfl, hE6.lie 1 rfl kk hp1, hE6.lie 0 rfl kk hp2⟩, F6, hE6⟩
      (try simp only [Act.put, List.setIfInBounds_toArray, List.set_cons_zero, List.set_cons_succ])
      repeat (first
        | (refine Ord.ch_value (v := ?_) hT9.out (by decide) (by rfl) ?_ ?_; rotate_left; (focus (intro w5 hS; skip; go_simp <;> with_reducible rfl)); (try simp only [Act.put, List.setIfInBounds_toArray, List.set_cons_zero, List.set_cons_succ]))
        | (refine Ord.ch_off hT9.out (by decide) (by rfl) ?_; (try simp only [Act.put, List.setIfInBounds_toArray, List.set_cons_zero, List.set_cons_succ])))
      refine Ord.InText.nil fun w5 hS => ?_
      clear hT9
      obtain ⟨hC9, hA9⟩ := Ord.chain_end hS
      clear hS
      obtain ⟨F9, hA9⟩ := hA9
      simp only [List.length_cons, List.length_nil, Nat.zero_add, Nat.one_ne_zero, if_false] at hA9
      clear hC9 hB9
      have r3 := hA9.rule 2 rfl
      unfold rav at r3
      have f0 := hA9.thaw 2 rfl 0 (by simp [rav])
      have hP := (hA9.put 2 rfl (j := 0) (by simp [rav]) (.int .i64 (10 + (kk : Int) + 1))).sub (L' := boxI b (rav (10 + (kk : Int) + 1) h n r) :: LU { U with F := F9, ml := setL U.ml (5, U.hs, part) word } R) (.cons _ (.cons _ (.cons_cons _ (.cons_cons _ (.cons_cons _ (.cons_cons _ (.cons _ (List.Sublist.refl _))))))))
      cases bl
      · have hne : ¬ kk + 1 = 3 := by simpa using HBL.out
        have HP : Hid (lastS kk (List.length ([(0, U.ce), (1, 0), (3, key)] : List (Int × Int))) = 0) := Lib.hid (if_neg (by rw [HL3.out]; exact hne))
        clear hne
        go_wp2_with fail
        go_ret
        rw [HWW.out, HP.out]
        exact ⟨rfl, F9, hP⟩
      · have heq : kk + 1 = 3 := by simpa using HBL.out
        have HP : Hid (lastS kk (List.length ([(0, U.ce), (1, 0), (3, key)] : List (Int × Int))) = 1) := Lib.hid (if_pos (by rw [HL3.out]; exact heq))
        clear heq
        go_wp2_with fail
        go_ret
        rw [HWW.out, HP.out]
        exact ⟨rfl, F9, hP⟩
    · have hl3 : WW = [(0, U.ce), (1, 0), (3, key), (5, IntKind.u64.wrap lv), (6, 0)] := by rw [← HWW.out]; unfold wordsA; rw [if_neg (by simpa using hk2), if_pos (by simpa using hk3)]; rfl
      go_upto_region 10 with fail
      clear r1 r3
      have hX := hA9.box w9.heap.size rfl [.int .i64 5, .int .i64 6] 3
      obtain ⟨A8, c8, w8, hrun, hX8⟩ := hX.appendRow (P := Tryz.prog) 2 rfl 23 23 Tryz.underlying23 (.int .i64 0) infoI1 rfl (by decide) (some ⟨w9.heap.size, 0, none⟩) 2 2 [.int .i64 5, .int .i64 6] rfl (.inr ⟨_, rfl, cells_new _ _ _⟩) (by simp [Value.oneCell']) (by decide) (by decide)
      have HRUN := Lib.hid hrun
      have hX9 := hX8.sub (.cons _ (List.Sublist.refl _))
      have r2 := hX9.rule 6 rfl
      clear hrun hX hX8 hA9
      go_upto_region 11 with (at_builtin; refine wpList_append_run rfl _ _ 23 rfl HRUN.out rfl rfl ?_)
      clear HRUN
      have hY := hX9.box w8.heap.size rfl [.int .u64 (IntKind.u64.wrap lv), .int .u64 0] 48
      obtain ⟨A6, c6, w6, hrun, hY8⟩ := hY.appendRow (P := Tryz.prog) 1 rfl 32 32 Tryz.underlying32 (.int .u64 0) infoU1 rfl (by decide) (some ⟨w8.heap.size, 0, none⟩) 2 2 [.int .u64 (IntKind.u64.wrap lv), .int .u64 0] rfl (.inr ⟨_, rfl, cells_new _ _ _⟩) (by simp [Value.oneCell']) (by decide) (by decide)
      have HRUN := Lib.hid hrun
      have hA9 := hY8.sub (.cons _ (List.Sublist.refl _))
      have r1 := hA9.rule 3 rfl
      unfold urv at r1
      clear hrun hY hY8
      go_upto_region 12 with (at_builtin; refine wpList_append_run rfl _ _ 32 rfl HRUN.out rfl rfl ?_)
      clear HRUN hX9 r1 r2
      obtain ⟨g2, c2, he2, hB⟩ := hA9.rowLiesAt 0 rfl (by decide)
      cases he2
      obtain ⟨g1, c1, he1, hB⟩ := hB.rowLiesAt 1 rfl (by decide)
      cases he1
      subst hl3
      have HL3 : Hid (List.length ([(0, U.ce), (1, 0), (3, key), (5, IntKind.u64.wrap lv), (6, 0)] : List (Int × Int)) = 5) := Lib.hid rfl
      have hkn : kk < 5 := hkl
      have hp1 : (partsV [(0, U.ce), (1, 0), (3, key), (5, IntKind.u64.wrap lv), (6, 0)])[kk]? = some (.int .i64 part) := by unfold partsV; rw [List.getElem?_map, hpw]; rfl
      have hp2 : (wordsV9 [(0, U.ce), (1, 0), (3, key), (5, IntKind.u64.wrap lv), (6, 0)])[kk]? = some (.int .u64 word) := by unfold wordsV9; rw [List.getElem?_map, hpw]; rfl
      have hB9 : Env w0 (lieI g2 (wordsV9 [(0, U.ce), (1, 0), (3, key), (5, IntKind.u64.wrap lv), (6, 0)]) :: lieI g1 (partsV [(0, U.ce), (1, 0), (3, key), (5, IntKind.u64.wrap lv), (6, 0)]) :: boxI b (rav (10 + (kk : Int)) h n r) :: LU U (boxI O [.int .i64 ok, .int .u64 key, .int .u64 val, .int .i64 lv] :: R)) _ := hB
      clear hB hA9
      have HL1 := hB9.lie 1 rfl kk hp1
      have HL2 := hB9.lie 0 rfl kk hp2
      have hlb : ((kk : Int) == 4) = decide (kk + 1 = 5) := by
        by_cases h : kk + 1 = 5
        · rw [decide_eq_true h]; simp; omega
        · rw [decide_eq_false h]; simp; omega
      have hlt : decide ((kk : Int) < 5) = true := by simp; omega
      have hlt2 : (kk : Int) < 5 := by omega
      have hge : (0 : Int) ≤ kk := by omega
      obtain ⟨bl, hbl⟩ : ∃ b, decide (kk + 1 = 5) = b := ⟨_, rfl⟩
      rw [hbl] at hlb
      have HBL := Lib.hid hbl
      clear hbl
      have r3 := hB9.rule 2 rfl
      unfold rav at r3
      go_wp2_with fail
      refine Ord.wp_chain [14] (fun v => Blk 0 v U.u (urv U.ck U.cs U.cb U.ch U.cl U.ce U.A U.ql.length U.c U.N U.hs U.ro) ∧ Lie v g1 kk (.int .i64 part) ∧ Lie v g2 kk (.int .u64 word)) (fun k w' => ∃ F5, Env w0 (lieI g2 (wordsV9 [(0, U.ce), (1, 0), (3, key), (5, IntKind.u64.wrap lv), (6, 0)]) :: lieI g1 (partsV [(0, U.ce), (1, 0), (3, key), (5, IntKind.u64.wrap lv), (6, 0)]) :: boxI b (rav (10 + (kk : Int)) h n r) :: LU (if k = 0 then U else { U with F := F5, ml := setL U.ml (5, U.hs, part) word }) (boxI O [.int .i64 ok, .int .u64 key, .int .u64 val, .int .i64 lv] :: R)) w') (by kernel_rfl) (by kernel_rfl) (by kernel_rfl) ⟨hB9.drew.get 3 rfl, HL1.under ((Below.refl _ _).drew), HL2.under ((Below.refl _ _).drew)⟩ ⟨U.F, hB9.drew⟩ (fun hT => ?_)
      have hT9 := Lib.hid hT
      clear hT
      repeat (first
        | (refine Ord.ch_value (v := ?_) hT9.out (by decide) (by rfl) ?_ ?_; rotate_left; (focus (intro w5 hS; have r1 := hS.1.rule; have r2 := hS.2.1.2; have r3 := hS.2.2.2; unfold urv at r1; go_simp <;> with_reducible rfl)); (try simp only [Act.put, List.setIfInBounds_toArray, List.set_cons_zero, List.set_cons_succ]))
        | (refine Ord.ch_off hT9.out (by decide) (by rfl) ?_; (try simp only [Act.put, List.setIfInBounds_toArray, List.set_cons_zero, List.set_cons_succ]))
        | (refine Ord.ch_call (v := ?_) (f := ?_) (args := ?_) hT9.out (by decide) (by rfl) ?_ ?_ ?_; rotate_left 3; (focus (intro w5 hS; have r1 := hS.1.rule; have r2 := hS.2.1.2; have r3 := hS.2.2.2; unfold urv at r1; go_simp; constructor <;> with_reducible rfl)); (focus (intro w5 hS; (first | (with_reducible refine (cell13_any _ _ _).mono ?_; rintro e w6 ⟨rfl, hb6⟩; constructor; with_reducible rfl; exact ⟨⟨hS.1.under hb6, hS.2.1.under hb6, hS.2.2.under hb6⟩, fun k h => h.elim fun F5 h => ⟨F5, h.over hb6⟩⟩)))); (try simp only [Act.put, List.setIfInBounds_toArray, List.set_cons_zero, List.set_cons_succ])))
      refine Ord.ch_turn (v := .tuple #[]) 0 hT9.out rfl (by decide) (Or.inl rfl) (by rfl) ?_ ?_
      · rintro w5 hC5 ⟨F5, hA5⟩
        simp only [if_true] at hA5
        go_simp
        simp only [Ord.LandsIn]
        refine (refSet_any 5 U.hs part word hml (hA5.ref 5 rfl)).mono ?_
        rintro e w6 ⟨rfl, F6, hU, hs9⟩
        have hE6 := hA5.turnU 5 rfl hU hs9
        exact ⟨rfl, ⟨hE6.get 3 rfl, hE6.lie 1 rfl kk hp1, hE6.lie 0 rfl kk hp2⟩, F6, hE6⟩
      (try simp only [Act.put, List.setIfInBounds_toArray, List.set_cons_zero, List.set_cons_succ])
      repeat (first
        | (refine Ord.ch_value (v := ?_) hT9.out (by decide) (by rfl) ?_ ?_; rotate_left; (focus (intro w5 hS; skip; go_simp <;> with_reducible rfl)); (try simp only [Act.put, List.setIfInBounds_toArray, List.set_cons_zero, List.set_cons_succ]))
        | (refine Ord.ch_off hT9.out (by decide) (by rfl) ?_; (try simp only [Act.put, List.setIfInBounds_toArray, List.set_cons_zero, List.set_cons_succ])))
      refine Ord.InText.nil fun w5 hS => ?_
      clear hT9
      obtain ⟨hC9, hA9⟩ := Ord.chain_end hS
      clear hS
      obtain ⟨F9, hA9⟩ := hA9
      simp only [List.length_cons, List.length_nil, Nat.zero_add, Nat.one_ne_zero, if_false] at hA9
      clear hC9 hB9
      have r3 := hA9.rule 2 rfl
      unfold rav at r3
      have f0 := hA9.thaw 2 rfl 0 (by simp [rav])
      have hP := (hA9.put 2 rfl (j := 0) (by simp [rav]) (.int .i64 (10 + (kk : Int) + 1))).sub (L' := boxI b (rav (10 + (kk : Int) + 1) h n r) :: LU { U with F := F9, ml := setL U.ml (5, U.hs, part) word } R) (.cons _ (.cons _ (.cons_cons _ (.cons_cons _ (.cons_cons _ (.cons_cons _ (.cons _ (List.Sublist.refl _))))))))
      cases bl
      · have hne : ¬ kk + 1 = 5 := by simpa using HBL.out
        have HP : Hid (lastS kk (List.length ([(0, U.ce), (1, 0), (3, key), (5, IntKind.u64.wrap lv), (6, 0)] : List (Int × Int))) = 0) := Lib.hid (if_neg (by rw [HL3.out]; exact hne))
        clear hne
        go_wp2_with fail
        go_ret
        rw [HWW.out, HP.out]
        exact ⟨rfl, F9, hP⟩
      · have heq : kk + 1 = 5 := by simpa using HBL.out
        have HP : Hid (lastS kk (List.length ([(0, U.ce), (1, 0), (3, key), (5, IntKind.u64.wrap lv), (6, 0)] : List (Int × Int))) = 1) := Lib.hid (if_pos (by rw [HL3.out]; exact heq))
        clear heq
        go_wp2_with fail
        go_ret
        rw [HWW.out, HP.out]
        exact ⟨rfl, F9, hP⟩
  · have hk3 : (U.ck == 3) = false := by simp only [beq_iff_eq] at hk2; simp [hk2]
    have hl3 : WW = [(0, U.ce), (1, 0), (3, key), (4, val)] := by rw [← HWW.out]; unfold wordsA; rw [if_pos (by simpa using hk2)]; rfl
    go_upto_region 7 with fail
    clear r1 r3
    have hX := hA9.box w9.heap.size rfl [.int .i64 4] 3
    obtain ⟨A8, c8, w8, hrun, hX8⟩ := hX.appendRow (P := Tryz.prog) 2 rfl 23 23 Tryz.underlying23 (.int .i64 0) infoI1 rfl (by decide) (some ⟨w9.heap.size, 0, none⟩) 1 1 [.int .i64 4] rfl (.inr ⟨_, rfl, cells_new _ _ _⟩) (by simp [Value.oneCell']) (by decide) (by decide)
    have HRUN := Lib.hid hrun
    have hX9 := hX8.sub (.cons _ (List.Sublist.refl _))
    have r2 := hX9.rule 6 rfl
    clear hrun hX hX8 hA9
    go_upto_region 8 with (at_builtin; refine wpList_append_run rfl _ _ 23 rfl HRUN.out rfl rfl ?_)
    clear HRUN
    have hY := hX9.box w8.heap.size rfl [.int .u64 val] 48
    obtain ⟨A6, c6, w6, hrun, hY8⟩ := hY.appendRow (P := Tryz.prog) 1 rfl 32 32 Tryz.underlying32 (.int .u64 0) infoU1 rfl (by decide) (some ⟨w8.heap.size, 0, none⟩) 1 1 [.int .u64 val] rfl (.inr ⟨_, rfl, cells_new _ _ _⟩) (by simp [Value.oneCell']) (by decide) (by decide)
    have HRUN := Lib.hid hrun
    have hA9 := hY8.sub (.cons _ (List.Sublist.refl _))
    have r1 := hA9.rule 3 rfl
    unfold urv at r1
    clear hrun hY hY8
    go_upto_region 12 with (at_builtin; refine wpList_append_run rfl _ _ 32 rfl HRUN.out rfl rfl ?_)
    clear HRUN hX9 r1 r2
    obtain ⟨g2, c2, he2, hB⟩ := hA9.rowLiesAt 0 rfl (by decide)
    cases he2
    obtain ⟨g1, c1, he1, hB⟩ := hB.rowLiesAt 1 rfl (by decide)
    cases he1
    subst hl3
    have HL3 : Hid (List.length ([(0, U.ce), (1, 0), (3, key), (4, val)] : List (Int × Int)) = 4) := Lib.hid rfl
    have hkn : kk < 4 := hkl
    have hp1 : (partsV [(0, U.ce), (1, 0), (3, key), (4, val)])[kk]? = some (.int .i64 part) := by unfold partsV; rw [List.getElem?_map, hpw]; rfl
    have hp2 : (wordsV9 [(0, U.ce), (1, 0), (3, key), (4, val)])[kk]? = some (.int .u64 word) := by unfold wordsV9; rw [List.getElem?_map, hpw]; rfl
    have hB9 : Env w0 (lieI g2 (wordsV9 [(0, U.ce), (1, 0), (3, key), (4, val)]) :: lieI g1 (partsV [(0, U.ce), (1, 0), (3, key), (4, val)]) :: boxI b (rav (10 + (kk : Int)) h n r) :: LU U (boxI O [.int .i64 ok, .int .u64 key, .int .u64 val, .int .i64 lv] :: R)) _ := hB
    clear hB hA9
    have HL1 := hB9.lie 1 rfl kk hp1
    have HL2 := hB9.lie 0 rfl kk hp2
    have hlb : ((kk : Int) == 3) = decide (kk + 1 = 4) := by
      by_cases h : kk + 1 = 4
      · rw [decide_eq_true h]; simp; omega
      · rw [decide_eq_false h]; simp; omega
    have hlt : decide ((kk : Int) < 4) = true := by simp; omega
    have hlt2 : (kk : Int) < 4 := by omega
    have hge : (0 : Int) ≤ kk := by omega
    obtain ⟨bl, hbl⟩ : ∃ b, decide (kk + 1 = 4) = b := ⟨_, rfl⟩
    rw [hbl] at hlb
    have HBL := Lib.hid hbl
    clear hbl
    have r3 := hB9.rule 2 rfl
    unfold rav at r3
    go_wp2_with fail
    refine Ord.wp_chain [14] (fun v => Blk 0 v U.u (urv U.ck U.cs U.cb U.ch U.cl U.ce U.A U.ql.length U.c U.N U.hs U.ro) ∧ Lie v g1 kk (.int .i64 part) ∧ Lie v g2 kk (.int .u64 word)) (fun k w' => ∃ F5, Env w0 (lieI g2 (wordsV9 [(0, U.ce), (1, 0), (3, key), (4, val)]) :: lieI g1 (partsV [(0, U.ce), (1, 0), (3, key), (4, val)]) :: boxI b (rav (10 + (kk : Int)) h n r) :: LU (if k = 0 then U else { U with F := F5, ml := setL U.ml (5, U.hs, part) word }) (boxI O [.int .i64 ok, .int .u64 key, .int .u64 val, .int .i64 lv] :: R)) w') (by kernel_rfl) (by kernel_rfl) (by kernel_rfl) ⟨hB9.drew.get 3 rfl, HL1.under ((Below.refl _ _).drew), HL2.under ((Below.refl _ _).drew)⟩ ⟨U.F, hB9.drew⟩ (fun hT => ?_)
    have hT9 := Lib.hid hT
    clear hT
    repeat (first
      | (refine Ord.ch_value (v := ?_) hT9.out (by decide) (by rfl) ?_ ?_; rotate_left; (focus (intro w5 hS; have r1 := hS.1.rule; have r2 := hS.2.1.2; have r3 := hS.2.2.2; unfold urv at r1; go_simp <;> with_reducible rfl)); (try simp only [Act.put, List.setIfInBounds_toArray, List.set_cons_zero, List.set_cons_succ]))
      | (refine Ord.ch_off hT9.out (by decide) (by rfl) ?_; (try simp only [Act.put, List.setIfInBounds_toArray, List.set_cons_zero, List.set_cons_succ]))
      | (refine Ord.ch_call (v := ?_) (f := ?_) (args := ?_) hT9.out (by decide) (by rfl) ?_ ?_ ?_; rotate_left 3; (focus (intro w5 hS; have r1 := hS.1.rule; have r2 := hS.2.1.2; have r3 := hS.2.2.2; unfold urv at r1; go_simp; constructor <;> with_reducible rfl)); (focus (intro w5 hS; (first | (with_reducible refine (cell13_any _ _ _).mono ?_; rintro e w6 ⟨rfl, hb6⟩; constructor; with_reducible rfl; exact ⟨⟨hS.1.under hb6, hS.2.1.under hb6, hS.2.2.under hb6⟩, fun k h => h.elim fun F5 h => ⟨F5, h.over hb6⟩⟩)))); (try simp only [Act.put, List.setIfInBounds_toArray, List.set_cons_zero, List.set_cons_succ])))
    refine Ord.ch_turn (v := .tuple #[]) 0 hT9.out rfl (by decide) (Or.inl rfl) (by rfl) ?_ ?_
    · rintro w5 hC5 ⟨F5, hA5⟩
      simp only [if_true] at hA5
      go_simp
      simp only [Ord.LandsIn]
      refine (refSet_any 5 U.hs part word hml (hA5.ref 5 rfl)).mono ?_
      rintro e w6 ⟨rfl, F6, hU, hs9⟩
      have hE6 := hA5.turnU 5 rfl hU hs9
      exact ⟨rfl, ⟨hE6.get 3 rfl, hE6.lie 1 rfl kk hp1, hE6.lie 0 rfl kk hp2⟩, F6, hE6⟩
    (try simp only [Act.put, List.setIfInBounds_toArray, List.set_cons_zero, List.set_cons_succ])
    repeat (first
      | (refine Ord.ch_value (v := ?_) hT9.out (by decide) (by rfl) ?_ ?_; rotate_left; (focus (intro w5 hS; skip; go_simp <;> with_reducible rfl)); (try simp only [Act.put, List.setIfInBounds_toArray, List.set_cons_zero, List.set_cons_succ]))
      | (refine Ord.ch_off hT9.out (by decide) (by rfl) ?_; (try simp only [Act.put, List.setIfInBounds_toArray, List.set_cons_zero, List.set_cons_succ])))
    refine Ord.InText.nil fun w5 hS => ?_
    clear hT9
    obtain ⟨hC9, hA9⟩ := Ord.chain_end hS
    clear hS
    obtain ⟨F9, hA9⟩ := hA9
    simp only [List.length_cons, List.length_nil, Nat.zero_add, Nat.one_ne_zero, if_false] at hA9
    clear hC9 hB9
    have r3 := hA9.rule 2 rfl
    unfold rav at r3
    have f0 := hA9.thaw 2 rfl 0 (by simp [rav])
    have hP := (hA9.put 2 rfl (j := 0) (by simp [rav]) (.int .i64 (10 + (kk : Int) + 1))).sub (L' := boxI b (rav (10 + (kk : Int) + 1) h n r) :: LU { U with F := F9, ml := setL U.ml (5, U.hs, part) word } R) (.cons _ (.cons _ (.cons_cons _ (.cons_cons _ (.cons_cons _ (.cons_cons _ (.cons _ (List.Sublist.refl _))))))))
    cases bl
    · have hne : ¬ kk + 1 = 4 := by simpa using HBL.out
      have HP : Hid (lastS kk (List.length ([(0, U.ce), (1, 0), (3, key), (4, val)] : List (Int × Int))) = 0) := Lib.hid (if_neg (by rw [HL3.out]; exact hne))
      clear hne
      go_wp2_with fail
      go_ret
      rw [HWW.out, HP.out]
      exact ⟨rfl, F9, hP⟩
    · have heq : kk + 1 = 4 := by simpa using HBL.out
      have HP : Hid (lastS kk (List.length ([(0, U.ce), (1, 0), (3, key), (4, val)] : List (Int × Int))) = 1) := Lib.hid (if_pos (by rw [HL3.out]; exact heq))
      clear heq
      go_wp2_with fail
      go_ret
      rw [HWW.out, HP.out]
      exact ⟨rfl, F9, hP⟩
set_option maxHeartbeats 6400000 in
theorem rwrite0 (x y : Int) (t : List Trip) (hql : U.ql = (x, y, 0) :: t) (hl : t.length ≤ 1000000) (part word : Int) (hpw : (wordsA U.ck U.ce key val (IntKind.u64.wrap lv))[0]? = some (part, word)) (he : 0 ≤ U.ce ∧ U.ce ≤ 9223372036854775807) (hml : U.ml.length ≤ 1000000) (hE : Env w0 (boxI b (rav 10 h n r) :: LU U R) w) :
    Calls Tryz.prog 153 #[.pointer (some ⟨b, 0, none⟩), .pointer (some ⟨U.u, 0, none⟩), .pointer (some ⟨U.m, 0, none⟩), .agg #[.int .i64 ok, .int .u64 key, .int .u64 val, .int .i64 lv]] w fun o w' => o = .returned (.int .i64 (lastS 0 (wordsA U.ck U.ce key val (IntKind.u64.wrap lv)).length)) ∧ ∃ F5 A' c', Env w0 (boxI b (rav 11 h n r) :: LU { U with F := F5, ml := setL U.ml (5, x, part) word, hs := x, ql := t, A := A', c := c' } R) w' := by
  have hE1 := (hE.box w.heap.size rfl [.int .i64 ok, .int .u64 key, .int .u64 val, .int .i64 lv] 50).perm (L' := boxI b (rav 10 h n r) :: LU U (boxI w.heap.size [.int .i64 ok, .int .u64 key, .int .u64 val, .int .i64 lv] :: R)) (List.perm_middle (l₁ := [boxI b (rav 10 h n r), _, _, _])).symm
  have hw1 : IntKind.u64.wrap U.ce = U.ce := wrapU _ (by omega) (by omega)
  have hkl : 0 < (wordsA U.ck U.ce key val (IntKind.u64.wrap lv)).length := (List.getElem?_eq_some_iff.1 hpw).1
  clear he hE
  have rb := hE1.rule 0 rfl
  unfold rav at rb
  go_enter Tryz.func153, Tryz.ntmps153
  go_wp2_with fail
  generalize w.alloc _ = w1 at *
  generalize w.heap.size = O at *
  have hrr : (boxI b (rav 10 h n r) :: LU U (boxI O [.int .i64 ok, .int .u64 key, .int .u64 val, .int .i64 lv] :: R))[2]? = some (rrI U.A U.c ((x, y, 0) :: t)) := by rw [← hql]; rfl
  refine (refPop_at x y 0 6 1 hE1 rfl (by rw [hql]; rfl) hrr hl).mono ?_
  rintro o w2 ⟨rfl, A7, c7, hE2⟩
  have hE3 := (hE2.box w2.heap.size rfl [.int .i64 x, .int .i64 y, .int .i64 0] 159)
  have r9 := hE3.rule 0 rfl
  have r8 := hE3.rule 2 rfl
  unfold urv at r8
  have f8 := hE3.thaw 2 rfl 8 (by simp [urv])
  have hE4 := (hE3.put 2 rfl (j := 8) (by simp [urv]) (.int .i64 x)).sub (L' := boxI b (rav 10 h n r) :: LU { U with hs := x, ql := t, A := A7, c := c7 } (boxI O [.int .i64 ok, .int .u64 key, .int .u64 val, .int .i64 lv] :: R)) (.cons _ (List.Sublist.refl _))
  simp only [tv]
  clear hE1 hE2 hE3 rb hrr
  go_upto_region 4 with fail
  clear r9 r8 f8
  generalize (w2.alloc _).setCell _ _ = w3 at *
  generalize w2.heap.size = Y2 at *
  have hE5 := hE4.addLit 3 1 3 [.int .i64 0, .int .i64 1, .int .i64 3] rfl (by decide)
  clear hE4
  go_wp2_with fail
  generalize w3.alloc _ = w4 at *
  generalize w3.heap.size = z1 at *
  refine Ord3.wp_chain [?_, ?_, ?_, ?_, ?_, ?_, ?_, ?_, ?_] [7, 8] (fun v => Blk 0 v U.u (urv U.ck U.cs U.cb U.ch U.cl U.ce A7 t.length c7 U.N x U.ro) ∧ Blk 0 v O [.int .i64 ok, .int .u64 key, .int .u64 val, .int .i64 lv]) (Ord3.Stage fun κs => [Env w0 (rowI (.slice (some ⟨z1, 0, none⟩) 3 3) 3 1 3 [.int .i64 0, .int .i64 1, .int .i64 3] :: boxI b (rav 10 h n r) :: LU { U with hs := x, ql := t, A := A7, c := c7 } (boxI O [.int .i64 ok, .int .u64 key, .int .u64 val, .int .i64 lv] :: R)), Env w0 (rowI (κs.getD 0 undef) 48 1 3 [.int .u64 U.ce, .int .u64 0, .int .u64 key] :: rowI (.slice (some ⟨z1, 0, none⟩) 3 3) 3 1 3 [.int .i64 0, .int .i64 1, .int .i64 3] :: boxI b (rav 10 h n r) :: LU { U with hs := x, ql := t, A := A7, c := c7 } (boxI O [.int .i64 ok, .int .u64 key, .int .u64 val, .int .i64 lv] :: R)), Env w0 (rowI (κs.getD 1 undef) 48 1 3 [.int .u64 U.ce, .int .u64 0, .int .u64 key] :: rowI (.slice (some ⟨z1, 0, none⟩) 3 3) 3 1 3 [.int .i64 0, .int .i64 1, .int .i64 3] :: boxI b (rav 10 h n r) :: LU { U with hs := x, ql := t, A := A7, c := c7 } (boxI O [.int .i64 ok, .int .u64 key, .int .u64 val, .int .i64 lv] :: R))]) (by kernel_rfl) (by kernel_rfl) (by kernel_rfl) ⟨hE5.drew.get 2 rfl, hE5.drew.get 5 rfl⟩ ⟨_, rfl, hE5.drew⟩ (fun hT => ?_)
  rotate_left 9
  have hT9 := Lib.hid hT
  clear hT
  repeat (first
    | (focus (refine Ord3.in_value (v := ?_) hT9.out (by decide) ?_ (by rfl) ?_ ?_; rotate_left 2; (focus (intro w5 hS; have r1 := Blk.rule hS.1; have r2 := Blk.rule hS.2; unfold urv at r1; go_simp <;> with_reducible rfl)); rotate_right; (focus rfl); (try simp only [Act.put, List.setIfInBounds_toArray, List.set_cons_zero, List.set_cons_succ])))
    | (focus (refine Ord3.in_off hT9.out (by decide) ?_ (by rfl) ?_; (focus rfl); (try simp only [Act.put, List.setIfInBounds_toArray, List.set_cons_zero, List.set_cons_succ])))
    | (focus (refine Ord3.in_call (v := ?_) (f := ?_) (args := ?_) hT9.out (by decide) ?_ (by rfl) ?_ ?_ ?_; rotate_left 4; (focus (intro w5 hS; have r1 := Blk.rule hS.1; have r2 := Blk.rule hS.2; unfold urv at r1; go_simp; constructor <;> with_reducible rfl)); (focus (intro w5 hS; (first | fail))); rotate_right; (focus rfl); (try simp only [Act.put, List.setIfInBounds_toArray, List.set_cons_zero, List.set_cons_succ]))))
  refine Ord3.in_turn (fun u => ∃ z, u = .slice (some ⟨z, 0, none⟩) 3 3) _ ⟨0, rfl⟩ hT9.out rfl (by decide) (by rfl) ?_ (Or.inl rfl) (by rfl) ?_ ?_
  · rfl
  · rintro w7 hC7 ⟨P7, hP7, hA7⟩
    cases hP7
    go_simp
    simp only [Ord3.Lands]
    have hE8 := hA7.addLit 48 1 3 [.int .u64 U.ce, .int .u64 0, .int .u64 key] rfl (by decide)
    exact ⟨⟨_, rfl⟩, ⟨hE8.get 3 rfl, hE8.get 6 rfl⟩, _, rfl, hE8⟩
  rintro _ ⟨z9, rfl⟩
  (try simp only [Act.put, List.setIfInBounds_toArray, List.set_cons_zero, List.set_cons_succ])
  refine Ord3.in_turn (fun u => ∃ z, u = .slice (some ⟨z, 0, none⟩) 3 3) _ ⟨0, rfl⟩ hT9.out rfl (by decide) (by rfl) ?_ (Or.inr ⟨_, 7, [], rfl, by kernel_rfl, by kernel_rfl, rfl⟩) (by rfl) ?_ ?_
  · rfl
  · rintro w7 hC7 ⟨P7, hP7, hA7⟩
    cases hP7
    go_simp
    simp only [Ord3.Lands]
    exact ⟨⟨_, rfl⟩, hC7, _, rfl, hA7⟩
  rintro _ ⟨z2, rfl⟩
  (try simp only [Act.put, List.setIfInBounds_toArray, List.set_cons_zero, List.set_cons_succ])
  refine Ord3.in_nil rfl ?_
  rintro w9 hC9 ⟨P9, hP9, hA9⟩
  cases hP9
  replace hA9 : Env w0 (rowI (.slice (some ⟨z2, 0, none⟩) 3 3) 48 1 3 [.int .u64 U.ce, .int .u64 0, .int .u64 key] :: rowI (.slice (some ⟨z1, 0, none⟩) 3 3) 3 1 3 [.int .i64 0, .int .i64 1, .int .i64 3] :: boxI b (rav 10 h n r) :: LU { U with hs := x, ql := t, A := A7, c := c7 } (boxI O [.int .i64 ok, .int .u64 key, .int .u64 val, .int .i64 lv] :: R)) w9 := hA9
  clear hT9 hC9 hE5
  have r1 := hA9.rule 3 rfl
  unfold urv at r1
  have r2 := hA9.rule 6 rfl
  have r3 := hA9.rule 2 rfl
  unfold rav at r3
  obtain ⟨WW, hWW⟩ : ∃ WW, (wordsA U.ck U.ce key val (IntKind.u64.wrap lv)) = WW := ⟨_, rfl⟩
  rw [hWW] at hpw hkl
  have HWW := Lib.hid hWW
  clear hWW
  rcases hk2 : U.ck == 2 with _ | _
  · rcases hk3 : U.ck == 3 with _ | _
    · have hl3 : WW = [(0, U.ce), (1, 0), (3, key)] := by rw [← HWW.out]; unfold wordsA; rw [if_neg (by simpa using hk2), if_neg (by simpa using hk3)]; rfl
      go_upto_region 12 with fail
      clear r1 r2 r3
      obtain ⟨g2, c2, he2, hB⟩ := hA9.rowLiesAt 0 rfl (by decide)
      cases he2
      obtain ⟨g1, c1, he1, hB⟩ := hB.rowLiesAt 1 rfl (by decide)
      cases he1
      subst hl3
      have HL3 : Hid (List.length ([(0, U.ce), (1, 0), (3, key)] : List (Int × Int)) = 3) := Lib.hid rfl
      have hkn : 0 < 3 := hkl
      have hp1 : (partsV [(0, U.ce), (1, 0), (3, key)])[0]? = some (.int .i64 part) := by unfold partsV; rw [List.getElem?_map, hpw]; rfl
      have hp2 : (wordsV9 [(0, U.ce), (1, 0), (3, key)])[0]? = some (.int .u64 word) := by unfold wordsV9; rw [List.getElem?_map, hpw]; rfl
      have hB9 : Env w0 (lieI z2 (wordsV9 [(0, U.ce), (1, 0), (3, key)]) :: lieI z1 (partsV [(0, U.ce), (1, 0), (3, key)]) :: boxI b (rav 10 h n r) :: LU { U with hs := x, ql := t, A := A7, c := c7 } (boxI O [.int .i64 ok, .int .u64 key, .int .u64 val, .int .i64 lv] :: R)) _ := hB
      clear hB hA9
      have HL1 := hB9.lie 1 rfl 0 hp1
      have HL2 := hB9.lie 0 rfl 0 hp2
      skip
      have r3 := hB9.rule 2 rfl
      unfold rav at r3
      go_wp2_with fail
      refine Ord.wp_chain [14] (fun v => Blk 0 v U.u (urv U.ck U.cs U.cb U.ch U.cl U.ce A7 t.length c7 U.N x U.ro) ∧ Lie v z1 0 (.int .i64 part) ∧ Lie v z2 0 (.int .u64 word)) (fun k w' => ∃ F5, Env w0 (lieI z2 (wordsV9 [(0, U.ce), (1, 0), (3, key)]) :: lieI z1 (partsV [(0, U.ce), (1, 0), (3, key)]) :: boxI b (rav 10 h n r) :: LU (if k = 0 then { U with hs := x, ql := t, A := A7, c := c7 } else { U with F := F5, ml := setL U.ml (5, x, part) word, hs := x, ql := t, A := A7, c := c7 }) (boxI O [.int .i64 ok, .int .u64 key, .int .u64 val, .int .i64 lv] :: R)) w') (by kernel_rfl) (by kernel_rfl) (by kernel_rfl) ⟨hB9.drew.get 3 rfl, HL1.under ((Below.refl _ _).drew), HL2.under ((Below.refl _ _).drew)⟩ ⟨U.F, hB9.drew⟩ (fun hT => ?_)
      have hT9 := Lib.hid hT
      clear hT
      repeat (first
        | (refine Ord.ch_value (v := ?_) hT9.out (by decide) (by rfl) ?_ ?_; rotate_left; (focus (intro w5 hS; have r1 := hS.1.rule; have r2 := hS.2.1.2; have r3 := hS.2.2.2; unfold urv at r1; go_simp <;> with_reducible rfl)); (try simp only [Act.put, List.setIfInBounds_toArray, List.set_cons_zero, List.set_cons_succ]))
        | (refine Ord.ch_off hT9.out (by decide) (by rfl) ?_; (try simp only [Act.put, List.setIfInBounds_toArray, List.set_cons_zero, List.set_cons_succ]))
        | (refine Ord.ch_call (v := ?_) (f := ?_) (args := ?_) hT9.out (by decide) (by rfl) ?_ ?_ ?_; rotate_left 3; (focus (intro w5 hS; have r1 := hS.1.rule; have r2 := hS.2.1.2; have r3 := hS.2.2.2; unfold urv at r1; go_simp; constructor <;> with_reducible rfl)); (focus (intro w5 hS; (first | (with_reducible refine (cell13_any _ _ _).mono ?_; rintro e w6 ⟨rfl, hb6⟩; constructor; with_reducible rfl; exact ⟨⟨hS.1.under hb6, hS.2.1.under hb6, hS.2.2.under hb6⟩, fun k h => h.elim fun F5 h => ⟨F5, h.over hb6⟩⟩)))); (try simp only [Act.put, List.setIfInBounds_toArray, List.set_cons_zero, List.set_cons_succ])))
      refine Ord.ch_turn (v := .tuple #[]) 0 hT9.out rfl (by decide) (Or.inl rfl) (by rfl) ?_ ?_
      · rintro w5 hC5 ⟨F5, hA5⟩
        simp only [if_true] at hA5
        go_simp
        simp only [Ord.LandsIn]
        refine (refSet_any 5 x part word hml (hA5.ref 5 rfl)).mono ?_
        rintro e w6 ⟨rfl, F6, hU, hs9⟩
        have hE6 := hA5.turnU 5 rfl hU hs9
        exact ⟨rfl, ⟨hE6.get 3 rfl, hE6.lie 1 rfl 0 hp1, hE6.lie 0 rfl 0 hp2⟩, F6, hE6⟩
      (try simp only [Act.put, List.setIfInBounds_toArray, List.set_cons_zero, List.set_cons_succ])
      repeat (first
        | (refine Ord.ch_value (v := ?_) hT9.out (by decide) (by rfl) ?_ ?_; rotate_left; (focus (intro w5 hS; skip; go_simp <;> with_reducible rfl)); (try simp only [Act.put, List.setIfInBounds_toArray, List.set_cons_zero, List.set_cons_succ]))
        | (refine Ord.ch_off hT9.out (by decide) (by rfl) ?_; (try simp only [Act.put, List.setIfInBounds_toArray, List.set_cons_zero, List.set_cons_succ])))
      refine Ord.InText.nil fun w5 hS => ?_
      clear hT9
      obtain ⟨hC9, hA9⟩ := Ord.chain_end hS
      clear hS
      obtain ⟨F9, hA9⟩ := hA9
      simp only [List.length_cons, List.length_nil, Nat.zero_add, Nat.one_ne_zero, if_false] at hA9
      clear hC9 hB9
      have r3 := hA9.rule 2 rfl
      unfold rav at r3
      have f0 := hA9.thaw 2 rfl 0 (by simp [rav])
      have hP := (hA9.put 2 rfl (j := 0) (by simp [rav]) (.int .i64 11)).sub (L' := boxI b (rav 11 h n r) :: LU { U with F := F9, ml := setL U.ml (5, x, part) word, hs := x, ql := t, A := A7, c := c7 } R) (.cons _ (.cons _ (.cons_cons _ (.cons_cons _ (.cons_cons _ (.cons_cons _ (.cons _ (List.Sublist.refl _))))))))
      have HP : Hid (lastS 0 (List.length ([(0, U.ce), (1, 0), (3, key)] : List (Int × Int))) = 0) := Lib.hid (if_neg (by rw [HL3.out]; decide))
      go_wp2_with fail
      go_ret
      rw [HWW.out, HP.out]
      exact ⟨rfl, F9, A7, c7, hP⟩
    · have hl3 : WW = [(0, U.ce), (1, 0), (3, key), (5, IntKind.u64.wrap lv), (6, 0)] := by rw [← HWW.out]; unfold wordsA; rw [if_neg (by simpa using hk2), if_pos (by simpa using hk3)]; rfl
      go_upto_region 10 with fail
      clear r1 r3
      have hX := hA9.box w9.heap.size rfl [.int .i64 5, .int .i64 6] 3
      obtain ⟨A8, c8, w8, hrun, hX8⟩ := hX.appendRow (P := Tryz.prog) 2 rfl 23 23 Tryz.underlying23 (.int .i64 0) infoI1 rfl (by decide) (some ⟨w9.heap.size, 0, none⟩) 2 2 [.int .i64 5, .int .i64 6] rfl (.inr ⟨_, rfl, cells_new _ _ _⟩) (by simp [Value.oneCell']) (by decide) (by decide)
      have HRUN := Lib.hid hrun
      have hX9 := hX8.sub (.cons _ (List.Sublist.refl _))
      have r2 := hX9.rule 6 rfl
      clear hrun hX hX8 hA9
      go_upto_region 11 with (at_builtin; refine wpList_append_run rfl _ _ 23 rfl HRUN.out rfl rfl ?_)
      clear HRUN
      have hY := hX9.box w8.heap.size rfl [.int .u64 (IntKind.u64.wrap lv), .int .u64 0] 48
      obtain ⟨A6, c6, w6, hrun, hY8⟩ := hY.appendRow (P := Tryz.prog) 1 rfl 32 32 Tryz.underlying32 (.int .u64 0) infoU1 rfl (by decide) (some ⟨w8.heap.size, 0, none⟩) 2 2 [.int .u64 (IntKind.u64.wrap lv), .int .u64 0] rfl (.inr ⟨_, rfl, cells_new _ _ _⟩) (by simp [Value.oneCell']) (by decide) (by decide)
      have HRUN := Lib.hid hrun
      have hA9 := hY8.sub (.cons _ (List.Sublist.refl _))
      have r1 := hA9.rule 3 rfl
      unfold urv at r1
      clear hrun hY hY8
      go_upto_region 12 with (at_builtin; refine wpList_append_run rfl _ _ 32 rfl HRUN.out rfl rfl ?_)
      clear HRUN hX9 r1 r2
      obtain ⟨g2, c2, he2, hB⟩ := hA9.rowLiesAt 0 rfl (by decide)
      cases he2
      obtain ⟨g1, c1, he1, hB⟩ := hB.rowLiesAt 1 rfl (by decide)
      cases he1
      subst hl3
      have HL3 : Hid (List.length ([(0, U.ce), (1, 0), (3, key), (5, IntKind.u64.wrap lv), (6, 0)] : List (Int × Int)) = 5) := Lib.hid rfl
      have hkn : 0 < 5 := hkl
      have hp1 : (partsV [(0, U.ce), (1, 0), (3, key), (5, IntKind.u64.wrap lv), (6, 0)])[0]? = some (.int .i64 part) := by unfold partsV; rw [List.getElem?_map, hpw]; rfl
      have hp2 : (wordsV9 [(0, U.ce), (1, 0), (3, key), (5, IntKind.u64.wrap lv), (6, 0)])[0]? = some (.int .u64 word) := by unfold wordsV9; rw [List.getElem?_map, hpw]; rfl
      have hB9 : Env w0 (lieI g2 (wordsV9 [(0, U.ce), (1, 0), (3, key), (5, IntKind.u64.wrap lv), (6, 0)]) :: lieI g1 (partsV [(0, U.ce), (1, 0), (3, key), (5, IntKind.u64.wrap lv), (6, 0)]) :: boxI b (rav 10 h n r) :: LU { U with hs := x, ql := t, A := A7, c := c7 } (boxI O [.int .i64 ok, .int .u64 key, .int .u64 val, .int .i64 lv] :: R)) _ := hB
      clear hB hA9
      have HL1 := hB9.lie 1 rfl 0 hp1
      have HL2 := hB9.lie 0 rfl 0 hp2
      skip
      have r3 := hB9.rule 2 rfl
      unfold rav at r3
      go_wp2_with fail
      refine Ord.wp_chain [14] (fun v => Blk 0 v U.u (urv U.ck U.cs U.cb U.ch U.cl U.ce A7 t.length c7 U.N x U.ro) ∧ Lie v g1 0 (.int .i64 part) ∧ Lie v g2 0 (.int .u64 word)) (fun k w' => ∃ F5, Env w0 (lieI g2 (wordsV9 [(0, U.ce), (1, 0), (3, key), (5, IntKind.u64.wrap lv), (6, 0)]) :: lieI g1 (partsV [(0, U.ce), (1, 0), (3, key), (5, IntKind.u64.wrap lv), (6, 0)]) :: boxI b (rav 10 h n r) :: LU (if k = 0 then { U with hs := x, ql := t, A := A7, c := c7 } else { U with F := F5, ml := setL U.ml (5, x, part) word, hs := x, ql := t, A := A7, c := c7 }) (boxI O [.int .i64 ok, .int .u64 key, .int .u64 val, .int .i64 lv] :: R)) w') (by kernel_rfl) (by kernel_rfl) (by kernel_rfl) ⟨hB9.drew.get 3 rfl, HL1.under ((Below.refl _ _).drew), HL2.under ((Below.refl _ _).drew)⟩ ⟨U.F, hB9.drew⟩ (fun hT => ?_)
      have hT9 := Lib.hid hT
      clear hT
      repeat (first
        | (refine Ord.ch_value (v := ?_) hT9.out (by decide) (by rfl) ?_ ?_; rotate_left; (focus (intro w5 hS; have r1 := hS.1.rule; have r2 := hS.2.1.2; have r3 := hS.2.2.2; unfold urv at r1; go_simp <;> with_reducible rfl)); (try simp only [Act.put, List.setIfInBounds_toArray, List.set_cons_zero, List.set_cons_succ]))
        | (refine Ord.ch_off hT9.out (by decide) (by rfl) ?_; (try simp only [Act.put, List.setIfInBounds_toArray, List.set_cons_zero, List.set_cons_succ]))
        | (refine Ord.ch_call (v := ?_) (f := ?_) (args := ?_) hT9.out (by decide) (by rfl) ?_ ?_ ?_; rotate_left 3; (focus (intro w5 hS; have r1 := hS.1.rule; have r2 := hS.2.1.2; have r3 := hS.2.2.2; unfold urv at r1; go_simp; constructor <;> with_reducible rfl)); (focus (intro w5 hS; (first | (with_reducible refine (cell13_any _ _ _).mono ?_; rintro e w6 ⟨rfl, hb6⟩; constructor; with_reducible rfl; exact ⟨⟨hS.1.under hb6, hS.2.1.under hb6, hS.2.2.under hb6⟩, fun k h => h.elim fun F5 h => ⟨F5, h.over hb6⟩⟩)))); (try simp only [Act.put, List.setIfInBounds_toArray, List.set_cons_zero, List.set_cons_succ])))
      refine Ord.ch_turn (v := .tuple #[]) 0 hT9.out rfl (by decide) (Or.inl rfl) (by rfl) ?_ ?_
      · rintro w5 hC5 ⟨F5, hA5⟩
        simp only [if_true] at hA5
        go_simp
        simp only [Ord.LandsIn]
        refine (refSet_any 5 x part word hml (hA5.ref 5 rfl)).mono ?_
        rintro e w6 ⟨rfl, F6, hU, hs9⟩
        have hE6 := hA5.turnU 5 rfl hU hs9
        exact ⟨rfl, ⟨hE6.get 3 rfl, hE6.lie 1 rfl 0 hp1, hE6.lie 0 rfl 0 hp2⟩, F6, hE6⟩
      (try simp only [Act.put, List.setIfInBounds_toArray, List.set_cons_zero, List.set_cons_succ])
      repeat (first
        | (refine Ord.ch_value (v := ?_) hT9.out (by decide) (by rfl) ?_ ?_; rotate_left; (focus (intro w5 hS; skip; go_simp <;> with_reducible rfl)); (try simp only [Act.put, List.setIfInBounds_toArray, List.set_cons_zero, List.set_cons_succ]))
        | (refine Ord.ch_off hT9.out (by decide) (by rfl) ?_; (try simp only [Act.put, List.setIfInBounds_toArray, List.set_cons_zero, List.set_cons_succ])))
      refine Ord.InText.nil fun w5 hS => ?_
      clear hT9
      obtain ⟨hC9, hA9⟩ := Ord.chain_end hS
      clear hS
      obtain ⟨F9, hA9⟩ := hA9
      simp only [List.length_cons, List.length_nil, Nat.zero_add, Nat.one_ne_zero, if_false] at hA9
      clear hC9 hB9
      have r3 := hA9.rule 2 rfl
      unfold rav at r3
      have f0 := hA9.thaw 2 rfl 0 (by simp [rav])
      have hP := (hA9.put 2 rfl (j := 0) (by simp [rav]) (.int .i64 11)).sub (L' := boxI b (rav 11 h n r) :: LU { U with F := F9, ml := setL U.ml (5, x, part) word, hs := x, ql := t, A := A7, c := c7 } R) (.cons _ (.cons _ (.cons_cons _ (.cons_cons _ (.cons_cons _ (.cons_cons _ (.cons _ (List.Sublist.refl _))))))))
      have HP : Hid (lastS 0 (List.length ([(0, U.ce), (1, 0), (3, key), (5, IntKind.u64.wrap lv), (6, 0)] : List (Int × Int))) = 0) := Lib.hid (if_neg (by rw [HL3.out]; decide))
      go_wp2_with fail
      go_ret
      rw [HWW.out, HP.out]
      exact ⟨rfl, F9, A7, c7, hP⟩
  · have hk3 : (U.ck == 3) = false := by simp only [beq_iff_eq] at hk2; simp [hk2]
    have hl3 : WW = [(0, U.ce), (1, 0), (3, key), (4, val)] := by rw [← HWW.out]; unfold wordsA; rw [if_pos (by simpa using hk2)]; rfl
    go_upto_region 7 with fail
    clear r1 r3
    have hX := hA9.box w9.heap.size rfl [.int .i64 4] 3
    obtain ⟨A8, c8, w8, hrun, hX8⟩ := hX.appendRow (P := Tryz.prog) 2 rfl 23 23 Tryz.underlying23 (.int .i64 0) infoI1 rfl (by decide) (some ⟨w9.heap.size, 0, none⟩) 1 1 [.int .i64 4] rfl (.inr ⟨_, rfl, cells_new _ _ _⟩) (by simp [Value.oneCell']) (by decide) (by decide)
    have HRUN := Lib.hid hrun
    have hX9 := hX8.sub (.cons _ (List.Sublist.refl _))
    have r2 := hX9.rule 6 rfl
    clear hrun hX hX8 hA9
    go_upto_region 8 with (at_builtin; refine wpList_append_run rfl _ _ 23 rfl HRUN.out rfl rfl ?_)
    clear HRUN
    have hY := hX9.box w8.heap.size rfl [.int .u64 val] 48
    obtain ⟨A6, c6, w6, hrun, hY8⟩ := hY.appendRow (P := Tryz.prog) 1 rfl 32 32 Tryz.underlying32 (.int .u64 0) infoU1 rfl (by decide) (some ⟨w8.heap.size, 0, none⟩) 1 1 [.int .u64 val] rfl (.inr ⟨_, rfl, cells_new _ _ _⟩) (by simp [Value.oneCell']) (by decide) (by decide)
    have HRUN := Lib.hid hrun
    have hA9 := hY8.sub (.cons _ (List.Sublist.refl _))
    have r1 := hA9.rule 3 rfl
    unfold urv at r1
    clear hrun hY hY8
    go_upto_region 12 with (at_builtin; refine wpList_append_run rfl _ _ 32 rfl HRUN.out rfl rfl ?_)
    clear HRUN hX9 r1 r2
    obtain ⟨g2, c2, he2, hB⟩ := hA9.rowLiesAt 0 rfl (by decide)
    cases he2
    obtain ⟨g1, c1, he1, hB⟩ := hB.rowLiesAt 1 rfl (by decide)
    cases he1
    subst hl3
    have HL3 : Hid (List.length ([(0, U.ce), (1, 0), (3, key), (4, val)] : List (Int × Int)) = 4) := Lib.hid rfl
    have hkn : 0 < 4 := hkl
    have hp1 : (partsV [(0, U.ce), (1, 0), (3, key), (4, val)])[0]? = some (.int .i64 part) := by unfold partsV; rw [List.getElem?_map, hpw]; rfl
    have hp2 : (wordsV9 [(0, U.ce), (1, 0), (3, key), (4, val)])[0]? = some (.int .u64 word) := by unfold wordsV9; rw [List.getElem?_map, hpw]; rfl
    have hB9 : Env w0 (lieI g2 (wordsV9 [(0, U.ce), (1, 0), (3, key), (4, val)]) :: lieI g1 (partsV [(0, U.ce), (1, 0), (3, key), (4, val)]) :: boxI b (rav 10 h n r) :: LU { U with hs := x, ql := t, A := A7, c := c7 } (boxI O [.int .i64 ok, .int .u64 key, .int .u64 val, .int .i64 lv] :: R)) _ := hB
    clear hB hA9
    have HL1 := hB9.lie 1 rfl 0 hp1
    have HL2 := hB9.lie 0 rfl 0 hp2
    skip
    have r3 := hB9.rule 2 rfl
    unfold rav at r3
    go_wp2_with fail
    refine Ord.wp_chain [14] (fun v => Blk 0 v U.u (urv U.ck U.cs U.cb U.ch U.cl U.ce A7 t.length c7 U.N x U.ro) ∧ Lie v g1 0 (.int .i64 part) ∧ Lie v g2 0 (.int .u64 word)) (fun k w' => ∃ F5, Env w0 (lieI g2 (wordsV9 [(0, U.ce), (1, 0), (3, key), (4, val)]) :: lieI g1 (partsV [(0, U.ce), (1, 0), (3, key), (4, val)]) :: boxI b (rav 10 h n r) :: LU (if k = 0 then { U with hs := x, ql := t, A := A7, c := c7 } else { U with F := F5, ml := setL U.ml (5, x, part) word, hs := x, ql := t, A := A7, c := c7 }) (boxI O [.int .i64 ok, .int .u64 key, .int .u64 val, .int .i64 lv] :: R)) w') (by kernel_rfl) (by kernel_rfl) (by kernel_rfl) ⟨hB9.drew.get 3 rfl, HL1.under ((Below.refl _ _).drew), HL2.under ((Below.refl _ _).drew)⟩ ⟨U.F, hB9.drew⟩ (fun hT => ?_)
    have hT9 := Lib.hid hT
    clear hT
    repeat (first
      | (refine Ord.ch_value (v := ?_) hT9.out (by decide) (by rfl) ?_ ?_; rotate_left; (focus (intro w5 hS; have r1 := hS.1.rule; have r2 := hS.2.1.2; have r3 := hS.2.2.2; unfold urv at r1; go_simp <;> with_reducible rfl)); (try simp only [Act.put, List.setIfInBounds_toArray, List.set_cons_zero, List.set_cons_succ]))
      | (refine Ord.ch_off hT9.out (by decide) (by rfl) ?_; (try simp only [Act.put, List.setIfInBounds_toArray, List.set_cons_zero, List.set_cons_succ]))
      | (refine Ord.ch_call (v := ?_) (f := ?_) (args := ?_) hT9.out (by decide) (by rfl) ?_ ?_ ?_; rotate_left 3; (focus (intro w5 hS; have r1 := hS.1.rule; have r2 := hS.2.1.2; have r3 := hS.2.2.2; unfold urv at r1; go_simp; constructor <;> with_reducible rfl)); (focus (intro w5 hS; (first | (with_reducible refine (cell13_any _ _ _).mono ?_; rintro e w6 ⟨rfl, hb6⟩; constructor; with_reducible rfl; exact ⟨⟨hS.1.under hb6, hS.2.1.under hb6, hS.2.2.under hb6⟩, fun k h => h.elim fun F5 h => ⟨F5, h.over hb6⟩⟩)))); (try simp only [Act.put, List.setIfInBounds_toArray, List.set_cons_zero, List.set_cons_succ])))
    refine Ord.ch_turn (v := .tuple #[]) 0 hT9.out rfl (by decide) (Or.inl rfl) (by rfl) ?_ ?_
    · rintro w5 hC5 ⟨F5, hA5⟩
      simp only [if_true] at hA5
      go_simp
      simp only [Ord.LandsIn]
      refine (refSet_any 5 x part word hml (hA5.ref 5 rfl)).mono ?_
      rintro e w6 ⟨rfl, F6, hU, hs9⟩
      have hE6 := hA5.turnU 5 rfl hU hs9
      exact ⟨rfl, ⟨hE6.get 3 rfl, hE6.lie 1 rfl 0 hp1, hE6.lie 0 rfl 0 hp2⟩, F6, hE6⟩
    (try simp only [Act.put, List.setIfInBounds_toArray, List.set_cons_zero, List.set_cons_succ])
    repeat (first
      | (refine Ord.ch_value (v := ?_) hT9.out (by decide) (by rfl) ?_ ?_; rotate_left; (focus (intro w5 hS; skip; go_simp <;> with_reducible rfl)); (try simp only [Act.put, List.setIfInBounds_toArray, List.set_cons_zero, List.set_cons_succ]))
      | (refine Ord.ch_off hT9.out (by decide) (by rfl) ?_; (try simp only [Act.put, List.setIfInBounds_toArray, List.set_cons_zero, List.set_cons_succ])))
    refine Ord.InText.nil fun w5 hS => ?_
    clear hT9
    obtain ⟨hC9, hA9⟩ := Ord.chain_end hS
    clear hS
    obtain ⟨F9, hA9⟩ := hA9
    simp only [List.length_cons, List.length_nil, Nat.zero_add, Nat.one_ne_zero, if_false] at hA9
    clear hC9 hB9
    have r3 := hA9.rule 2 rfl
    unfold rav at r3
    have f0 := hA9.thaw 2 rfl 0 (by simp [rav])
    have hP := (hA9.put 2 rfl (j := 0) (by simp [rav]) (.int .i64 11)).sub (L' := boxI b (rav 11 h n r) :: LU { U with F := F9, ml := setL U.ml (5, x, part) word, hs := x, ql := t, A := A7, c := c7 } R) (.cons _ (.cons _ (.cons_cons _ (.cons_cons _ (.cons_cons _ (.cons_cons _ (.cons _ (List.Sublist.refl _))))))))
    have HP : Hid (lastS 0 (List.length ([(0, U.ce), (1, 0), (3, key), (4, val)] : List (Int × Int))) = 0) := Lib.hid (if_neg (by rw [HL3.out]; decide))
    go_wp2_with fail
    go_ret
    rw [HWW.out, HP.out]
    exact ⟨rfl, F9, A7, c7, hP⟩
end
end Go.Proofs.YtdknbegcflldjaaGreatDoor

/- Threads of Allocs, Retires and Gives, by plain mathematics: one step. -/
namespace Go.Proofs.YtdknbegcflldjaaGreatDoor
open Go.RowKit Go.Maps
set_option maxRecDepth 100000

/-- A deed; a structure. -/
structure Dd where
  (kind ok key val lv : Int)
structure Cf where
  (k s b h l : Int)
/-- A thread: its epoch, its own slots, what it holds; which deed is next, what goes on (0 nothing, 1 a checkpoint, 2 an Alloc, 3 a Retire, 4 a Give), and how far these are. -/
structure Th where
  (e : Int)
  (ql : List Trip)
  (hs : Int)
  (nd pc apc : Nat)
  (ah an ar rs : Int)
  (rpc : Nat)
  (re : Int)
  (gpc : Nat)
  (gh gg done : Int)
  (full : Bool)
abbrev Mem := Plc → Int

/-- The next deed that has steps. -/
def beginM : List Dd → Th → Bool × Th
  | [], T => (false, T)
  | d :: r, T =>
    if d.kind = 1 ∨ d.kind = 2 ∨ d.kind = 3 then
      if T.hs = 0 then (true, { T with nd := T.nd + 1, pc := 1 }) else beginM r { T with nd := T.nd + 1 }
    else if d.kind = 4 ∨ d.kind = 5 then
      if T.hs = 0 then beginM r { T with nd := T.nd + 1 } else (true, { T with nd := T.nd + 1, hs := 0, rs := T.hs, rpc := 0, re := 0, pc := 3 })
    else if d.kind = 6 then (true, { T with nd := T.nd + 1, gpc := 0, gh := 0, gg := 0, pc := 4 })
    else if d.kind = 7 then
      if T.hs = 0 then beginM r { T with nd := T.nd + 1 } else beginM r { T with nd := T.nd + 1, ql := T.ql ++ [(T.hs, 0, 0)], hs := 0 }
    else beginM r { T with nd := T.nd + 1 }

/-- An Alloc's step: its state. -/
def allocM (C : Cf) (d : Dd) (T : Th) (f : Mem) : Int × Th × Mem :=
  if T.apc = 1 then (2, T, swf f (1, 0, 0) T.e (T.e + 1))
  else if T.apc = 2 then
    if C.s ≤ f (3, 0, 0) then (0, { T with apc := 3 }, upd f (3, 0, 0) (IntKind.u64.wrap (f (3, 0, 0) + 1)))
    else (decS (T.ql ++ [(f (3, 0, 0) + 1, 0, 0)]) T.e C.l, { T with ql := T.ql ++ [(f (3, 0, 0) + 1, 0, 0)], apc := decP (T.ql ++ [(f (3, 0, 0) + 1, 0, 0)]) T.e C.l }, upd f (3, 0, 0) (IntKind.u64.wrap (f (3, 0, 0) + 1)))
  else if T.apc = 3 then (poolS (f (2, 0, 0)) C.l, { T with ah := f (2, 0, 0), apc := 4 }, f)
  else if T.apc = 4 then (0, { T with an := f (5, slotI T.ah, 2), apc := 5 }, f)
  else if T.apc = 5 then (0, { T with ar := f (5, slotI T.ah, 1), apc := 6 }, f)
  else if T.apc = 6 then
    if f (2, 0, 0) = T.ah then (decS (T.ql ++ [(slotI T.ah, epI T.ar, 0)]) T.e C.l, { T with ql := T.ql ++ [(slotI T.ah, epI T.ar, 0)], apc := decP (T.ql ++ [(slotI T.ah, epI T.ar, 0)]) T.e C.l }, swf f (2, 0, 0) T.ah (nextW T.ah (slotI T.an)))
    else (0, { T with apc := 3 }, swf f (2, 0, 0) T.ah (nextW T.ah (slotI T.an)))
  else
    let W := wordsA C.k T.e d.key d.val (IntKind.u64.wrap d.lv)
    let pw := W.getD (T.apc - 10) (0, 0)
    if T.apc = 10 then (lastS 0 W.length, { T with ql := T.ql.tail, hs := (T.ql.headD t0).1, apc := 11 }, upd f (5, (T.ql.headD t0).1, pw.1) pw.2)
    else (lastS (T.apc - 10) W.length, { T with apc := T.apc + 1 }, upd f (5, T.hs, pw.1) pw.2)

/-- A Retire's step. -/
def retireM (T : Th) (f : Mem) : Int × Th × Mem :=
  if T.rpc = 0 then (0, { T with re := f (1, 0, 0), rpc := 1 }, f)
  else (1, { T with ql := T.ql ++ [(T.rs, epI T.re, 0)] }, upd f (5, T.rs, 1) T.re)

/-- A Give's step. -/
def giveM (C : Cf) (T : Th) (f : Mem) : Int × Th × Mem :=
  if T.gpc = 0 then (gdS T.ql, { T with e := epI (f (1, 0, 0)), gpc := 1 }, f)
  else if T.gpc = 1 then (poolG (f (2, 0, 0)) C.l, { T with gh := f (2, 0, 0), gpc := 2 }, f)
  else if T.gpc = 2 then (0, { T with gpc := 3 }, upd f (5, (T.ql.headD t0).1, 2) (wordI false (slotI T.gh) 0))
  else if f (2, 0, 0) = T.gh then (gdS T.ql.tail, { T with ql := T.ql.tail, gg := wrap64 (T.gg + 1), gpc := 1 }, swf f (2, 0, 0) T.gh (nextW T.gh (T.ql.headD t0).1))
  else (0, { T with gpc := 1 }, swf f (2, 0, 0) T.gh (nextW T.gh (T.ql.headD t0).1))

/-- A thread's step, where something goes on; d: the deed that was begun last. -/
def actM (C : Cf) (d : Dd) (T : Th) (f : Mem) : Th × Mem :=
  if T.pc = 1 then
    let e := epI (f (1, 0, 0))
    ({ T with e := e, apc := decP T.ql e C.l, ah := 0, an := 0, ar := 0, pc := if decP T.ql e C.l = 0 then 0 else 2, full := false }, f)
  else if T.pc = 2 then
    let r := allocM C d T f
    ({ r.2.1 with pc := if r.1 = 2 then 1 else if r.1 = 0 then 2 else 0, done := if r.1 = 1 then T.done + 1 else T.done, full := r.1 == 3 }, r.2.2)
  else if T.pc = 3 then
    let r := retireM T f
    ({ r.2.1 with pc := if r.1 = 0 then 3 else 0, full := false }, r.2.2)
  else
    let r := giveM C T f
    ({ r.2.1 with pc := if r.1 = 0 then 4 else 0, full := false }, r.2.2)

/-- A thread's step. -/
def stepM (C : Cf) (ds : List Dd) (T : Th) (f : Mem) : Th × Mem :=
  if T.pc = 0 then
    let r := beginM (ds.drop T.nd) T
    if r.1 then actM C (ds.getD (r.2.nd - 1) ⟨0, 0, 0, 0, 0⟩) r.2 f else (r.2, f)
  else actM C (ds.getD (T.nd - 1) ⟨0, 0, 0, 0, 0⟩) T f
end Go.Proofs.YtdknbegcflldjaaGreatDoor

/- Threads: contracts of Held; of the reading of the epoch, Check, Valid. -/
namespace Go.Proofs.YtdknbegcflldjaaGreatDoor
open Go.RowKit Go.Maps
set_option maxRecDepth 100000

section
variable {w : World} {c q : Nat} {k s b h l e r hs hi : Int}
end

section
variable {w0 w : World} {L : List Item} {p c n : Nat} {F : Nat → Prop} {f : Plc → Int} {q : Cnt}
variable {cc qq : Nat} {k s b h l e r hs hh : Int}
/-- Whether a word is the epoch that a thread has. -/
def okB (x e : Int) : Bool := epB x && (epI x == e)
set_option maxHeartbeats 1600000 in
theorem valid_w (x : Int) (hfx : f (1, 0, 0) = x) (m i j : Nat) (hij : j ≠ i) (hjm : j ≠ m) (hE : Env w0 L w) (hm : L[m]? = some (coreI cc k s b h l e r hs hh qq)) (hi : L[i]? = some (wbox p c)) (hj : L[j]? = some (cellI c F f q n)) :
    Calls Tryz.prog 284 #[.pointer (some ⟨cc, 0, none⟩), .iface 26 (.pointer (some ⟨p, 0, none⟩))] w fun o w' => o = .returned (.bool (okB x e)) ∧ Env w0 ((L.set j (cellI c F f { q with l := wrap64 (q.l + 1) } n)).set m (coreI cc k s b h l e (if okB x e then r else wrap64 (r + 1)) hs hh qq)) w' := by
  have hml : m < L.length := (List.getElem?_eq_some_iff.1 hm).1
  have hset : ∀ w', Env w0 (L.set j (cellI c F f { q with l := wrap64 (q.l + 1) } n)) w' → Env w0 ((L.set j (cellI c F f { q with l := wrap64 (q.l + 1) } n)).set m (coreI cc k s b h l e r hs hh qq)) w' := fun w' h => by
    rw [set_same (wset (b := cellI c F f { q with l := wrap64 (q.l + 1) } n) hjm hm)]
    exact h
  have HS := Lib.hid hset
  clear hset
  have hok : okB x e = (epB x && (epI x == e)) := rfl
  generalize hR : (if okB x e then r else wrap64 (r + 1)) = R
  rw [hok] at hR ⊢
  clear hok
  generalize hy : epI x = y at *
  generalize hB : epB x = B at *
  have HR := Lib.hid hR
  have HY := Lib.hid hy
  have HB := Lib.hid hB
  clear hR hy hB
  go_enter Tryz.func284, Tryz.ntmps284
  go_wp2_with fail
  refine (read_w x hfx i j hij hE hi hj).mono ?_
  rintro o w1 ⟨rfl, hE1⟩
  have hm1 := wset (b := cellI c F f { q with l := wrap64 (q.l + 1) } n) hjm hm
  have r1 := hE1.rule m hm1
  unfold crv at r1
  have f1 := hE1.thaw m hm1 6 (by simp [crv])
  rw [HY.out, HB.out]
  clear HY HB
  cases B
  · have HR2 := HR.out
    simp only [Bool.false_and, Bool.false_eq_true, if_false] at HR2
    subst HR2
    go_wp2_with fail
    go_ret
    exact ⟨rfl, hE1.put m hm1 (j := 6) (by simp [crv]) (.int .i64 (wrap64 (r + 1)))⟩
  · cases hy : y == e
    · have HR2 := HR.out
      rw [hy] at HR2
      simp only [Bool.and_false, Bool.false_eq_true, if_false] at HR2
      subst HR2
      go_wp2_with fail
      go_ret
      exact ⟨ret_bool (by rw [hy]; rfl), hE1.put m hm1 (j := 6) (by simp [crv]) (.int .i64 (wrap64 (r + 1)))⟩
    · have HR2 := HR.out
      rw [hy] at HR2
      simp only [Bool.and_true, if_true] at HR2
      subst HR2
      go_wp2_with fail
      go_ret
      exact ⟨ret_bool (by rw [hy]; rfl), HS.out _ hE1⟩
end
end Go.Proofs.YtdknbegcflldjaaGreatDoor

/- Searches by plain mathematics: a lane's step, a search's. -/
namespace Go.Proofs.YtdknbegcflldjaaGreatDoor
open Go.RowKit Go.Maps
set_option maxRecDepth 100000

/-- A lane: At, how far (1, 2 w; 3, 4 x; 5 cut; 6, 7 k; 8, 9 v), w, x, k, v, c, found. -/
structure Lm where
  p : Plc
  pc : Nat
  W : Int
  X : Int
  K : Int
  V : Int
  C : Int
  fd : Bool
def L0 (p : Plc) : Lm := ⟨p, 0, 0, 0, 0, 0, 0, false⟩
/-- To come to a link; its state. -/
def comeM (L : Lm) (w : Int) : Int × Lm := (if slotI w = 0 then 1 else 0, { L with W := w, X := 0, C := slotI w, pc := 3 })
/-- What was read holds. -/
def holdsM (lv key : Int) (vs : Bool) (L : Lm) : Int × Lm :=
  if L.pc = 2 then (if markB L.W then (2, L) else comeM L L.W)
  else if L.pc = 4 then (0, { L with pc := if markB L.X then 5 else 6 })
  else if L.pc = 7 then
    if L.K < key then comeM { L with p := (5, L.C, 7 + lv) } L.X
    else if L.K = key then (if vs then (0, { L with fd := true, pc := 8 }) else (1, { L with fd := true }))
    else (1, L)
  else (1, L)
/-- A lane's step, of an epoch: its state, the lane, the memory. -/
def laneM (lv key : Int) (vs : Bool) (e : Int) (L : Lm) (f : Plc → Int) : Int × Lm × (Plc → Int) :=
  if L.pc = 0 then (0, { L with W := f L.p, pc := 2 }, f)
  else if L.pc = 3 then (0, { L with X := f (5, L.C, 7 + lv), pc := 4 }, f)
  else if L.pc = 5 then
    if f L.p = L.W then ((comeM L (wordI false (slotI L.X) e)).1, (comeM L (wordI false (slotI L.X) e)).2, swf f L.p L.W (wordI false (slotI L.X) e))
    else (2, L, swf f L.p L.W (wordI false (slotI L.X) e))
  else if L.pc = 6 then (0, { L with K := f (5, L.C, 3), pc := 7 }, f)
  else if L.pc = 8 then (0, { L with V := f (5, L.C, 4), pc := 9 }, f)
  else if okB (f (1, 0, 0)) e then ((holdsM lv key vs L).1, (holdsM lv key vs L).2, f)
  else (2, L, f)
/-- Whether a step is a validate. -/
def isVal (pc : Nat) : Bool := pc == 2 || pc == 4 || pc == 7 || pc == 9
/-- A thread's rolls behind a lane's step. -/
def rollM (e : Int) (L : Lm) (f : Plc → Int) (r : Int) : Int := if isVal L.pc && !okB (f (1, 0, 0)) e then wrap64 (r + 1) else r
/-- What a lane keeps. -/
structure LmOk (L : Lm) : Prop where
  pc : L.pc = 0 ∨ L.pc = 2 ∨ L.pc = 3 ∨ L.pc = 4 ∨ L.pc = 5 ∨ L.pc = 6 ∨ L.pc = 7 ∨ L.pc = 8 ∨ L.pc = 9
  v : L.pc ≤ 8 → L.V = 0
  fd : L.pc ≤ 7 → L.fd = false
  ft : 8 ≤ L.pc → L.fd = true
  x : L.pc ≤ 3 → L.X = 0
  c0 : L.pc ≤ 2 → L.C = 0
  W : InU L.W
  X : InU L.X
  C : 0 ≤ L.C ∧ L.C ≤ 8388607
theorem LmOk.start (p : Plc) : LmOk (L0 p) := ⟨.inl rfl, fun _ => rfl, fun _ => rfl, fun h => absurd h (by simp [L0]), fun _ => rfl, fun _ => rfl, by simp [L0, InU], by simp [L0, InU], by simp [L0]⟩

/-- A search: whether a lane is on, the lane, the thread's epoch and rolls. -/
structure Sm where
  on : Bool
  L : Lm
  e : Int
  r : Int
/-- A search's step: its state, the search, the memory. -/
def searchM (k key : Int) (vs : Bool) (S : Sm) (f : Plc → Int) : Int × Sm × (Plc → Int) :=
  if S.on then (if (laneM 0 key vs S.e S.L f).1 = 1 then 1 else 0, { on := decide ((laneM 0 key vs S.e S.L f).1 ≠ 2), L := (laneM 0 key vs S.e S.L f).2.1, e := S.e, r := rollM S.e S.L f S.r }, (laneM 0 key vs S.e S.L f).2.2)
  else (0, { on := true, L := L0 (4, 0, k), e := epI (f (1, 0, 0)), r := S.r }, f)
end Go.Proofs.YtdknbegcflldjaaGreatDoor

/- Layer 12: the plain mathematics of mixed keys: turning by what is shifted down is its own way back; numbers that times odd ones are 1. -/
namespace Go.Proofs.YtdknbegcflldjaaGreatDoor
open Go.RowKit
set_option maxRecDepth 100000

/-- A word, turned by itself shifted down by 33. -/
def tuN (W : Nat) : Nat := W ^^^ W / 8589934592
theorem tuN_lt {W : Nat} (h : W < 18446744073709551616) : tuN W < 18446744073709551616 :=
  Nat.xor_lt_two_pow (n := 64) h (Nat.lt_of_le_of_lt (Nat.div_le_self _ _) h)
theorem tuN_tuN {W : Nat} (h : W < 18446744073709551616) : tuN (tuN W) = W := by
  apply Nat.eq_of_testBit_eq
  intro i
  have e : (8589934592 : Nat) = 2 ^ 33 := rfl
  unfold tuN
  rw [e, Nat.testBit_xor, Nat.testBit_div_two_pow, Nat.testBit_xor, Nat.testBit_xor, Nat.testBit_div_two_pow, Nat.testBit_div_two_pow]
  have : W.testBit (33 + i + 33) = false := Nat.testBit_lt_two_pow (Nat.lt_of_lt_of_le h (Nat.pow_le_pow_right (show 2 > 0 by omega) (show 64 ≤ 33 + i + 33 by omega)))
  have h2 : W.testBit (i + 33 + 33) = false := by rw [show i + 33 + 33 = 33 + i + 33 by omega]; exact this
  first
    | (simp [this]; done)
    | (simp [h2]; done)
    | (cases W.testBit i <;> cases W.testBit (i + 33) <;> simp_all)
/-- Times a number, modulo 2^64. -/
def tiN (a x : Nat) : Nat := a * x % 18446744073709551616
theorem tiN_lt (a x : Nat) : tiN a x < 18446744073709551616 := Nat.mod_lt _ (by omega)
theorem tiN_back {a b x : Nat} (hab : b * a % 18446744073709551616 = 1) (hx : x < 18446744073709551616) : tiN b (tiN a x) = x := by
  unfold tiN
  rw [Nat.mul_mod, Nat.mod_mod, ← Nat.mul_mod, ← Nat.mul_assoc, Nat.mul_mod, hab, Nat.one_mul, Nat.mod_mod, Nat.mod_eq_of_lt hx]
/-- A key, mixed; and back. -/
def mixN (K : Nat) : Nat := tuN (tiN 14181476777654086739 (tuN (tiN 18397679294719823053 (tuN K))))
def unmN (W : Nat) : Nat := tuN (tiN 5725274745694666757 (tuN (tiN 11291846944257947611 (tuN W))))
theorem mixN_lt (K : Nat) : mixN K < 18446744073709551616 := tuN_lt (tiN_lt _ _)
theorem unmN_lt (K : Nat) : unmN K < 18446744073709551616 := tuN_lt (tiN_lt _ _)
theorem unm_mix {K : Nat} (h : K < 18446744073709551616) : unmN (mixN K) = K := by
  unfold unmN mixN
  rw [tuN_tuN (tiN_lt _ _), tiN_back (by decide) (tuN_lt (tiN_lt _ _)), tuN_tuN (tiN_lt _ _), tiN_back (by decide) (tuN_lt h), tuN_tuN h]
theorem mix_unm {K : Nat} (h : K < 18446744073709551616) : mixN (unmN K) = K := by
  unfold unmN mixN
  rw [tuN_tuN (tiN_lt _ _), tiN_back (by decide) (tuN_lt (tiN_lt _ _)), tuN_tuN (tiN_lt _ _), tiN_back (by decide) (tuN_lt h), tuN_tuN h]

/-! ### as the program's words -/
def tuI (x : Int) : Int := (tuN x.toNat : Nat)
def tiI (a x : Int) : Int := (tiN a.toNat x.toNat : Nat)
def mixI (x : Int) : Int := (mixN x.toNat : Nat)
def unmI (x : Int) : Int := (unmN x.toNat : Nat)
theorem mixI_in (x : Int) : InU (mixI x) := by have := mixN_lt x.toNat; unfold mixI InU; omega
theorem unmI_in (x : Int) : InU (unmI x) := by have := unmN_lt x.toNat; unfold unmI InU; omega
theorem tuI_in {x : Int} (h : InU x) : InU (tuI x) := by have := tuN_lt (W := x.toNat) (by unfold InU at h; omega); unfold tuI InU; omega
theorem tiI_in (a x : Int) : InU (tiI a x) := by have := tiN_lt a.toNat x.toNat; unfold tiI InU; omega
theorem mixI_eq (x : Int) : mixI x = tuI (tiI 14181476777654086739 (tuI (tiI 18397679294719823053 (tuI x)))) := rfl
theorem unmI_eq (x : Int) : unmI x = tuI (tiI 5725274745694666757 (tuI (tiI 11291846944257947611 (tuI x)))) := rfl
theorem unmI_mixI {x : Int} (h : InU x) : unmI (mixI x) = x := by
  unfold InU at h
  unfold unmI mixI
  rw [Int.toNat_natCast, unm_mix (by omega)]
  omega
theorem mixI_unmI {x : Int} (h : InU x) : mixI (unmI x) = x := by
  unfold InU at h
  unfold unmI mixI
  rw [Int.toNat_natCast, mix_unm (by omega)]
  omega
theorem mixI_inj {x y : Int} (hx : InU x) (hy : InU y) : mixI x = mixI y ↔ x = y :=
  ⟨fun h => by rw [← unmI_mixI hx, h, unmI_mixI hy], fun h => by rw [h]⟩
theorem tiI_wrap {a x : Int} (ha : InU a) (hx : InU x) : IntKind.u64.wrap (x * a) = tiI a x := by
  obtain ⟨A, rfl⟩ := Int.eq_ofNat_of_zero_le ha.1
  obtain ⟨X, rfl⟩ := Int.eq_ofNat_of_zero_le hx.1
  rw [IntKind.wrap_u64]
  unfold tiI tiN
  rw [Int.toNat_natCast, Int.toNat_natCast, Int.mul_comm]
  rfl
theorem tu_div {x : Int} (hx : InU x) : x / 8589934592 = ((x.toNat / 8589934592 : Nat) : Int) := by
  obtain ⟨X, rfl⟩ := Int.eq_ofNat_of_zero_le hx.1
  simp

/-! ### what times it is 1 -/
theorem inv_step {a y y' P : Int} (h : P ∣ a * y - 1) (hy : (18446744073709551616 : Int) ∣ y' - y * (2 - a * y)) {Q : Int} (hQ : Q ∣ P * P) (h64 : Q ∣ 18446744073709551616) : Q ∣ a * y' - 1 := by
  obtain ⟨q, hq⟩ := hy
  obtain ⟨p, hp⟩ := h
  have e : a * y' - 1 = -(P * P * (p * p)) + 18446744073709551616 * (a * q) := by
    have e1 : y' = y * (2 - a * y) + 18446744073709551616 * q := by omega
    have e2 : a * y = P * p + 1 := by omega
    rw [e1, Int.mul_add, ← Int.mul_assoc, e2]
    have : a * (18446744073709551616 * q) = 18446744073709551616 * (a * q) := by rw [Int.mul_left_comm]
    rw [this]
    have : (P * p + 1) * (2 - (P * p + 1)) = 1 - (P * p) * (P * p) := by
      generalize P * p = z
      have : 2 - (z + 1) = 1 - z := by omega
      rw [this, Int.add_mul, Int.mul_sub, Int.mul_one, Int.one_mul]
      omega
    have e4 : P * p * (P * p) = P * P * (p * p) := by rw [Int.mul_assoc, Int.mul_left_comm p, ← Int.mul_assoc]
    rw [this, e4]
    omega
  rw [e]
  exact Int.dvd_add (Int.dvd_neg.2 (Int.dvd_mul_of_dvd_left hQ)) (Int.dvd_mul_of_dvd_left h64)
theorem odd_sq {a : Int} (h : a % 2 = 1) : (8 : Int) ∣ a * a - 1 := by
  obtain ⟨k, rfl⟩ : ∃ k, a = 2 * k + 1 := ⟨a / 2, by omega⟩
  have e : (2 * k + 1) * (2 * k + 1) - 1 = 4 * (k * (k + 1)) := by
    have e4 : 2 * k * (2 * k) = 4 * (k * k) := by rw [Int.mul_assoc, Int.mul_left_comm k, ← Int.mul_assoc]; rfl
    rw [Int.add_mul, Int.mul_add, e4, Int.mul_add k k 1]
    omega
  rw [e]
  have : (2 : Int) ∣ k * (k + 1) := by
    rcases Int.emod_two_eq k with h | h
    · exact Int.dvd_mul_of_dvd_left (by omega)
    · exact Int.dvd_mul_of_dvd_right (by omega)
  omega
/-- Two that invert the same are the same. -/
theorem inv_one {a y z : Int} (hy : (18446744073709551616 : Int) ∣ a * y - 1) (hz : (18446744073709551616 : Int) ∣ a * z - 1) (h1 : InU y) (h2 : InU z) : y = z := by
  obtain ⟨p, hp⟩ := hy
  obtain ⟨q, hq⟩ := hz
  have e : y - z = 18446744073709551616 * (p * z - q * y) := by
    have e1 : a * y = 18446744073709551616 * p + 1 := by omega
    have e2 : a * z = 18446744073709551616 * q + 1 := by omega
    have : z * (a * y) = y * (a * z) := by rw [Int.mul_left_comm, Int.mul_left_comm y, Int.mul_comm z y]
    rw [e1, e2, Int.mul_add, Int.mul_add, Int.mul_one, Int.mul_one] at this
    rw [Int.mul_sub]
    have t1 : z * (18446744073709551616 * p) = 18446744073709551616 * (p * z) := by rw [Int.mul_left_comm, Int.mul_comm z p]
    have t2 : y * (18446744073709551616 * q) = 18446744073709551616 * (q * y) := by rw [Int.mul_left_comm, Int.mul_comm y q]
    omega
  unfold InU at h1 h2
  generalize p * z - q * y = t at e
  omega
theorem inv_odd {a y : Int} (hy : (18446744073709551616 : Int) ∣ a * y - 1) : y % 2 = 1 := by
  rcases Int.emod_two_eq y with h | h
  · exfalso
    obtain ⟨k, rfl⟩ : ∃ k, y = 2 * k := ⟨y / 2, by omega⟩
    rw [Int.mul_left_comm] at hy
    generalize a * k = z at hy
    omega
  · exact h
/-- What the function answers: what times it is 1; 0 of an even one. -/
def Inv (a y : Int) : Prop := InU y ∧ (a % 2 = 0 → y = 0) ∧ (a % 2 = 1 → (18446744073709551616 : Int) ∣ a * y - 1)
theorem Inv.back {a y z : Int} (h : Inv a y) (hz : Inv y z) (ha : InU a) (h1 : a % 2 = 1) : z = a := by
  have hy := h.2.2 h1
  exact inv_one (hz.2.2 (inv_odd hy)) (by rw [Int.mul_comm]; exact hy) hz.1 ha
theorem Inv.lit {a y : Int} (h : Inv a y) (h1 : a % 2 = 1) {z : Int} (hz : (18446744073709551616 : Int) ∣ a * z - 1) (h2 : InU z) : y = z := inv_one (h.2.2 h1) hz h.1 h2

/-! ### buckets -/
def buI (n x : Int) : Int := mixI x / 4294967296 * n / 4294967296
theorem high_in (x : Int) : 0 ≤ mixI x / 4294967296 ∧ mixI x / 4294967296 ≤ 4294967295 := by have := mixI_in x; unfold InU at this; omega
theorem buI_in {n : Int} (x : Int) (h : 1 ≤ n ∧ n ≤ 64) : 0 ≤ buI n x ∧ buI n x < n := by
  have h1 := high_in x
  unfold buI
  generalize mixI x / 4294967296 = H at *
  have h2 := mul_in (b := n) (B := n) h1 (by omega)
  omega
theorem buI_wrap {n : Int} (x : Int) (h : 1 ≤ n ∧ n ≤ 64) : IntKind.u64.wrap (mixI x / 4294967296 * n) = mixI x / 4294967296 * n := by
  have h1 := high_in x
  generalize mixI x / 4294967296 = H at *
  have h2 := mul_in (b := n) (B := 64) h1 (by omega)
  rw [IntKind.wrap_u64]
  omega
/-- Twice the buckets halve each. -/
theorem buI_half {n : Int} (x : Int) (h : 1 ≤ n ∧ n ≤ 64) : buI (2 * n) x / 2 = buI n x := by
  have h1 := high_in x
  unfold buI
  generalize mixI x / 4294967296 = H at *
  rw [Int.mul_left_comm]
  generalize H * n = z
  omega
end Go.Proofs.YtdknbegcflldjaaGreatDoor

/- Hash maps changed by threads, by plain mathematics: an op's step, a thread's step. -/
namespace Go.Proofs.YtdknbegcflldjaaGreatDoor
open Go.RowKit Go.Maps
set_option maxRecDepth 100000

/-- A thread: what it has, and how far its Alloc, Retire or Give is (T); what goes on (0 nothing, 1 a search, 2 an Alloc, 3 a Link, 4 to 7 an Unlink, 8 a Give, 9 u1); the op's search, whether the Link is laid, the Unlink's search; the answer; the rolls; to whom an Unlink's mark leads; the answer's value. -/
structure Kt where
  T : Th
  pc : Nat
  on : Bool
  L : Lm
  laid : Bool
  on2 : Bool
  L2 : Lm
  err : Int
  dn : Bool
  r : Int
  to : Int
  vl : Int
/-- A thread's own slots, where what it holds is dropped. -/
def dropQ (hs : Int) (ql : List Trip) : List Trip := if hs = 0 then ql else ql ++ [(hs, 0, 0)]
/-- The key's bucket. -/
def rtM (C : Cf) (d : Dd) : Int := buI C.b d.key
/-- A new search. -/
def findM (C : Cf) (d : Dd) (K : Kt) : Kt := { K with pc := 1, on := false, L := L0 (4, 0, rtM C d) }
/-- A slot is come to, where none is held. -/
def takeM (C : Cf) (K : Kt) : Int × Kt :=
  if decP K.T.ql K.T.e C.l = 0 then (1, { K with err := 7 })
  else (0, { K with pc := 2, T := { K.T with pc := 2, apc := decP K.T.ql K.T.e C.l, ah := 0, an := 0, ar := 0 } })
/-- Behind the search: its state. -/
def foundM (C : Cf) (d : Dd) (K : Kt) : Int × Kt :=
  if K.L.fd then
    if d.ok = 4 then (if K.T.hs = 0 then takeM C K else (0, { K with pc := 9 }))
    else if d.ok = 6 then (0, { K with pc := 4, to := slotI K.L.X })
    else if d.ok = 5 then (1, { K with T := { K.T with ql := dropQ K.T.hs K.T.ql, hs := 0 }, vl := K.L.V })
    else (1, { K with dn := true, vl := K.L.V })
  else if d.ok = 4 ∨ d.ok = 5 then (if K.T.hs = 0 then takeM C K else (0, { K with pc := 3, laid := false }))
  else (1, K)
/-- The word of a mark. -/
def markM (to e : Int) : Int := wordI true to e
/-- An op's step: its state. -/
def opM (C : Cf) (d : Dd) (K : Kt) (f : Mem) : Int × Kt × Mem :=
  if K.pc = 1 then
    let q := searchM (rtM C d) d.key true ⟨K.on, K.L, K.T.e, K.r⟩ f
    let K' := { K with on := q.2.1.on, L := q.2.1.L, r := q.2.1.r, T := { K.T with e := q.2.1.e } }
    if q.1 = 1 then ((foundM C d K').1, (foundM C d K').2, q.2.2) else (0, K', q.2.2)
  else if K.pc = 2 then
    let q := allocM C d K.T f
    if q.1 = 0 then (0, { K with T := q.2.1 }, q.2.2)
    else if q.1 = 3 then (1, { K with T := { q.2.1 with pc := 0 }, err := 6 }, q.2.2)
    else if q.1 = 4 then (1, { K with T := { q.2.1 with pc := 0 }, err := 7 }, q.2.2)
    else (0, findM C d { K with T := { q.2.1 with pc := 0 } }, q.2.2)
  else if K.pc = 3 then
    if K.laid then
      if f K.L.p = K.L.W then (1, { K with T := { K.T with hs := 0 }, dn := decide (d.ok = 5) }, swf f K.L.p K.L.W (wordI false K.T.hs K.T.e))
      else (0, findM C d K, swf f K.L.p K.L.W (wordI false K.T.hs K.T.e))
    else (0, { K with laid := true }, upd f (5, K.T.hs, 7) (wordI false (slotI K.L.W) K.T.e))
  else if K.pc = 9 then (0, { K with pc := 4, to := K.T.hs }, upd f (5, K.T.hs, 7) (wordI false (slotI K.L.X) K.T.e))
  else if K.pc = 4 then
    if f (5, K.L.C, 7) = K.L.X then (0, { K with pc := 5, T := { K.T with hs := 0 } }, swf f (5, K.L.C, 7) K.L.X (markM K.to K.T.e))
    else (0, findM C d K, swf f (5, K.L.C, 7) K.L.X (markM K.to K.T.e))
  else if K.pc = 5 then
    if f K.L.p = K.L.W then (0, { K with pc := 7, T := { K.T with pc := 3, rs := K.L.C, rpc := 0, re := 0 } }, swf f K.L.p K.L.W (wordI false K.to K.T.e))
    else (0, { K with pc := 6, on2 := false, L2 := L0 (4, 0, rtM C d) }, swf f K.L.p K.L.W (wordI false K.to K.T.e))
  else if K.pc = 6 then
    let q := searchM (rtM C d) d.key false ⟨K.on2, K.L2, K.T.e, K.r⟩ f
    let K' := { K with on2 := q.2.1.on, L2 := q.2.1.L, r := q.2.1.r, T := { K.T with e := q.2.1.e } }
    if q.1 = 1 then (0, { K' with pc := 7, T := { K'.T with pc := 3, rs := K.L.C, rpc := 0, re := 0 } }, q.2.2) else (0, K', q.2.2)
  else
    let q := retireM K.T f
    if q.1 = 0 then (0, { K with T := q.2.1 }, q.2.2) else (1, { K with T := { q.2.1 with pc := 0 }, dn := true, vl := K.L.V }, q.2.2)
/-- A thread's step, where something goes on. -/
def actK (C : Cf) (d : Dd) (K : Kt) (f : Mem) : Int × Kt × Mem :=
  if K.pc = 8 then
    let q := giveM C K.T f
    if q.1 = 0 then (0, { K with T := q.2.1 }, q.2.2) else (q.1, { K with T := { q.2.1 with pc := 0 }, pc := 0 }, q.2.2)
  else
    let q := opM C d K f
    (q.1, { q.2.1 with pc := if q.1 = 0 then q.2.1.pc else 0 }, q.2.2)
/-- The next op is begun. -/
def beginK (C : Cf) (d : Dd) (K : Kt) : Kt :=
  if d.ok = 8 then { K with pc := 8, T := { K.T with pc := 4, nd := K.T.nd + 1, gpc := 0, gh := 0, gg := 0 } }
  else { findM C d K with T := { K.T with nd := K.T.nd + 1 }, err := 0, dn := false, vl := 0 }
/-- A thread's step: the state, the thread, the memory; nothing where no op is left. -/
def stepK (C : Cf) (ds : List Dd) (K : Kt) (f : Mem) : Int × Kt × Mem :=
  if K.pc = 0 then
    if K.T.nd < ds.length then actK C (ds.getD K.T.nd ⟨0, 0, 0, 0, 0⟩) (beginK C (ds.getD K.T.nd ⟨0, 0, 0, 0, 0⟩) K) f
    else (0, K, f)
  else actK C (ds.getD (K.T.nd - 1) ⟨0, 0, 0, 0, 0⟩) K f
end Go.Proofs.YtdknbegcflldjaaGreatDoor

/- Law 17, by plain mathematics: the six ops that the program must answer. -/
namespace Go.Proofs.YtdknbegcflldjaaGreatDoor
open Go.RowKit Go.Maps
set_option maxRecDepth 100000

def C9 : Cf := ⟨2, 4, 3, 1, 9⟩
def d17 (i : Nat) : Dd := ⟨0, if i ≤ 1 then 4 else if i = 2 then 5 else if i = 3 then 7 else if i = 4 then 6 else 5, 5, if i ≤ 2 then (i : Int) + 1 else if i = 5 then 4 else 0, 0⟩
def T0 : Th := ⟨0, [], 0, 0, 0, 0, 0, 0, 0, 0, 0, 0, 0, 0, 0, 0, false⟩
def K0 : Kt := ⟨T0, 0, false, L0 (4, 0, 0), false, false, L0 (4, 0, 0), 0, false, 0, 0, 0⟩
def f0 : Mem := fun x => if x = (1, 0, 0) then 1 else 0
def runJ (d : Dd) (K : Kt) (f : Mem) : Nat → Int × Kt × Mem
  | 0 => (0, K, f)
  | n + 1 => opM C9 d (runJ d K f n).2.1 (runJ d K f n).2.2
def endK (r : Int × Kt × Mem) : Kt := { r.2.1 with pc := 0 }
def s17 (i : Nat) : Nat := if i = 0 then 13 else if i = 1 then 28 else if i = 2 then 9 else if i = 3 then 9 else if i = 4 then 13 else 16
def r17 (i : Nat) : Bool := i == 1 || i == 3 || i == 4 || i == 5
def v17 (i : Nat) : Int := if i = 1 then 1 else if i = 2 ∨ i = 3 ∨ i = 4 then 2 else 0
/-- Ahead of an op. -/
def at17 : Nat → Kt × Mem
  | 0 => (K0, f0)
  | i + 1 => (endK (runJ (d17 i) (beginK C9 (d17 i) (at17 i).1) (at17 i).2 (s17 i)), (runJ (d17 i) (beginK C9 (d17 i) (at17 i).1) (at17 i).2 (s17 i)).2.2)
def run17 (i j : Nat) : Int × Kt × Mem := runJ (d17 i) (beginK C9 (d17 i) (at17 i).1) (at17 i).2 j
set_option maxRecDepth 100000 in
theorem busy17 : ∀ i, i < 6 → ∀ j, j < s17 i → (run17 i j).1 = 0 ∧ 1 ≤ (run17 i j).2.1.pc ∧ (run17 i j).2.1.pc ≠ 8 := by decide +kernel
set_option maxRecDepth 100000 in
theorem done17 : ∀ i, i < 6 → (run17 i (s17 i)).1 = 1 ∧ (run17 i (s17 i)).2.1.err = 0 ∧ (run17 i (s17 i)).2.1.dn = r17 i ∧ (run17 i (s17 i)).2.1.vl = v17 i := by decide +kernel
set_option maxRecDepth 100000 in
theorem at17_nd : ∀ i, i < 7 → (at17 i).1.T.nd = i ∧ (at17 i).1.pc = 0 := by decide +kernel
theorem rt17 : ∀ i, i < 6 → rtM C9 (d17 i) = buI 3 5 := by decide +kernel
theorem bu17 : 0 ≤ buI 3 5 ∧ buI 3 5 < 3 := buI_in 5 (by omega)
end Go.Proofs.YtdknbegcflldjaaGreatDoor

/- One access more. -/
namespace Go.Proofs.YtdknbegcflldjaaGreatDoor
open Go.RowKit Go.Maps
set_option maxRecDepth 100000

/-- One access more is counted: a load, a store, a swap (done or not), or an add. -/
def One (q q' : Cnt) : Prop :=
  (q'.l = wrap64 (q.l + 1) ∧ q'.s = q.s ∧ q'.w = q.w ∧ q'.a = q.a) ∨ (q'.l = q.l ∧ q'.s = wrap64 (q.s + 1) ∧ q'.w = q.w ∧ q'.a = q.a) ∨
  (q'.l = q.l ∧ q'.s = q.s ∧ q'.w = wrap64 (q.w + 1) ∧ q'.a = q.a) ∨ (q'.l = q.l ∧ q'.s = q.s ∧ q'.w = q.w ∧ q'.a = wrap64 (q.a + 1))
/-- What a step counts, and how many words it may bring in. -/
structure Nx (n : Nat) (q : Cnt) (n' : Nat) (q' : Cnt) : Prop where
  (le : n' ≤ n + 1)
  (one : One q q')
end Go.Proofs.YtdknbegcflldjaaGreatDoor
