/- What is proved on the way to the statement, part 8 of 15: contracts of the functions, among other things in memory. -/
import Derived.Test.YtmifdkbpbkafjaaGreatDoorE7

/- The reference's Alloc: contracts of write, and of Step from there on. -/
namespace Go.Proofs.YtmifdkbpbkafjaaGreatDoor
open Go.RowKit Go.Maps
set_option maxRecDepth 100000

/-- A cell that is read. -/
def Lie (v : World) (g k : Nat) (x : Value) : Prop := g < v.heap.size ∧ v.cell? ⟨g, k, none⟩ = some x
theorem Lie.under {v v' : World} {g k : Nat} {x : Value} (h : Lie v g k x) (hb : Below v.heap.size v v') : Lie v' g k x := ⟨Nat.lt_of_lt_of_le h.1 hb.size, by rw [hb.cell (p := ⟨g, k, none⟩) h.1]; exact h.2⟩
theorem Env.lie {w0 w : World} {L : List Item} (h : Env w0 L w) (i : Nat) {g : Nat} {xs : List Value} (hi : L[i]? = some (lieI g xs)) (k : Nat) {x : Value} (hx : xs[k]? = some x) : Lie w g k x := ⟨h.lt i hi g rfl, h.lies i hi k x hx⟩
/-- The item at place i becomes another, told by the same. -/
theorem Env.as {w0 w : World} {L : List Item} (h : Env w0 L w) (i : Nat) {a : Item} (b : Item) (hi : L[i]? = some a) (hF : ∀ k, b.F k → a.F k) (hb : b.says w) : Env w0 (L.set i b) w :=
  h.step i b hi ⟨Turn.refl _ w, fun k hk => .inl (hF k hk)⟩ hb fun k hk => h.lt i hi k (hF k hk)
theorem Env.rowLiesAt {w0 w : World} {L : List Item} {e : TypeId} {s n : Nat} {v : Value} {xs : List Value} (h : Env w0 L w) (i : Nat) (hi : L[i]? = some (rowI v e s n xs)) (hn : n ≠ 0) :
    ∃ g c, v = .slice (some ⟨g, 0, none⟩) n c ∧ Env w0 (L.set i (lieI g xs)) w := by
  have ho : w.ownsRow 0 e s v n xs := h.get i hi
  rcases ho.2 with ⟨-, h0⟩ | ⟨g, cap, cur, hv, -, hg, hnc, -⟩
  · exact absurd h0 hn
  · refine ⟨g, cap, hv, h.as i (lieI g xs) hi (fun k hk => ?_) fun j u hu => ?_⟩
    · show v.ownBlock = some k
      rw [hv]
      show some g = some k
      rw [show k = g from hk]
    · have this := ho.cells (g := g) (by rw [hv]; rfl) j u hu
      have e2 : (⟨g, 0, none⟩ : Addr).add j = ⟨g, j, none⟩ := by unfold Addr.add; split <;> simp_all
      rw [e2] at this
      exact this
/-- A literal of n elements, as a row of the call's own. -/
theorem Env.addLit {w0 w : World} {L : List Item} (h : Env w0 L w) (e : TypeId) (s n : Nat) (xs : List Value) (hx : xs.length = n * s) (hn : n ≤ maxLen) : Env w0 (rowI (.slice (some ⟨w.heap.size, 0, none⟩) n n) e s n xs :: L) (w.alloc (.cells xs.toArray e)) :=
  h.add (rowI (.slice (some ⟨w.heap.size, 0, none⟩) n n) e s n xs) ((Below.refl _ _).alloc (Nat.le_refl _) _)
    (show (w.alloc (.cells xs.toArray e)).ownsRow 0 e s (.slice (some ⟨w.heap.size, 0, none⟩) n n) n xs from World.ownsRow_lit (base := 0) (e := e) (size := s) w xs.toArray n (Nat.zero_le _) hn (by simpa using hx)) fun k hk => by
    have : w.heap.size = k := by simpa [rowI, Value.ownBlock] using hk
    subst this
    simp
theorem infoI1 : (Tryz.prog.info? 3).map (fun i => (i.zero, i.size, i.bytes)) = some (some (.int .i64 0), 1, 8) := by kernel_rfl
theorem infoU1 : (Tryz.prog.info? 39).map (fun i => (i.zero, i.size, i.bytes)) = some (some (.int .u64 0), 1, 8) := by kernel_rfl
/-- How a store of a birth ends. -/
def lastS (k n : Nat) : Int := if k + 1 = n then 1 else 0
def partsV (l : List (Int × Int)) : List Value := l.map fun p => .int .i64 p.1
def wordsV9 (l : List (Int × Int)) : List Value := l.map fun p => .int .u64 p.2
theorem wordsA_len (ck e key val lv : Int) : (wordsA ck e key val lv).length = if ck = 2 then 4 else if ck = 3 then 5 else 3 := by
  unfold wordsA
  split
  · rfl
  · split <;> rfl

section
variable {w0 w : World} {R : List Item} {b : Nat} {U : SU} {h n r ok key val lv : Int}
set_option maxHeartbeats 6400000 in
theorem rwriteS (kk : Nat) (hk0 : 0 < kk) (part word : Int) (hpw : (wordsA U.ck U.ce key val (IntKind.u64.wrap lv))[kk]? = some (part, word)) (he : 0 ≤ U.ce ∧ U.ce ≤ 9223372036854775807) (hml : U.ml.length ≤ 1000000) (hE : Env w0 (boxI b (rav (10 + (kk : Int)) h n r) :: LU U R) w) :
    Calls Tryz.prog 74 #[.pointer (some ⟨b, 0, none⟩), .pointer (some ⟨U.u, 0, none⟩), .pointer (some ⟨U.m, 0, none⟩), .agg #[.int .i64 ok, .int .u64 key, .int .u64 val, .int .i64 lv]] w fun o w' => o = .returned (.int .i64 (lastS kk (wordsA U.ck U.ce key val (IntKind.u64.wrap lv)).length)) ∧ ∃ F5, Env w0 (boxI b (rav (10 + (kk : Int) + 1) h n r) :: LU { U with F := F5, ml := setL U.ml (5, U.hs, part) word } R) w' := by
  have hE1 := (hE.box w.heap.size rfl [.int .i64 ok, .int .u64 key, .int .u64 val, .int .i64 lv] 75).perm (L' := boxI b (rav (10 + (kk : Int)) h n r) :: LU U (boxI w.heap.size [.int .i64 ok, .int .u64 key, .int .u64 val, .int .i64 lv] :: R)) (List.perm_middle (l₁ := [boxI b (rav (10 + (kk : Int)) h n r), _, _, _])).symm
  have hw1 : IntKind.u64.wrap U.ce = U.ce := wrapU _ (by omega) (by omega)
  have hkl : kk < (wordsA U.ck U.ce key val (IntKind.u64.wrap lv)).length := (List.getElem?_eq_some_iff.1 hpw).1
  clear he hE
  have rb := hE1.rule 0 rfl
  unfold rav at rb
  have hk9 : kk < 5 := by
    rw [wordsA_len] at hkl
    split at hkl
    · omega
    · split at hkl <;> omega
  have hkb : ((10 + (kk : Int)) == 10) = false := by simp; omega
  have hw2 : (10 + (kk : Int) - 10) = kk := by omega
  go_enter Tryz.func74, Tryz.ntmps74
  go_upto_region 4 with fail
  have hE4 := hE1
  clear hE1 rb
  generalize w.alloc _ = w3 at *
  generalize w.heap.size = O at *
  have hE5 := hE4.addLit 3 1 3 [.int .i64 0, .int .i64 1, .int .i64 3] rfl (by decide)
  clear hE4
  go_wp2_with fail
  generalize w3.alloc _ = w4 at *
  generalize w3.heap.size = z1 at *
  refine Ord3.wp_chain [?_, ?_, ?_, ?_, ?_, ?_, ?_, ?_, ?_] [7, 8] (fun v => Blk 0 v U.u (urv U.ck U.cs U.cb U.ch U.cl U.ce U.A U.ql.length U.c U.N U.hs U.ro) ∧ Blk 0 v O [.int .i64 ok, .int .u64 key, .int .u64 val, .int .i64 lv]) (Ord3.Stage fun κs => [Env w0 (rowI (.slice (some ⟨z1, 0, none⟩) 3 3) 3 1 3 [.int .i64 0, .int .i64 1, .int .i64 3] :: boxI b (rav (10 + (kk : Int)) h n r) :: LU U (boxI O [.int .i64 ok, .int .u64 key, .int .u64 val, .int .i64 lv] :: R)), Env w0 (rowI (κs.getD 0 undef) 39 1 3 [.int .u64 U.ce, .int .u64 0, .int .u64 key] :: rowI (.slice (some ⟨z1, 0, none⟩) 3 3) 3 1 3 [.int .i64 0, .int .i64 1, .int .i64 3] :: boxI b (rav (10 + (kk : Int)) h n r) :: LU U (boxI O [.int .i64 ok, .int .u64 key, .int .u64 val, .int .i64 lv] :: R)), Env w0 (rowI (κs.getD 1 undef) 39 1 3 [.int .u64 U.ce, .int .u64 0, .int .u64 key] :: rowI (.slice (some ⟨z1, 0, none⟩) 3 3) 3 1 3 [.int .i64 0, .int .i64 1, .int .i64 3] :: boxI b (rav (10 + (kk : Int)) h n r) :: LU U (boxI O [.int .i64 ok, .int .u64 key, .int .u64 val, .int .i64 lv] :: R))]) (by kernel_rfl) (by kernel_rfl) (by kernel_rfl) ⟨hE5.drew.get 2 rfl, hE5.drew.get 5 rfl⟩ ⟨_, rfl, hE5.drew⟩ (fun hT => ?_)
  rotate_left 9
  have hT9 := Lib.hid hT
  clear hT
  repeat (first
    | (focus (refine Ord3.in_value (v := ?_) hT9.out (by decide) ?_ (by rfl) ?_ ?_; rotate_left 2; (focus (intro w5 hS; have r1 := Blk.rule hS.1; have r2 := Blk.rule hS.2; unfold urv at r1; go_simp <;> with_reducible rfl)); rotate_right; (focus rfl); (try simp only [Act.put, List.setIfInBounds_toArray, List.set_cons_zero, List.set_cons_succ])))
    | (focus (refine Ord3.in_off hT9.out (by decide) ?_ (by rfl) ?_; (focus rfl); (try simp only [Act.put, List.setIfInBounds_toArray, List.set_cons_zero, List.set_cons_succ])))
    | (focus (refine Ord3.in_call (v := ?_) (f := ?_) (args := ?_) hT9.out (by decide) ?_ (by rfl) ?_ ?_ ?_; rotate_left 4; (focus (intro w5 hS; have r1 := Blk.rule hS.1; have r2 := Blk.rule hS.2; unfold urv at r1; go_simp; constructor <;> with_reducible rfl)); (focus (intro w5 hS; (first | fail))); rotate_right; (focus rfl); (try simp only [Act.put, List.setIfInBounds_toArray, List.set_cons_zero, List.set_cons_succ]))))
  refine Ord3.in_turn (fun u => ∃ z, u = .slice (some ⟨z, 0, none⟩) 3 3) _ ⟨0, rfl⟩ hT9.out rfl (by decide) (by rfl) ?_ (Or.inl rfl) (by rfl) ?_ ?_
  · rfl
  · rintro w7 hC7 ⟨P7, hP7, hA7⟩
    cases hP7
    go_simp
    simp only [Ord3.Lands]
    have hE8 := hA7.addLit 39 1 3 [.int .u64 U.ce, .int .u64 0, .int .u64 key] rfl (by decide)
    exact ⟨⟨_, rfl⟩, ⟨hE8.get 3 rfl, hE8.get 6 rfl⟩, _, rfl, hE8⟩
  rintro _ ⟨z9, rfl⟩
  (try simp only [Act.put, List.setIfInBounds_toArray, List.set_cons_zero, List.set_cons_succ])
  refine Ord3.in_turn (fun u => ∃ z, u = .slice (some ⟨z, 0, none⟩) 3 3) _ ⟨0, rfl⟩ hT9.out rfl (by decide) (by rfl) ?_ (Or.inr ⟨_, 7, [], rfl, by kernel_rfl, by kernel_rfl, rfl⟩) (by rfl) ?_ ?_
  · rfl
  · rintro w7 hC7 ⟨P7, hP7, hA7⟩
    cases hP7
    go_simp
    simp only [Ord3.Lands]
    exact ⟨⟨_, rfl⟩, hC7, _, rfl, hA7⟩
  rintro _ ⟨z2, rfl⟩
  (try simp only [Act.put, List.setIfInBounds_toArray, List.set_cons_zero, List.set_cons_succ])
  refine Ord3.in_nil rfl ?_
  rintro w9 hC9 ⟨P9, hP9, hA9⟩
  cases hP9
  replace hA9 : Env w0 (rowI (.slice (some ⟨z2, 0, none⟩) 3 3) 39 1 3 [.int .u64 U.ce, .int .u64 0, .int .u64 key] :: rowI (.slice (some ⟨z1, 0, none⟩) 3 3) 3 1 3 [.int .i64 0, .int .i64 1, .int .i64 3] :: boxI b (rav (10 + (kk : Int)) h n r) :: LU U (boxI O [.int .i64 ok, .int .u64 key, .int .u64 val, .int .i64 lv] :: R)) w9 := hA9
  clear hT9 hC9 hE5
  have r1 := hA9.rule 3 rfl
  unfold urv at r1
  have r2 := hA9.rule 6 rfl
  have r3 := hA9.rule 2 rfl
  unfold rav at r3
  obtain ⟨WW, hWW⟩ : ∃ WW, (wordsA U.ck U.ce key val (IntKind.u64.wrap lv)) = WW := ⟨_, rfl⟩
  rw [hWW] at hpw hkl
  have HWW := Lib.hid hWW
  clear hWW
  rcases hk2 : U.ck == 2 with _ | _
  · rcases hk3 : U.ck == 3 with _ | _
    · have hl3 : WW = [(0, U.ce), (1, 0), (3, key)] := by rw [← HWW.out]; unfold wordsA; rw [if_neg (by simpa using hk2), if_neg (by simpa using hk3)]; rfl
      go_upto_region 12 with fail
      clear r1 r2 r3
      obtain ⟨g2, c2, he2, hB⟩ := hA9.rowLiesAt 0 rfl (by decide)
      cases he2
      obtain ⟨g1, c1, he1, hB⟩ := hB.rowLiesAt 1 rfl (by decide)
      cases he1
      subst hl3
      have HL3 : Hid (List.length ([(0, U.ce), (1, 0), (3, key)] : List (Int × Int)) = 3) := Lib.hid rfl
      have hkn : kk < 3 := hkl
      have hp1 : (partsV [(0, U.ce), (1, 0), (3, key)])[kk]? = some (.int .i64 part) := by unfold partsV; rw [List.getElem?_map, hpw]; rfl
      have hp2 : (wordsV9 [(0, U.ce), (1, 0), (3, key)])[kk]? = some (.int .u64 word) := by unfold wordsV9; rw [List.getElem?_map, hpw]; rfl
      have hB9 : Env w0 (lieI z2 (wordsV9 [(0, U.ce), (1, 0), (3, key)]) :: lieI z1 (partsV [(0, U.ce), (1, 0), (3, key)]) :: boxI b (rav (10 + (kk : Int)) h n r) :: LU U (boxI O [.int .i64 ok, .int .u64 key, .int .u64 val, .int .i64 lv] :: R)) _ := hB
      clear hB hA9
      have HL1 := hB9.lie 1 rfl kk hp1
      have HL2 := hB9.lie 0 rfl kk hp2
      have hlb : ((kk : Int) == 2) = decide (kk + 1 = 3) := by
        by_cases h : kk + 1 = 3
        · rw [decide_eq_true h]; simp; omega
        · rw [decide_eq_false h]; simp; omega
      have hlt : decide ((kk : Int) < 3) = true := by simp; omega
      have hlt2 : (kk : Int) < 3 := by omega
      have hge : (0 : Int) ≤ kk := by omega
      obtain ⟨bl, hbl⟩ : ∃ b, decide (kk + 1 = 3) = b := ⟨_, rfl⟩
      rw [hbl] at hlb
      have HBL := Lib.hid hbl
      clear hbl
      have r3 := hB9.rule 2 rfl
      unfold rav at r3
      go_wp2_with fail
      refine Ord.wp_chain [14] (fun v => Blk 0 v U.u (urv U.ck U.cs U.cb U.ch U.cl U.ce U.A U.ql.length U.c U.N U.hs U.ro) ∧ Lie v z1 kk (.int .i64 part) ∧ Lie v z2 kk (.int .u64 word)) (fun k w' => ∃ F5, Env w0 (lieI z2 (wordsV9 [(0, U.ce), (1, 0), (3, key)]) :: lieI z1 (partsV [(0, U.ce), (1, 0), (3, key)]) :: boxI b (rav (10 + (kk : Int)) h n r) :: LU (if k = 0 then U else { U with F := F5, ml := setL U.ml (5, U.hs, part) word }) (boxI O [.int .i64 ok, .int .u64 key, .int .u64 val, .int .i64 lv] :: R)) w') (by kernel_rfl) (by kernel_rfl) (by kernel_rfl) ⟨hB9.drew.get 3 rfl, HL1.under ((Below.refl _ _).drew), HL2.under ((Below.refl _ _).drew)⟩ ⟨U.F, hB9.drew⟩ (fun hT => ?_)
      have hT9 := Lib.hid hT
      clear hT
      repeat (first
        | (refine Ord.ch_value (v := ?_) hT9.out (by decide) (by rfl) ?_ ?_; rotate_left; (focus (intro w5 hS; have r1 := hS.1.rule; have r2 := hS.2.1.2; have r3 := hS.2.2.2; unfold urv at r1; go_simp <;> with_reducible rfl)); (try simp only [Act.put, List.setIfInBounds_toArray, List.set_cons_zero, List.set_cons_succ]))
        | (refine Ord.ch_off hT9.out (by decide) (by rfl) ?_; (try simp only [Act.put, List.setIfInBounds_toArray, List.set_cons_zero, List.set_cons_succ]))
        | (refine Ord.ch_call (v := ?_) (f := ?_) (args := ?_) hT9.out (by decide) (by rfl) ?_ ?_ ?_; rotate_left 3; (focus (intro w5 hS; have r1 := hS.1.rule; have r2 := hS.2.1.2; have r3 := hS.2.2.2; unfold urv at r1; go_simp; constructor <;> with_reducible rfl)); (focus (intro w5 hS; (first | (with_reducible refine (cell13_any _ _ _).mono ?_; rintro e w6 ⟨rfl, hb6⟩; constructor; with_reducible rfl; exact ⟨⟨hS.1.under hb6, hS.2.1.under hb6, hS.2.2.under hb6⟩, fun k h => h.elim fun F5 h => ⟨F5, h.over hb6⟩⟩)))); (try simp only [Act.put, List.setIfInBounds_toArray, List.set_cons_zero, List.set_cons_succ])))
      refine Ord.ch_turn (v := .tuple #[]) 0 hT9.out rfl (by decide) (Or.inl rfl) (by rfl) ?_ ?_
      · rintro w5 hC5 ⟨F5, hA5⟩
        simp only [if_true] at hA5
        go_simp
        simp only [Ord.LandsIn]
        refine (refSet_any 5 U.hs part word hml (hA5.ref 5 rfl)).mono ?_
        rintro e w6 ⟨rfl, F6, hU, hs9⟩
        have hE6 := hA5.turnU 5 rfl hU hs9
        exact ⟨rfl, ⟨hE6.get 3 rfl, hE6.lie 1 rfl kk hp1, hE6.lie 0 rfl kk hp2⟩, F6, hE6⟩
      (try simp only [Act.put, List.setIfInBounds_toArray, List.set_cons_zero, List.set_cons_succ])
      repeat (first
        | (refine Ord.ch_value (v := ?_) hT9.out (by decide) (by rfl) ?_ ?_; rotate_left; (focus (intro w5 hS; skip; go_simp <;> with_reducible rfl)); (try simp only [Act.put, List.setIfInBounds_toArray, List.set_cons_zero, List.set_cons_succ]))
        | (refine Ord.ch_off hT9.out (by decide) (by rfl) ?_; (try simp only [Act.put, List.setIfInBounds_toArray, List.set_cons_zero, List.set_cons_succ])))
      refine Ord.InText.nil fun w5 hS => ?_
      clear hT9
      obtain ⟨hC9, hA9⟩ := Ord.chain_end hS
      clear hS
      obtain ⟨F9, hA9⟩ := hA9
      simp only [List.length_cons, List.length_nil, Nat.zero_add, Nat.one_ne_zero, if_false] at hA9
      clear hC9 hB9
      have r3 := hA9.rule 2 rfl
      unfold rav at r3
      have f0 := hA9.thaw 2 rfl 0 (by simp [rav])
      have hP := (hA9.put 2 rfl (j := 0) (by simp [rav]) (.int .i64 (10 + (kk : Int) + 1))).sub (L' := boxI b (rav (10 + (kk : Int) + 1) h n r) :: LU { U with F := F9, ml := setL U.ml (5, U.hs, part) word } R) (.cons _ (.cons _ (.cons_cons _ (.cons_cons _ (.cons_cons _ (.cons_cons _ (.cons _ (List.Sublist.refl _))))))))
      cases bl
      · have hne : ¬ kk + 1 = 3 := by simpa using HBL.out
        have HP : Hid (lastS kk (List.length ([(0, U.ce), (1, 0), (3, key)] : List (Int × Int))) = 0) := Lib.hid (if_neg (by rw [HL3.out]; exact hne))
        clear hne
        go_wp2_with fail
        go_ret
        rw [HWW.out, HP.out]
        exact ⟨rfl, F9, hP⟩
      · have heq : kk + 1 = 3 := by simpa using HBL.out
        have HP : Hid (lastS kk (List.length ([(0, U.ce), (1, 0), (3, key)] : List (Int × Int))) = 1) := Lib.hid (if_pos (by rw [HL3.out]; exact heq))
        clear heq
        go_wp2_with fail
        go_ret
        rw [HWW.out, HP.out]
        exact ⟨rfl, F9, hP⟩
    · have hl3 : WW = [(0, U.ce), (1, 0), (3, key), (5, IntKind.u64.wrap lv), (6, 0)] := by rw [← HWW.out]; unfold wordsA; rw [if_neg (by simpa using hk2), if_pos (by simpa using hk3)]; rfl
      go_upto_region 10 with fail
      clear r1 r3
      have hX := hA9.box w9.heap.size rfl [.int .i64 5, .int .i64 6] 3
      obtain ⟨A8, c8, w8, hrun, hX8⟩ := hX.appendRow (P := Tryz.prog) 2 rfl 25 25 Tryz.underlying25 (.int .i64 0) infoI1 rfl (by decide) (some ⟨w9.heap.size, 0, none⟩) 2 2 [.int .i64 5, .int .i64 6] rfl (.inr ⟨_, rfl, cells_new _ _ _⟩) (by simp [Value.oneCell']) (by decide) (by decide)
      have HRUN := Lib.hid hrun
      have hX9 := hX8.sub (.cons _ (List.Sublist.refl _))
      have r2 := hX9.rule 6 rfl
      clear hrun hX hX8 hA9
      go_upto_region 11 with (at_builtin; refine wpList_append_run rfl _ _ 25 rfl HRUN.out rfl rfl ?_)
      clear HRUN
      have hY := hX9.box w8.heap.size rfl [.int .u64 (IntKind.u64.wrap lv), .int .u64 0] 39
      obtain ⟨A6, c6, w6, hrun, hY8⟩ := hY.appendRow (P := Tryz.prog) 1 rfl 178 178 Tryz.underlying178 (.int .u64 0) infoU1 rfl (by decide) (some ⟨w8.heap.size, 0, none⟩) 2 2 [.int .u64 (IntKind.u64.wrap lv), .int .u64 0] rfl (.inr ⟨_, rfl, cells_new _ _ _⟩) (by simp [Value.oneCell']) (by decide) (by decide)
      have HRUN := Lib.hid hrun
      have hA9 := hY8.sub (.cons _ (List.Sublist.refl _))
      have r1 := hA9.rule 3 rfl
      unfold urv at r1
      clear hrun hY hY8
      go_upto_region 12 with (at_builtin; refine wpList_append_run rfl _ _ 178 rfl HRUN.out rfl rfl ?_)
      clear HRUN hX9 r1 r2
      obtain ⟨g2, c2, he2, hB⟩ := hA9.rowLiesAt 0 rfl (by decide)
      cases he2
      obtain ⟨g1, c1, he1, hB⟩ := hB.rowLiesAt 1 rfl (by decide)
      cases he1
      subst hl3
      have HL3 : Hid (List.length ([(0, U.ce), (1, 0), (3, key), (5, IntKind.u64.wrap lv), (6, 0)] : List (Int × Int)) = 5) := Lib.hid rfl
      have hkn : kk < 5 := hkl
      have hp1 : (partsV [(0, U.ce), (1, 0), (3, key), (5, IntKind.u64.wrap lv), (6, 0)])[kk]? = some (.int .i64 part) := by unfold partsV; rw [List.getElem?_map, hpw]; rfl
      have hp2 : (wordsV9 [(0, U.ce), (1, 0), (3, key), (5, IntKind.u64.wrap lv), (6, 0)])[kk]? = some (.int .u64 word) := by unfold wordsV9; rw [List.getElem?_map, hpw]; rfl
      have hB9 : Env w0 (lieI g2 (wordsV9 [(0, U.ce), (1, 0), (3, key), (5, IntKind.u64.wrap lv), (6, 0)]) :: lieI g1 (partsV [(0, U.ce), (1, 0), (3, key), (5, IntKind.u64.wrap lv), (6, 0)]) :: boxI b (rav (10 + (kk : Int)) h n r) :: LU U (boxI O [.int .i64 ok, .int .u64 key, .int .u64 val, .int .i64 lv] :: R)) _ := hB
      clear hB hA9
      have HL1 := hB9.lie 1 rfl kk hp1
      have HL2 := hB9.lie 0 rfl kk hp2
      have hlb : ((kk : Int) == 4) = decide (kk + 1 = 5) := by
        by_cases h : kk + 1 = 5
        · rw [decide_eq_true h]; simp; omega
        · rw [decide_eq_false h]; simp; omega
      have hlt : decide ((kk : Int) < 5) = true := by simp; omega
      have hlt2 : (kk : Int) < 5 := by omega
      have hge : (0 : Int) ≤ kk := by omega
      obtain ⟨bl, hbl⟩ : ∃ b, decide (kk + 1 = 5) = b := ⟨_, rfl⟩
      rw [hbl] at hlb
      have HBL := Lib.hid hbl
      clear hbl
      have r3 := hB9.rule 2 rfl
      unfold rav at r3
      go_wp2_with fail
      refine Ord.wp_chain [14] (fun v => Blk 0 v U.u (urv U.ck U.cs U.cb U.ch U.cl U.ce U.A U.ql.length U.c U.N U.hs U.ro) ∧ Lie v g1 kk (.int .i64 part) ∧ Lie v g2 kk (.int .u64 word)) (fun k w' => ∃ F5, Env w0 (lieI g2 (wordsV9 [(0, U.ce), (1, 0), (3, key), (5, IntKind.u64.wrap lv), (6, 0)]) :: lieI g1 (partsV [(0, U.ce), (1, 0), (3, key), (5, IntKind.u64.wrap lv), (6, 0)]) :: boxI b (rav (10 + (kk : Int)) h n r) :: LU (if k = 0 then U else { U with F := F5, ml := setL U.ml (5, U.hs, part) word }) (boxI O [.int .i64 ok, .int .u64 key, .int .u64 val, .int .i64 lv] :: R)) w') (by kernel_rfl) (by kernel_rfl) (by kernel_rfl) ⟨hB9.drew.get 3 rfl, HL1.under ((Below.refl _ _).drew), HL2.under ((Below.refl _ _).drew)⟩ ⟨U.F, hB9.drew⟩ (fun hT => ?_)
      have hT9 := Lib.hid hT
      clear hT
      repeat (first
        | (refine Ord.ch_value (v := ?_) hT9.out (by decide) (by rfl) ?_ ?_; rotate_left; (focus (intro w5 hS; have r1 := hS.1.rule; have r2 := hS.2.1.2; have r3 := hS.2.2.2; unfold urv at r1; go_simp <;> with_reducible rfl)); (try simp only [Act.put, List.setIfInBounds_toArray, List.set_cons_zero, List.set_cons_succ]))
        | (refine Ord.ch_off hT9.out (by decide) (by rfl) ?_; (try simp only [Act.put, List.setIfInBounds_toArray, List.set_cons_zero, List.set_cons_succ]))
        | (refine Ord.ch_call (v := ?_) (f := ?_) (args := ?_) hT9.out (by decide) (by rfl) ?_ ?_ ?_; rotate_left 3; (focus (intro w5 hS; have r1 := hS.1.rule; have r2 := hS.2.1.2; have r3 := hS.2.2.2; unfold urv at r1; go_simp; constructor <;> with_reducible rfl)); (focus (intro w5 hS; (first | (with_reducible refine (cell13_any _ _ _).mono ?_; rintro e w6 ⟨rfl, hb6⟩; constructor; with_reducible rfl; exact ⟨⟨hS.1.under hb6, hS.2.1.under hb6, hS.2.2.under hb6⟩, fun k h => h.elim fun F5 h => ⟨F5, h.over hb6⟩⟩)))); (try simp only [Act.put, List.setIfInBounds_toArray, List.set_cons_zero, List.set_cons_succ])))
      refine Ord.ch_turn (v := .tuple #[]) 0 hT9.out rfl (by decide) (Or.inl rfl) (by rfl) ?_ ?_
      · rintro w5 hC5 ⟨F5, hA5⟩
        simp only [if_true] at hA5
        go_simp
        simp only [Ord.LandsIn]
        refine (refSet_any 5 U.hs part word hml (hA5.ref 5 rfl)).mono ?_
        rintro e w6 ⟨rfl, F6, hU, hs9⟩
        have hE6 := hA5.turnU 5 rfl hU hs9
        exact ⟨rfl, ⟨hE6.get 3 rfl, hE6.lie 1 rfl kk hp1, hE6.lie 0 rfl kk hp2⟩, F6, hE6⟩
      (try simp only [Act.put, List.setIfInBounds_toArray, List.set_cons_zero, List.set_cons_succ])
      repeat (first
        | (refine Ord.ch_value (v := ?_) hT9.out (by decide) (by rfl) ?_ ?_; rotate_left; (focus (intro w5 hS; skip; go_simp <;> with_reducible rfl)); (try simp only [Act.put, List.setIfInBounds_toArray, List.set_cons_zero, List.set_cons_succ]))
        | (refine Ord.ch_off hT9.out (by decide) (by rfl) ?_; (try simp only [Act.put, List.setIfInBounds_toArray, List.set_cons_zero, List.set_cons_succ])))
      refine Ord.InText.nil fun w5 hS => ?_
      clear hT9
      obtain ⟨hC9, hA9⟩ := Ord.chain_end hS
      clear hS
      obtain ⟨F9, hA9⟩ := hA9
      simp only [List.length_cons, List.length_nil, Nat.zero_add, Nat.one_ne_zero, if_false] at hA9
      clear hC9 hB9
      have r3 := hA9.rule 2 rfl
      unfold rav at r3
      have f0 := hA9.thaw 2 rfl 0 (by simp [rav])
      have hP := (hA9.put 2 rfl (j := 0) (by simp [rav]) (.int .i64 (10 + (kk : Int) + 1))).sub (L' := boxI b (rav (10 + (kk : Int) + 1) h n r) :: LU { U with F := F9, ml := setL U.ml (5, U.hs, part) word } R) (.cons _ (.cons _ (.cons_cons _ (.cons_cons _ (.cons_cons _ (.cons_cons _ (.cons _ (List.Sublist.refl _))))))))
      cases bl
      · have hne : ¬ kk + 1 = 5 := by simpa using HBL.out
        have HP : Hid (lastS kk (List.length ([(0, U.ce), (1, 0), (3, key), (5, IntKind.u64.wrap lv), (6, 0)] : List (Int × Int))) = 0) := Lib.hid (if_neg (by rw [HL3.out]; exact hne))
        clear hne
        go_wp2_with fail
        go_ret
        rw [HWW.out, HP.out]
        exact ⟨rfl, F9, hP⟩
      · have heq : kk + 1 = 5 := by simpa using HBL.out
        have HP : Hid (lastS kk (List.length ([(0, U.ce), (1, 0), (3, key), (5, IntKind.u64.wrap lv), (6, 0)] : List (Int × Int))) = 1) := Lib.hid (if_pos (by rw [HL3.out]; exact heq))
        clear heq
        go_wp2_with fail
        go_ret
        rw [HWW.out, HP.out]
        exact ⟨rfl, F9, hP⟩
  · have hk3 : (U.ck == 3) = false := by simp only [beq_iff_eq] at hk2; simp [hk2]
    have hl3 : WW = [(0, U.ce), (1, 0), (3, key), (4, val)] := by rw [← HWW.out]; unfold wordsA; rw [if_pos (by simpa using hk2)]; rfl
    go_upto_region 7 with fail
    clear r1 r3
    have hX := hA9.box w9.heap.size rfl [.int .i64 4] 3
    obtain ⟨A8, c8, w8, hrun, hX8⟩ := hX.appendRow (P := Tryz.prog) 2 rfl 25 25 Tryz.underlying25 (.int .i64 0) infoI1 rfl (by decide) (some ⟨w9.heap.size, 0, none⟩) 1 1 [.int .i64 4] rfl (.inr ⟨_, rfl, cells_new _ _ _⟩) (by simp [Value.oneCell']) (by decide) (by decide)
    have HRUN := Lib.hid hrun
    have hX9 := hX8.sub (.cons _ (List.Sublist.refl _))
    have r2 := hX9.rule 6 rfl
    clear hrun hX hX8 hA9
    go_upto_region 8 with (at_builtin; refine wpList_append_run rfl _ _ 25 rfl HRUN.out rfl rfl ?_)
    clear HRUN
    have hY := hX9.box w8.heap.size rfl [.int .u64 val] 39
    obtain ⟨A6, c6, w6, hrun, hY8⟩ := hY.appendRow (P := Tryz.prog) 1 rfl 178 178 Tryz.underlying178 (.int .u64 0) infoU1 rfl (by decide) (some ⟨w8.heap.size, 0, none⟩) 1 1 [.int .u64 val] rfl (.inr ⟨_, rfl, cells_new _ _ _⟩) (by simp [Value.oneCell']) (by decide) (by decide)
    have HRUN := Lib.hid hrun
    have hA9 := hY8.sub (.cons _ (List.Sublist.refl _))
    have r1 := hA9.rule 3 rfl
    unfold urv at r1
    clear hrun hY hY8
    go_upto_region 12 with (at_builtin; refine wpList_append_run rfl _ _ 178 rfl HRUN.out rfl rfl ?_)
    clear HRUN hX9 r1 r2
    obtain ⟨g2, c2, he2, hB⟩ := hA9.rowLiesAt 0 rfl (by decide)
    cases he2
    obtain ⟨g1, c1, he1, hB⟩ := hB.rowLiesAt 1 rfl (by decide)
    cases he1
    subst hl3
    have HL3 : Hid (List.length ([(0, U.ce), (1, 0), (3, key), (4, val)] : List (Int × Int)) = 4) := Lib.hid rfl
    have hkn : kk < 4 := hkl
    have hp1 : (partsV [(0, U.ce), (1, 0), (3, key), (4, val)])[kk]? = some (.int .i64 part) := by unfold partsV; rw [List.getElem?_map, hpw]; rfl
    have hp2 : (wordsV9 [(0, U.ce), (1, 0), (3, key), (4, val)])[kk]? = some (.int .u64 word) := by unfold wordsV9; rw [List.getElem?_map, hpw]; rfl
    have hB9 : Env w0 (lieI g2 (wordsV9 [(0, U.ce), (1, 0), (3, key), (4, val)]) :: lieI g1 (partsV [(0, U.ce), (1, 0), (3, key), (4, val)]) :: boxI b (rav (10 + (kk : Int)) h n r) :: LU U (boxI O [.int .i64 ok, .int .u64 key, .int .u64 val, .int .i64 lv] :: R)) _ := hB
    clear hB hA9
    have HL1 := hB9.lie 1 rfl kk hp1
    have HL2 := hB9.lie 0 rfl kk hp2
    have hlb : ((kk : Int) == 3) = decide (kk + 1 = 4) := by
      by_cases h : kk + 1 = 4
      · rw [decide_eq_true h]; simp; omega
      · rw [decide_eq_false h]; simp; omega
    have hlt : decide ((kk : Int) < 4) = true := by simp; omega
    have hlt2 : (kk : Int) < 4 := by omega
    have hge : (0 : Int) ≤ kk := by omega
    obtain ⟨bl, hbl⟩ : ∃ b, decide (kk + 1 = 4) = b := ⟨_, rfl⟩
    rw [hbl] at hlb
    have HBL := Lib.hid hbl
    clear hbl
    have r3 := hB9.rule 2 rfl
    unfold rav at r3
    go_wp2_with fail
    refine Ord.wp_chain [14] (fun v => Blk 0 v U.u (urv U.ck U.cs U.cb U.ch U.cl U.ce U.A U.ql.length U.c U.N U.hs U.ro) ∧ Lie v g1 kk (.int .i64 part) ∧ Lie v g2 kk (.int .u64 word)) (fun k w' => ∃ F5, Env w0 (lieI g2 (wordsV9 [(0, U.ce), (1, 0), (3, key), (4, val)]) :: lieI g1 (partsV [(0, U.ce), (1, 0), (3, key), (4, val)]) :: boxI b (rav (10 + (kk : Int)) h n r) :: LU (if k = 0 then U else { U with F := F5, ml := setL U.ml (5, U.hs, part) word }) (boxI O [.int .i64 ok, .int .u64 key, .int .u64 val, .int .i64 lv] :: R)) w') (by kernel_rfl) (by kernel_rfl) (by kernel_rfl) ⟨hB9.drew.get 3 rfl, HL1.under ((Below.refl _ _).drew), HL2.under ((Below.refl _ _).drew)⟩ ⟨U.F, hB9.drew⟩ (fun hT => ?_)
    have hT9 := Lib.hid hT
    clear hT
    repeat (first
      | (refine Ord.ch_value (v := ?_) hT9.out (by decide) (by rfl) ?_ ?_; rotate_left; (focus (intro w5 hS; have r1 := hS.1.rule; have r2 := hS.2.1.2; have r3 := hS.2.2.2; unfold urv at r1; go_simp <;> with_reducible rfl)); (try simp only [Act.put, List.setIfInBounds_toArray, List.set_cons_zero, List.set_cons_succ]))
      | (refine Ord.ch_off hT9.out (by decide) (by rfl) ?_; (try simp only [Act.put, List.setIfInBounds_toArray, List.set_cons_zero, List.set_cons_succ]))
      | (refine Ord.ch_call (v := ?_) (f := ?_) (args := ?_) hT9.out (by decide) (by rfl) ?_ ?_ ?_; rotate_left 3; (focus (intro w5 hS; have r1 := hS.1.rule; have r2 := hS.2.1.2; have r3 := hS.2.2.2; unfold urv at r1; go_simp; constructor <;> with_reducible rfl)); (focus (intro w5 hS; (first | (with_reducible refine (cell13_any _ _ _).mono ?_; rintro e w6 ⟨rfl, hb6⟩; constructor; with_reducible rfl; exact ⟨⟨hS.1.under hb6, hS.2.1.under hb6, hS.2.2.under hb6⟩, fun k h => h.elim fun F5 h => ⟨F5, h.over hb6⟩⟩)))); (try simp only [Act.put, List.setIfInBounds_toArray, List.set_cons_zero, List.set_cons_succ])))
    refine Ord.ch_turn (v := .tuple #[]) 0 hT9.out rfl (by decide) (Or.inl rfl) (by rfl) ?_ ?_
    · rintro w5 hC5 ⟨F5, hA5⟩
      simp only [if_true] at hA5
      go_simp
      simp only [Ord.LandsIn]
      refine (refSet_any 5 U.hs part word hml (hA5.ref 5 rfl)).mono ?_
      rintro e w6 ⟨rfl, F6, hU, hs9⟩
      have hE6 := hA5.turnU 5 rfl hU hs9
      exact ⟨rfl, ⟨hE6.get 3 rfl, hE6.lie 1 rfl kk hp1, hE6.lie 0 rfl kk hp2⟩, F6, hE6⟩
    (try simp only [Act.put, List.setIfInBounds_toArray, List.set_cons_zero, List.set_cons_succ])
    repeat (first
      | (refine Ord.ch_value (v := ?_) hT9.out (by decide) (by rfl) ?_ ?_; rotate_left; (focus (intro w5 hS; skip; go_simp <;> with_reducible rfl)); (try simp only [Act.put, List.setIfInBounds_toArray, List.set_cons_zero, List.set_cons_succ]))
      | (refine Ord.ch_off hT9.out (by decide) (by rfl) ?_; (try simp only [Act.put, List.setIfInBounds_toArray, List.set_cons_zero, List.set_cons_succ])))
    refine Ord.InText.nil fun w5 hS => ?_
    clear hT9
    obtain ⟨hC9, hA9⟩ := Ord.chain_end hS
    clear hS
    obtain ⟨F9, hA9⟩ := hA9
    simp only [List.length_cons, List.length_nil, Nat.zero_add, Nat.one_ne_zero, if_false] at hA9
    clear hC9 hB9
    have r3 := hA9.rule 2 rfl
    unfold rav at r3
    have f0 := hA9.thaw 2 rfl 0 (by simp [rav])
    have hP := (hA9.put 2 rfl (j := 0) (by simp [rav]) (.int .i64 (10 + (kk : Int) + 1))).sub (L' := boxI b (rav (10 + (kk : Int) + 1) h n r) :: LU { U with F := F9, ml := setL U.ml (5, U.hs, part) word } R) (.cons _ (.cons _ (.cons_cons _ (.cons_cons _ (.cons_cons _ (.cons_cons _ (.cons _ (List.Sublist.refl _))))))))
    cases bl
    · have hne : ¬ kk + 1 = 4 := by simpa using HBL.out
      have HP : Hid (lastS kk (List.length ([(0, U.ce), (1, 0), (3, key), (4, val)] : List (Int × Int))) = 0) := Lib.hid (if_neg (by rw [HL3.out]; exact hne))
      clear hne
      go_wp2_with fail
      go_ret
      rw [HWW.out, HP.out]
      exact ⟨rfl, F9, hP⟩
    · have heq : kk + 1 = 4 := by simpa using HBL.out
      have HP : Hid (lastS kk (List.length ([(0, U.ce), (1, 0), (3, key), (4, val)] : List (Int × Int))) = 1) := Lib.hid (if_pos (by rw [HL3.out]; exact heq))
      clear heq
      go_wp2_with fail
      go_ret
      rw [HWW.out, HP.out]
      exact ⟨rfl, F9, hP⟩
set_option maxHeartbeats 6400000 in
theorem rwrite0 (x y : Int) (t : List Trip) (hql : U.ql = (x, y, 0) :: t) (hl : t.length ≤ 1000000) (part word : Int) (hpw : (wordsA U.ck U.ce key val (IntKind.u64.wrap lv))[0]? = some (part, word)) (he : 0 ≤ U.ce ∧ U.ce ≤ 9223372036854775807) (hml : U.ml.length ≤ 1000000) (hE : Env w0 (boxI b (rav 10 h n r) :: LU U R) w) :
    Calls Tryz.prog 74 #[.pointer (some ⟨b, 0, none⟩), .pointer (some ⟨U.u, 0, none⟩), .pointer (some ⟨U.m, 0, none⟩), .agg #[.int .i64 ok, .int .u64 key, .int .u64 val, .int .i64 lv]] w fun o w' => o = .returned (.int .i64 (lastS 0 (wordsA U.ck U.ce key val (IntKind.u64.wrap lv)).length)) ∧ ∃ F5 A' c', Env w0 (boxI b (rav 11 h n r) :: LU { U with F := F5, ml := setL U.ml (5, x, part) word, hs := x, ql := t, A := A', c := c' } R) w' := by
  have hE1 := (hE.box w.heap.size rfl [.int .i64 ok, .int .u64 key, .int .u64 val, .int .i64 lv] 75).perm (L' := boxI b (rav 10 h n r) :: LU U (boxI w.heap.size [.int .i64 ok, .int .u64 key, .int .u64 val, .int .i64 lv] :: R)) (List.perm_middle (l₁ := [boxI b (rav 10 h n r), _, _, _])).symm
  have hw1 : IntKind.u64.wrap U.ce = U.ce := wrapU _ (by omega) (by omega)
  have hkl : 0 < (wordsA U.ck U.ce key val (IntKind.u64.wrap lv)).length := (List.getElem?_eq_some_iff.1 hpw).1
  clear he hE
  have rb := hE1.rule 0 rfl
  unfold rav at rb
  go_enter Tryz.func74, Tryz.ntmps74
  go_wp2_with fail
  generalize w.alloc _ = w1 at *
  generalize w.heap.size = O at *
  have hrr : (boxI b (rav 10 h n r) :: LU U (boxI O [.int .i64 ok, .int .u64 key, .int .u64 val, .int .i64 lv] :: R))[2]? = some (rrI U.A U.c ((x, y, 0) :: t)) := by rw [← hql]; rfl
  refine (refPop_at x y 0 6 1 hE1 rfl (by rw [hql]; rfl) hrr hl).mono ?_
  rintro o w2 ⟨rfl, A7, c7, hE2⟩
  have hE3 := (hE2.box w2.heap.size rfl [.int .i64 x, .int .i64 y, .int .i64 0] 114)
  have r9 := hE3.rule 0 rfl
  have r8 := hE3.rule 2 rfl
  unfold urv at r8
  have f8 := hE3.thaw 2 rfl 8 (by simp [urv])
  have hE4 := (hE3.put 2 rfl (j := 8) (by simp [urv]) (.int .i64 x)).sub (L' := boxI b (rav 10 h n r) :: LU { U with hs := x, ql := t, A := A7, c := c7 } (boxI O [.int .i64 ok, .int .u64 key, .int .u64 val, .int .i64 lv] :: R)) (.cons _ (List.Sublist.refl _))
  simp only [tv]
  clear hE1 hE2 hE3 rb hrr
  go_upto_region 4 with fail
  clear r9 r8 f8
  generalize (w2.alloc _).setCell _ _ = w3 at *
  generalize w2.heap.size = Y2 at *
  have hE5 := hE4.addLit 3 1 3 [.int .i64 0, .int .i64 1, .int .i64 3] rfl (by decide)
  clear hE4
  go_wp2_with fail
  generalize w3.alloc _ = w4 at *
  generalize w3.heap.size = z1 at *
  refine Ord3.wp_chain [?_, ?_, ?_, ?_, ?_, ?_, ?_, ?_, ?_] [7, 8] (fun v => Blk 0 v U.u (urv U.ck U.cs U.cb U.ch U.cl U.ce A7 t.length c7 U.N x U.ro) ∧ Blk 0 v O [.int .i64 ok, .int .u64 key, .int .u64 val, .int .i64 lv]) (Ord3.Stage fun κs => [Env w0 (rowI (.slice (some ⟨z1, 0, none⟩) 3 3) 3 1 3 [.int .i64 0, .int .i64 1, .int .i64 3] :: boxI b (rav 10 h n r) :: LU { U with hs := x, ql := t, A := A7, c := c7 } (boxI O [.int .i64 ok, .int .u64 key, .int .u64 val, .int .i64 lv] :: R)), Env w0 (rowI (κs.getD 0 undef) 39 1 3 [.int .u64 U.ce, .int .u64 0, .int .u64 key] :: rowI (.slice (some ⟨z1, 0, none⟩) 3 3) 3 1 3 [.int .i64 0, .int .i64 1, .int .i64 3] :: boxI b (rav 10 h n r) :: LU { U with hs := x, ql := t, A := A7, c := c7 } (boxI O [.int .i64 ok, .int .u64 key, .int .u64 val, .int .i64 lv] :: R)), Env w0 (rowI (κs.getD 1 undef) 39 1 3 [.int .u64 U.ce, .int .u64 0, .int .u64 key] :: rowI (.slice (some ⟨z1, 0, none⟩) 3 3) 3 1 3 [.int .i64 0, .int .i64 1, .int .i64 3] :: boxI b (rav 10 h n r) :: LU { U with hs := x, ql := t, A := A7, c := c7 } (boxI O [.int .i64 ok, .int .u64 key, .int .u64 val, .int .i64 lv] :: R))]) (by kernel_rfl) (by kernel_rfl) (by kernel_rfl) ⟨hE5.drew.get 2 rfl, hE5.drew.get 5 rfl⟩ ⟨_, rfl, hE5.drew⟩ (fun hT => ?_)
  rotate_left 9
  have hT9 := Lib.hid hT
  clear hT
  repeat (first
    | (focus (refine Ord3.in_value (v := ?_) hT9.out (by decide) ?_ (by rfl) ?_ ?_; rotate_left 2; (focus (intro w5 hS; have r1 := Blk.rule hS.1; have r2 := Blk.rule hS.2; unfold urv at r1; go_simp <;> with_reducible rfl)); rotate_right; (focus rfl); (try simp only [Act.put, List.setIfInBounds_toArray, List.set_cons_zero, List.set_cons_succ])))
    | (focus (refine Ord3.in_off hT9.out (by decide) ?_ (by rfl) ?_; (focus rfl); (try simp only [Act.put, List.setIfInBounds_toArray, List.set_cons_zero, List.set_cons_succ])))
    | (focus (refine Ord3.in_call (v := ?_) (f := ?_) (args := ?_) hT9.out (by decide) ?_ (by rfl) ?_ ?_ ?_; rotate_left 4; (focus (intro w5 hS; have r1 := Blk.rule hS.1; have r2 := Blk.rule hS.2; unfold urv at r1; go_simp; constructor <;> with_reducible rfl)); (focus (intro w5 hS; (first | fail))); rotate_right; (focus rfl); (try simp only [Act.put, List.setIfInBounds_toArray, List.set_cons_zero, List.set_cons_succ]))))
  refine Ord3.in_turn (fun u => ∃ z, u = .slice (some ⟨z, 0, none⟩) 3 3) _ ⟨0, rfl⟩ hT9.out rfl (by decide) (by rfl) ?_ (Or.inl rfl) (by rfl) ?_ ?_
  · rfl
  · rintro w7 hC7 ⟨P7, hP7, hA7⟩
    cases hP7
    go_simp
    simp only [Ord3.Lands]
    have hE8 := hA7.addLit 39 1 3 [.int .u64 U.ce, .int .u64 0, .int .u64 key] rfl (by decide)
    exact ⟨⟨_, rfl⟩, ⟨hE8.get 3 rfl, hE8.get 6 rfl⟩, _, rfl, hE8⟩
  rintro _ ⟨z9, rfl⟩
  (try simp only [Act.put, List.setIfInBounds_toArray, List.set_cons_zero, List.set_cons_succ])
  refine Ord3.in_turn (fun u => ∃ z, u = .slice (some ⟨z, 0, none⟩) 3 3) _ ⟨0, rfl⟩ hT9.out rfl (by decide) (by rfl) ?_ (Or.inr ⟨_, 7, [], rfl, by kernel_rfl, by kernel_rfl, rfl⟩) (by rfl) ?_ ?_
  · rfl
  · rintro w7 hC7 ⟨P7, hP7, hA7⟩
    cases hP7
    go_simp
    simp only [Ord3.Lands]
    exact ⟨⟨_, rfl⟩, hC7, _, rfl, hA7⟩
  rintro _ ⟨z2, rfl⟩
  (try simp only [Act.put, List.setIfInBounds_toArray, List.set_cons_zero, List.set_cons_succ])
  refine Ord3.in_nil rfl ?_
  rintro w9 hC9 ⟨P9, hP9, hA9⟩
  cases hP9
  replace hA9 : Env w0 (rowI (.slice (some ⟨z2, 0, none⟩) 3 3) 39 1 3 [.int .u64 U.ce, .int .u64 0, .int .u64 key] :: rowI (.slice (some ⟨z1, 0, none⟩) 3 3) 3 1 3 [.int .i64 0, .int .i64 1, .int .i64 3] :: boxI b (rav 10 h n r) :: LU { U with hs := x, ql := t, A := A7, c := c7 } (boxI O [.int .i64 ok, .int .u64 key, .int .u64 val, .int .i64 lv] :: R)) w9 := hA9
  clear hT9 hC9 hE5
  have r1 := hA9.rule 3 rfl
  unfold urv at r1
  have r2 := hA9.rule 6 rfl
  have r3 := hA9.rule 2 rfl
  unfold rav at r3
  obtain ⟨WW, hWW⟩ : ∃ WW, (wordsA U.ck U.ce key val (IntKind.u64.wrap lv)) = WW := ⟨_, rfl⟩
  rw [hWW] at hpw hkl
  have HWW := Lib.hid hWW
  clear hWW
  rcases hk2 : U.ck == 2 with _ | _
  · rcases hk3 : U.ck == 3 with _ | _
    · have hl3 : WW = [(0, U.ce), (1, 0), (3, key)] := by rw [← HWW.out]; unfold wordsA; rw [if_neg (by simpa using hk2), if_neg (by simpa using hk3)]; rfl
      go_upto_region 12 with fail
      clear r1 r2 r3
      obtain ⟨g2, c2, he2, hB⟩ := hA9.rowLiesAt 0 rfl (by decide)
      cases he2
      obtain ⟨g1, c1, he1, hB⟩ := hB.rowLiesAt 1 rfl (by decide)
      cases he1
      subst hl3
      have HL3 : Hid (List.length ([(0, U.ce), (1, 0), (3, key)] : List (Int × Int)) = 3) := Lib.hid rfl
      have hkn : 0 < 3 := hkl
      have hp1 : (partsV [(0, U.ce), (1, 0), (3, key)])[0]? = some (.int .i64 part) := by unfold partsV; rw [List.getElem?_map, hpw]; rfl
      have hp2 : (wordsV9 [(0, U.ce), (1, 0), (3, key)])[0]? = some (.int .u64 word) := by unfold wordsV9; rw [List.getElem?_map, hpw]; rfl
      have hB9 : Env w0 (lieI z2 (wordsV9 [(0, U.ce), (1, 0), (3, key)]) :: lieI z1 (partsV [(0, U.ce), (1, 0), (3, key)]) :: boxI b (rav 10 h n r) :: LU { U with hs := x, ql := t, A := A7, c := c7 } (boxI O [.int .i64 ok, .int .u64 key, .int .u64 val, .int .i64 lv] :: R)) _ := hB
      clear hB hA9
      have HL1 := hB9.lie 1 rfl 0 hp1
      have HL2 := hB9.lie 0 rfl 0 hp2
      skip
      have r3 := hB9.rule 2 rfl
      unfold rav at r3
      go_wp2_with fail
      refine Ord.wp_chain [14] (fun v => Blk 0 v U.u (urv U.ck U.cs U.cb U.ch U.cl U.ce A7 t.length c7 U.N x U.ro) ∧ Lie v z1 0 (.int .i64 part) ∧ Lie v z2 0 (.int .u64 word)) (fun k w' => ∃ F5, Env w0 (lieI z2 (wordsV9 [(0, U.ce), (1, 0), (3, key)]) :: lieI z1 (partsV [(0, U.ce), (1, 0), (3, key)]) :: boxI b (rav 10 h n r) :: LU (if k = 0 then { U with hs := x, ql := t, A := A7, c := c7 } else { U with F := F5, ml := setL U.ml (5, x, part) word, hs := x, ql := t, A := A7, c := c7 }) (boxI O [.int .i64 ok, .int .u64 key, .int .u64 val, .int .i64 lv] :: R)) w') (by kernel_rfl) (by kernel_rfl) (by kernel_rfl) ⟨hB9.drew.get 3 rfl, HL1.under ((Below.refl _ _).drew), HL2.under ((Below.refl _ _).drew)⟩ ⟨U.F, hB9.drew⟩ (fun hT => ?_)
      have hT9 := Lib.hid hT
      clear hT
      repeat (first
        | (refine Ord.ch_value (v := ?_) hT9.out (by decide) (by rfl) ?_ ?_; rotate_left; (focus (intro w5 hS; have r1 := hS.1.rule; have r2 := hS.2.1.2; have r3 := hS.2.2.2; unfold urv at r1; go_simp <;> with_reducible rfl)); (try simp only [Act.put, List.setIfInBounds_toArray, List.set_cons_zero, List.set_cons_succ]))
        | (refine Ord.ch_off hT9.out (by decide) (by rfl) ?_; (try simp only [Act.put, List.setIfInBounds_toArray, List.set_cons_zero, List.set_cons_succ]))
        | (refine Ord.ch_call (v := ?_) (f := ?_) (args := ?_) hT9.out (by decide) (by rfl) ?_ ?_ ?_; rotate_left 3; (focus (intro w5 hS; have r1 := hS.1.rule; have r2 := hS.2.1.2; have r3 := hS.2.2.2; unfold urv at r1; go_simp; constructor <;> with_reducible rfl)); (focus (intro w5 hS; (first | (with_reducible refine (cell13_any _ _ _).mono ?_; rintro e w6 ⟨rfl, hb6⟩; constructor; with_reducible rfl; exact ⟨⟨hS.1.under hb6, hS.2.1.under hb6, hS.2.2.under hb6⟩, fun k h => h.elim fun F5 h => ⟨F5, h.over hb6⟩⟩)))); (try simp only [Act.put, List.setIfInBounds_toArray, List.set_cons_zero, List.set_cons_succ])))
      refine Ord.ch_turn (v := .tuple #[]) 0 hT9.out rfl (by decide) (Or.inl rfl) (by rfl) ?_ ?_
      · rintro w5 hC5 ⟨F5, hA5⟩
        simp only [if_true] at hA5
        go_simp
        simp only [Ord.LandsIn]
        refine (refSet_any 5 x part word hml (hA5.ref 5 rfl)).mono ?_
        rintro e w6 ⟨rfl, F6, hU, hs9⟩
        have hE6 := hA5.turnU 5 rfl hU hs9
        exact ⟨rfl, ⟨hE6.get 3 rfl, hE6.lie 1 rfl 0 hp1, hE6.lie 0 rfl 0 hp2⟩, F6, hE6⟩
      (try simp only [Act.put, List.setIfInBounds_toArray, List.set_cons_zero, List.set_cons_succ])
      repeat (first
        | (refine Ord.ch_value (v := ?_) hT9.out (by decide) (by rfl) ?_ ?_; rotate_left; (focus (intro w5 hS; skip; go_simp <;> with_reducible rfl)); (try simp only [Act.put, List.setIfInBounds_toArray, List.set_cons_zero, List.set_cons_succ]))
        | (refine Ord.ch_off hT9.out (by decide) (by rfl) ?_; (try simp only [Act.put, List.setIfInBounds_toArray, List.set_cons_zero, List.set_cons_succ])))
      refine Ord.InText.nil fun w5 hS => ?_
      clear hT9
      obtain ⟨hC9, hA9⟩ := Ord.chain_end hS
      clear hS
      obtain ⟨F9, hA9⟩ := hA9
      simp only [List.length_cons, List.length_nil, Nat.zero_add, Nat.one_ne_zero, if_false] at hA9
      clear hC9 hB9
      have r3 := hA9.rule 2 rfl
      unfold rav at r3
      have f0 := hA9.thaw 2 rfl 0 (by simp [rav])
      have hP := (hA9.put 2 rfl (j := 0) (by simp [rav]) (.int .i64 11)).sub (L' := boxI b (rav 11 h n r) :: LU { U with F := F9, ml := setL U.ml (5, x, part) word, hs := x, ql := t, A := A7, c := c7 } R) (.cons _ (.cons _ (.cons_cons _ (.cons_cons _ (.cons_cons _ (.cons_cons _ (.cons _ (List.Sublist.refl _))))))))
      have HP : Hid (lastS 0 (List.length ([(0, U.ce), (1, 0), (3, key)] : List (Int × Int))) = 0) := Lib.hid (if_neg (by rw [HL3.out]; decide))
      go_wp2_with fail
      go_ret
      rw [HWW.out, HP.out]
      exact ⟨rfl, F9, A7, c7, hP⟩
    · have hl3 : WW = [(0, U.ce), (1, 0), (3, key), (5, IntKind.u64.wrap lv), (6, 0)] := by rw [← HWW.out]; unfold wordsA; rw [if_neg (by simpa using hk2), if_pos (by simpa using hk3)]; rfl
      go_upto_region 10 with fail
      clear r1 r3
      have hX := hA9.box w9.heap.size rfl [.int .i64 5, .int .i64 6] 3
      obtain ⟨A8, c8, w8, hrun, hX8⟩ := hX.appendRow (P := Tryz.prog) 2 rfl 25 25 Tryz.underlying25 (.int .i64 0) infoI1 rfl (by decide) (some ⟨w9.heap.size, 0, none⟩) 2 2 [.int .i64 5, .int .i64 6] rfl (.inr ⟨_, rfl, cells_new _ _ _⟩) (by simp [Value.oneCell']) (by decide) (by decide)
      have HRUN := Lib.hid hrun
      have hX9 := hX8.sub (.cons _ (List.Sublist.refl _))
      have r2 := hX9.rule 6 rfl
      clear hrun hX hX8 hA9
      go_upto_region 11 with (at_builtin; refine wpList_append_run rfl _ _ 25 rfl HRUN.out rfl rfl ?_)
      clear HRUN
      have hY := hX9.box w8.heap.size rfl [.int .u64 (IntKind.u64.wrap lv), .int .u64 0] 39
      obtain ⟨A6, c6, w6, hrun, hY8⟩ := hY.appendRow (P := Tryz.prog) 1 rfl 178 178 Tryz.underlying178 (.int .u64 0) infoU1 rfl (by decide) (some ⟨w8.heap.size, 0, none⟩) 2 2 [.int .u64 (IntKind.u64.wrap lv), .int .u64 0] rfl (.inr ⟨_, rfl, cells_new _ _ _⟩) (by simp [Value.oneCell']) (by decide) (by decide)
      have HRUN := Lib.hid hrun
      have hA9 := hY8.sub (.cons _ (List.Sublist.refl _))
      have r1 := hA9.rule 3 rfl
      unfold urv at r1
      clear hrun hY hY8
      go_upto_region 12 with (at_builtin; refine wpList_append_run rfl _ _ 178 rfl HRUN.out rfl rfl ?_)
      clear HRUN hX9 r1 r2
      obtain ⟨g2, c2, he2, hB⟩ := hA9.rowLiesAt 0 rfl (by decide)
      cases he2
      obtain ⟨g1, c1, he1, hB⟩ := hB.rowLiesAt 1 rfl (by decide)
      cases he1
      subst hl3
      have HL3 : Hid (List.length ([(0, U.ce), (1, 0), (3, key), (5, IntKind.u64.wrap lv), (6, 0)] : List (Int × Int)) = 5) := Lib.hid rfl
      have hkn : 0 < 5 := hkl
      have hp1 : (partsV [(0, U.ce), (1, 0), (3, key), (5, IntKind.u64.wrap lv), (6, 0)])[0]? = some (.int .i64 part) := by unfold partsV; rw [List.getElem?_map, hpw]; rfl
      have hp2 : (wordsV9 [(0, U.ce), (1, 0), (3, key), (5, IntKind.u64.wrap lv), (6, 0)])[0]? = some (.int .u64 word) := by unfold wordsV9; rw [List.getElem?_map, hpw]; rfl
      have hB9 : Env w0 (lieI g2 (wordsV9 [(0, U.ce), (1, 0), (3, key), (5, IntKind.u64.wrap lv), (6, 0)]) :: lieI g1 (partsV [(0, U.ce), (1, 0), (3, key), (5, IntKind.u64.wrap lv), (6, 0)]) :: boxI b (rav 10 h n r) :: LU { U with hs := x, ql := t, A := A7, c := c7 } (boxI O [.int .i64 ok, .int .u64 key, .int .u64 val, .int .i64 lv] :: R)) _ := hB
      clear hB hA9
      have HL1 := hB9.lie 1 rfl 0 hp1
      have HL2 := hB9.lie 0 rfl 0 hp2
      skip
      have r3 := hB9.rule 2 rfl
      unfold rav at r3
      go_wp2_with fail
      refine Ord.wp_chain [14] (fun v => Blk 0 v U.u (urv U.ck U.cs U.cb U.ch U.cl U.ce A7 t.length c7 U.N x U.ro) ∧ Lie v g1 0 (.int .i64 part) ∧ Lie v g2 0 (.int .u64 word)) (fun k w' => ∃ F5, Env w0 (lieI g2 (wordsV9 [(0, U.ce), (1, 0), (3, key), (5, IntKind.u64.wrap lv), (6, 0)]) :: lieI g1 (partsV [(0, U.ce), (1, 0), (3, key), (5, IntKind.u64.wrap lv), (6, 0)]) :: boxI b (rav 10 h n r) :: LU (if k = 0 then { U with hs := x, ql := t, A := A7, c := c7 } else { U with F := F5, ml := setL U.ml (5, x, part) word, hs := x, ql := t, A := A7, c := c7 }) (boxI O [.int .i64 ok, .int .u64 key, .int .u64 val, .int .i64 lv] :: R)) w') (by kernel_rfl) (by kernel_rfl) (by kernel_rfl) ⟨hB9.drew.get 3 rfl, HL1.under ((Below.refl _ _).drew), HL2.under ((Below.refl _ _).drew)⟩ ⟨U.F, hB9.drew⟩ (fun hT => ?_)
      have hT9 := Lib.hid hT
      clear hT
      repeat (first
        | (refine Ord.ch_value (v := ?_) hT9.out (by decide) (by rfl) ?_ ?_; rotate_left; (focus (intro w5 hS; have r1 := hS.1.rule; have r2 := hS.2.1.2; have r3 := hS.2.2.2; unfold urv at r1; go_simp <;> with_reducible rfl)); (try simp only [Act.put, List.setIfInBounds_toArray, List.set_cons_zero, List.set_cons_succ]))
        | (refine Ord.ch_off hT9.out (by decide) (by rfl) ?_; (try simp only [Act.put, List.setIfInBounds_toArray, List.set_cons_zero, List.set_cons_succ]))
        | (refine Ord.ch_call (v := ?_) (f := ?_) (args := ?_) hT9.out (by decide) (by rfl) ?_ ?_ ?_; rotate_left 3; (focus (intro w5 hS; have r1 := hS.1.rule; have r2 := hS.2.1.2; have r3 := hS.2.2.2; unfold urv at r1; go_simp; constructor <;> with_reducible rfl)); (focus (intro w5 hS; (first | (with_reducible refine (cell13_any _ _ _).mono ?_; rintro e w6 ⟨rfl, hb6⟩; constructor; with_reducible rfl; exact ⟨⟨hS.1.under hb6, hS.2.1.under hb6, hS.2.2.under hb6⟩, fun k h => h.elim fun F5 h => ⟨F5, h.over hb6⟩⟩)))); (try simp only [Act.put, List.setIfInBounds_toArray, List.set_cons_zero, List.set_cons_succ])))
      refine Ord.ch_turn (v := .tuple #[]) 0 hT9.out rfl (by decide) (Or.inl rfl) (by rfl) ?_ ?_
      · rintro w5 hC5 ⟨F5, hA5⟩
        simp only [if_true] at hA5
        go_simp
        simp only [Ord.LandsIn]
        refine (refSet_any 5 x part word hml (hA5.ref 5 rfl)).mono ?_
        rintro e w6 ⟨rfl, F6, hU, hs9⟩
        have hE6 := hA5.turnU 5 rfl hU hs9
        exact ⟨rfl, ⟨hE6.get 3 rfl, hE6.lie 1 rfl 0 hp1, hE6.lie 0 rfl 0 hp2⟩, F6, hE6⟩
      (try simp only [Act.put, List.setIfInBounds_toArray, List.set_cons_zero, List.set_cons_succ])
      repeat (first
        | (refine Ord.ch_value (v := ?_) hT9.out (by decide) (by rfl) ?_ ?_; rotate_left; (focus (intro w5 hS; skip; go_simp <;> with_reducible rfl)); (try simp only [Act.put, List.setIfInBounds_toArray, List.set_cons_zero, List.set_cons_succ]))
        | (refine Ord.ch_off hT9.out (by decide) (by rfl) ?_; (try simp only [Act.put, List.setIfInBounds_toArray, List.set_cons_zero, List.set_cons_succ])))
      refine Ord.InText.nil fun w5 hS => ?_
      clear hT9
      obtain ⟨hC9, hA9⟩ := Ord.chain_end hS
      clear hS
      obtain ⟨F9, hA9⟩ := hA9
      simp only [List.length_cons, List.length_nil, Nat.zero_add, Nat.one_ne_zero, if_false] at hA9
      clear hC9 hB9
      have r3 := hA9.rule 2 rfl
      unfold rav at r3
      have f0 := hA9.thaw 2 rfl 0 (by simp [rav])
      have hP := (hA9.put 2 rfl (j := 0) (by simp [rav]) (.int .i64 11)).sub (L' := boxI b (rav 11 h n r) :: LU { U with F := F9, ml := setL U.ml (5, x, part) word, hs := x, ql := t, A := A7, c := c7 } R) (.cons _ (.cons _ (.cons_cons _ (.cons_cons _ (.cons_cons _ (.cons_cons _ (.cons _ (List.Sublist.refl _))))))))
      have HP : Hid (lastS 0 (List.length ([(0, U.ce), (1, 0), (3, key), (5, IntKind.u64.wrap lv), (6, 0)] : List (Int × Int))) = 0) := Lib.hid (if_neg (by rw [HL3.out]; decide))
      go_wp2_with fail
      go_ret
      rw [HWW.out, HP.out]
      exact ⟨rfl, F9, A7, c7, hP⟩
  · have hk3 : (U.ck == 3) = false := by simp only [beq_iff_eq] at hk2; simp [hk2]
    have hl3 : WW = [(0, U.ce), (1, 0), (3, key), (4, val)] := by rw [← HWW.out]; unfold wordsA; rw [if_pos (by simpa using hk2)]; rfl
    go_upto_region 7 with fail
    clear r1 r3
    have hX := hA9.box w9.heap.size rfl [.int .i64 4] 3
    obtain ⟨A8, c8, w8, hrun, hX8⟩ := hX.appendRow (P := Tryz.prog) 2 rfl 25 25 Tryz.underlying25 (.int .i64 0) infoI1 rfl (by decide) (some ⟨w9.heap.size, 0, none⟩) 1 1 [.int .i64 4] rfl (.inr ⟨_, rfl, cells_new _ _ _⟩) (by simp [Value.oneCell']) (by decide) (by decide)
    have HRUN := Lib.hid hrun
    have hX9 := hX8.sub (.cons _ (List.Sublist.refl _))
    have r2 := hX9.rule 6 rfl
    clear hrun hX hX8 hA9
    go_upto_region 8 with (at_builtin; refine wpList_append_run rfl _ _ 25 rfl HRUN.out rfl rfl ?_)
    clear HRUN
    have hY := hX9.box w8.heap.size rfl [.int .u64 val] 39
    obtain ⟨A6, c6, w6, hrun, hY8⟩ := hY.appendRow (P := Tryz.prog) 1 rfl 178 178 Tryz.underlying178 (.int .u64 0) infoU1 rfl (by decide) (some ⟨w8.heap.size, 0, none⟩) 1 1 [.int .u64 val] rfl (.inr ⟨_, rfl, cells_new _ _ _⟩) (by simp [Value.oneCell']) (by decide) (by decide)
    have HRUN := Lib.hid hrun
    have hA9 := hY8.sub (.cons _ (List.Sublist.refl _))
    have r1 := hA9.rule 3 rfl
    unfold urv at r1
    clear hrun hY hY8
    go_upto_region 12 with (at_builtin; refine wpList_append_run rfl _ _ 178 rfl HRUN.out rfl rfl ?_)
    clear HRUN hX9 r1 r2
    obtain ⟨g2, c2, he2, hB⟩ := hA9.rowLiesAt 0 rfl (by decide)
    cases he2
    obtain ⟨g1, c1, he1, hB⟩ := hB.rowLiesAt 1 rfl (by decide)
    cases he1
    subst hl3
    have HL3 : Hid (List.length ([(0, U.ce), (1, 0), (3, key), (4, val)] : List (Int × Int)) = 4) := Lib.hid rfl
    have hkn : 0 < 4 := hkl
    have hp1 : (partsV [(0, U.ce), (1, 0), (3, key), (4, val)])[0]? = some (.int .i64 part) := by unfold partsV; rw [List.getElem?_map, hpw]; rfl
    have hp2 : (wordsV9 [(0, U.ce), (1, 0), (3, key), (4, val)])[0]? = some (.int .u64 word) := by unfold wordsV9; rw [List.getElem?_map, hpw]; rfl
    have hB9 : Env w0 (lieI g2 (wordsV9 [(0, U.ce), (1, 0), (3, key), (4, val)]) :: lieI g1 (partsV [(0, U.ce), (1, 0), (3, key), (4, val)]) :: boxI b (rav 10 h n r) :: LU { U with hs := x, ql := t, A := A7, c := c7 } (boxI O [.int .i64 ok, .int .u64 key, .int .u64 val, .int .i64 lv] :: R)) _ := hB
    clear hB hA9
    have HL1 := hB9.lie 1 rfl 0 hp1
    have HL2 := hB9.lie 0 rfl 0 hp2
    skip
    have r3 := hB9.rule 2 rfl
    unfold rav at r3
    go_wp2_with fail
    refine Ord.wp_chain [14] (fun v => Blk 0 v U.u (urv U.ck U.cs U.cb U.ch U.cl U.ce A7 t.length c7 U.N x U.ro) ∧ Lie v g1 0 (.int .i64 part) ∧ Lie v g2 0 (.int .u64 word)) (fun k w' => ∃ F5, Env w0 (lieI g2 (wordsV9 [(0, U.ce), (1, 0), (3, key), (4, val)]) :: lieI g1 (partsV [(0, U.ce), (1, 0), (3, key), (4, val)]) :: boxI b (rav 10 h n r) :: LU (if k = 0 then { U with hs := x, ql := t, A := A7, c := c7 } else { U with F := F5, ml := setL U.ml (5, x, part) word, hs := x, ql := t, A := A7, c := c7 }) (boxI O [.int .i64 ok, .int .u64 key, .int .u64 val, .int .i64 lv] :: R)) w') (by kernel_rfl) (by kernel_rfl) (by kernel_rfl) ⟨hB9.drew.get 3 rfl, HL1.under ((Below.refl _ _).drew), HL2.under ((Below.refl _ _).drew)⟩ ⟨U.F, hB9.drew⟩ (fun hT => ?_)
    have hT9 := Lib.hid hT
    clear hT
    repeat (first
      | (refine Ord.ch_value (v := ?_) hT9.out (by decide) (by rfl) ?_ ?_; rotate_left; (focus (intro w5 hS; have r1 := hS.1.rule; have r2 := hS.2.1.2; have r3 := hS.2.2.2; unfold urv at r1; go_simp <;> with_reducible rfl)); (try simp only [Act.put, List.setIfInBounds_toArray, List.set_cons_zero, List.set_cons_succ]))
      | (refine Ord.ch_off hT9.out (by decide) (by rfl) ?_; (try simp only [Act.put, List.setIfInBounds_toArray, List.set_cons_zero, List.set_cons_succ]))
      | (refine Ord.ch_call (v := ?_) (f := ?_) (args := ?_) hT9.out (by decide) (by rfl) ?_ ?_ ?_; rotate_left 3; (focus (intro w5 hS; have r1 := hS.1.rule; have r2 := hS.2.1.2; have r3 := hS.2.2.2; unfold urv at r1; go_simp; constructor <;> with_reducible rfl)); (focus (intro w5 hS; (first | (with_reducible refine (cell13_any _ _ _).mono ?_; rintro e w6 ⟨rfl, hb6⟩; constructor; with_reducible rfl; exact ⟨⟨hS.1.under hb6, hS.2.1.under hb6, hS.2.2.under hb6⟩, fun k h => h.elim fun F5 h => ⟨F5, h.over hb6⟩⟩)))); (try simp only [Act.put, List.setIfInBounds_toArray, List.set_cons_zero, List.set_cons_succ])))
    refine Ord.ch_turn (v := .tuple #[]) 0 hT9.out rfl (by decide) (Or.inl rfl) (by rfl) ?_ ?_
    · rintro w5 hC5 ⟨F5, hA5⟩
      simp only [if_true] at hA5
      go_simp
      simp only [Ord.LandsIn]
      refine (refSet_any 5 x part word hml (hA5.ref 5 rfl)).mono ?_
      rintro e w6 ⟨rfl, F6, hU, hs9⟩
      have hE6 := hA5.turnU 5 rfl hU hs9
      exact ⟨rfl, ⟨hE6.get 3 rfl, hE6.lie 1 rfl 0 hp1, hE6.lie 0 rfl 0 hp2⟩, F6, hE6⟩
    (try simp only [Act.put, List.setIfInBounds_toArray, List.set_cons_zero, List.set_cons_succ])
    repeat (first
      | (refine Ord.ch_value (v := ?_) hT9.out (by decide) (by rfl) ?_ ?_; rotate_left; (focus (intro w5 hS; skip; go_simp <;> with_reducible rfl)); (try simp only [Act.put, List.setIfInBounds_toArray, List.set_cons_zero, List.set_cons_succ]))
      | (refine Ord.ch_off hT9.out (by decide) (by rfl) ?_; (try simp only [Act.put, List.setIfInBounds_toArray, List.set_cons_zero, List.set_cons_succ])))
    refine Ord.InText.nil fun w5 hS => ?_
    clear hT9
    obtain ⟨hC9, hA9⟩ := Ord.chain_end hS
    clear hS
    obtain ⟨F9, hA9⟩ := hA9
    simp only [List.length_cons, List.length_nil, Nat.zero_add, Nat.one_ne_zero, if_false] at hA9
    clear hC9 hB9
    have r3 := hA9.rule 2 rfl
    unfold rav at r3
    have f0 := hA9.thaw 2 rfl 0 (by simp [rav])
    have hP := (hA9.put 2 rfl (j := 0) (by simp [rav]) (.int .i64 11)).sub (L' := boxI b (rav 11 h n r) :: LU { U with F := F9, ml := setL U.ml (5, x, part) word, hs := x, ql := t, A := A7, c := c7 } R) (.cons _ (.cons _ (.cons_cons _ (.cons_cons _ (.cons_cons _ (.cons_cons _ (.cons _ (List.Sublist.refl _))))))))
    have HP : Hid (lastS 0 (List.length ([(0, U.ce), (1, 0), (3, key), (4, val)] : List (Int × Int))) = 0) := Lib.hid (if_neg (by rw [HL3.out]; decide))
    go_wp2_with fail
    go_ret
    rw [HWW.out, HP.out]
    exact ⟨rfl, F9, A7, c7, hP⟩
end
end Go.Proofs.YtmifdkbpbkafjaaGreatDoor

/- Threads of Allocs, Retires and Gives, by plain mathematics: one step. -/
namespace Go.Proofs.YtmifdkbpbkafjaaGreatDoor
open Go.RowKit Go.Maps
set_option maxRecDepth 100000

/-- A deed; a structure. -/
structure Dd where
  (kind ok key val lv : Int)
structure Cf where
  (k s b h l : Int)
/-- A thread: its epoch, its own slots, what it holds; which deed is next, what goes on (0 nothing, 1 a checkpoint, 2 an Alloc, 3 a Retire, 4 a Give), and how far these are. -/
structure Th where
  (e : Int)
  (ql : List Trip)
  (hs : Int)
  (nd pc apc : Nat)
  (ah an ar rs : Int)
  (rpc : Nat)
  (re : Int)
  (gpc : Nat)
  (gh gg done : Int)
  (full : Bool)
abbrev Mem := Plc → Int

/-- The next deed that has steps. -/
def beginM : List Dd → Th → Bool × Th
  | [], T => (false, T)
  | d :: r, T =>
    if d.kind = 1 ∨ d.kind = 2 ∨ d.kind = 3 then
      if T.hs = 0 then (true, { T with nd := T.nd + 1, pc := 1 }) else beginM r { T with nd := T.nd + 1 }
    else if d.kind = 4 ∨ d.kind = 5 then
      if T.hs = 0 then beginM r { T with nd := T.nd + 1 } else (true, { T with nd := T.nd + 1, hs := 0, rs := T.hs, rpc := 0, re := 0, pc := 3 })
    else if d.kind = 6 then (true, { T with nd := T.nd + 1, gpc := 0, gh := 0, gg := 0, pc := 4 })
    else if d.kind = 7 then
      if T.hs = 0 then beginM r { T with nd := T.nd + 1 } else beginM r { T with nd := T.nd + 1, ql := T.ql ++ [(T.hs, 0, 0)], hs := 0 }
    else beginM r { T with nd := T.nd + 1 }

/-- An Alloc's step: its state. -/
def allocM (C : Cf) (d : Dd) (T : Th) (f : Mem) : Int × Th × Mem :=
  if T.apc = 1 then (2, T, swf f (1, 0, 0) T.e (T.e + 1))
  else if T.apc = 2 then
    if C.s ≤ f (3, 0, 0) then (0, { T with apc := 3 }, upd f (3, 0, 0) (IntKind.u64.wrap (f (3, 0, 0) + 1)))
    else (decS (T.ql ++ [(f (3, 0, 0) + 1, 0, 0)]) T.e C.l, { T with ql := T.ql ++ [(f (3, 0, 0) + 1, 0, 0)], apc := decP (T.ql ++ [(f (3, 0, 0) + 1, 0, 0)]) T.e C.l }, upd f (3, 0, 0) (IntKind.u64.wrap (f (3, 0, 0) + 1)))
  else if T.apc = 3 then (poolS (f (2, 0, 0)) C.l, { T with ah := f (2, 0, 0), apc := 4 }, f)
  else if T.apc = 4 then (0, { T with an := f (5, slotI T.ah, 2), apc := 5 }, f)
  else if T.apc = 5 then (0, { T with ar := f (5, slotI T.ah, 1), apc := 6 }, f)
  else if T.apc = 6 then
    if f (2, 0, 0) = T.ah then (decS (T.ql ++ [(slotI T.ah, epI T.ar, 0)]) T.e C.l, { T with ql := T.ql ++ [(slotI T.ah, epI T.ar, 0)], apc := decP (T.ql ++ [(slotI T.ah, epI T.ar, 0)]) T.e C.l }, swf f (2, 0, 0) T.ah (nextW T.ah (slotI T.an)))
    else (0, { T with apc := 3 }, swf f (2, 0, 0) T.ah (nextW T.ah (slotI T.an)))
  else
    let W := wordsA C.k T.e d.key d.val (IntKind.u64.wrap d.lv)
    let pw := W.getD (T.apc - 10) (0, 0)
    if T.apc = 10 then (lastS 0 W.length, { T with ql := T.ql.tail, hs := (T.ql.headD t0).1, apc := 11 }, upd f (5, (T.ql.headD t0).1, pw.1) pw.2)
    else (lastS (T.apc - 10) W.length, { T with apc := T.apc + 1 }, upd f (5, T.hs, pw.1) pw.2)

/-- A Retire's step. -/
def retireM (T : Th) (f : Mem) : Int × Th × Mem :=
  if T.rpc = 0 then (0, { T with re := f (1, 0, 0), rpc := 1 }, f)
  else (1, { T with ql := T.ql ++ [(T.rs, epI T.re, 0)] }, upd f (5, T.rs, 1) T.re)

/-- A Give's step. -/
def giveM (C : Cf) (T : Th) (f : Mem) : Int × Th × Mem :=
  if T.gpc = 0 then (gdS T.ql, { T with e := epI (f (1, 0, 0)), gpc := 1 }, f)
  else if T.gpc = 1 then (poolG (f (2, 0, 0)) C.l, { T with gh := f (2, 0, 0), gpc := 2 }, f)
  else if T.gpc = 2 then (0, { T with gpc := 3 }, upd f (5, (T.ql.headD t0).1, 2) (wordI false (slotI T.gh) 0))
  else if f (2, 0, 0) = T.gh then (gdS T.ql.tail, { T with ql := T.ql.tail, gg := wrap64 (T.gg + 1), gpc := 1 }, swf f (2, 0, 0) T.gh (nextW T.gh (T.ql.headD t0).1))
  else (0, { T with gpc := 1 }, swf f (2, 0, 0) T.gh (nextW T.gh (T.ql.headD t0).1))

/-- A thread's step, where something goes on; d: the deed that was begun last. -/
def actM (C : Cf) (d : Dd) (T : Th) (f : Mem) : Th × Mem :=
  if T.pc = 1 then
    let e := epI (f (1, 0, 0))
    ({ T with e := e, apc := decP T.ql e C.l, ah := 0, an := 0, ar := 0, pc := if decP T.ql e C.l = 0 then 0 else 2, full := false }, f)
  else if T.pc = 2 then
    let r := allocM C d T f
    ({ r.2.1 with pc := if r.1 = 2 then 1 else if r.1 = 0 then 2 else 0, done := if r.1 = 1 then T.done + 1 else T.done, full := r.1 == 3 }, r.2.2)
  else if T.pc = 3 then
    let r := retireM T f
    ({ r.2.1 with pc := if r.1 = 0 then 3 else 0, full := false }, r.2.2)
  else
    let r := giveM C T f
    ({ r.2.1 with pc := if r.1 = 0 then 4 else 0, full := false }, r.2.2)

/-- A thread's step. -/
def stepM (C : Cf) (ds : List Dd) (T : Th) (f : Mem) : Th × Mem :=
  if T.pc = 0 then
    let r := beginM (ds.drop T.nd) T
    if r.1 then actM C (ds.getD (r.2.nd - 1) ⟨0, 0, 0, 0, 0⟩) r.2 f else (r.2, f)
  else actM C (ds.getD (T.nd - 1) ⟨0, 0, 0, 0, 0⟩) T f
end Go.Proofs.YtmifdkbpbkafjaaGreatDoor

/- The reference: Step of an Alloc from 10 on; Retires; Gives. -/
namespace Go.Proofs.YtmifdkbpbkafjaaGreatDoor
open Go.RowKit Go.Maps
set_option maxRecDepth 100000

section
variable {w0 w : World} {R : List Item} {b : Nat} {U : SU} {h n r ok key val lv : Int}
set_option maxHeartbeats 3200000 in
theorem ral10 (x y : Int) (t : List Trip) (hql : U.ql = (x, y, 0) :: t) (hl : t.length ≤ 1000000) (part word : Int) (hpw : (wordsA U.ck U.ce key val (IntKind.u64.wrap lv))[0]? = some (part, word)) (he : 0 ≤ U.ce ∧ U.ce ≤ 9223372036854775807) (hml : U.ml.length ≤ 1000000) (hh : InU h) (hE : Env w0 (boxI b (rav 10 h n r) :: LU U R) w) :
    Calls Tryz.prog 42 #[.pointer (some ⟨b, 0, none⟩), .pointer (some ⟨U.u, 0, none⟩), .pointer (some ⟨U.m, 0, none⟩), .agg #[.int .i64 ok, .int .u64 key, .int .u64 val, .int .i64 lv]] w fun o w' => o = .returned (.int .i64 (lastS 0 (wordsA U.ck U.ce key val (IntKind.u64.wrap lv)).length)) ∧ ∃ F5 A' c', Env w0 (boxI b (rav 11 h n r) :: LU { U with F := F5, ml := setL U.ml (5, x, part) word, hs := x, ql := t, A := A', c := c' } R) w' := by
  have hE1 := (hE.box w.heap.size rfl [.int .i64 ok, .int .u64 key, .int .u64 val, .int .i64 lv] 75).perm (L' := boxI b (rav 10 h n r) :: LU U (boxI w.heap.size [.int .i64 ok, .int .u64 key, .int .u64 val, .int .i64 lv] :: R)) (List.perm_middle (l₁ := [boxI b (rav 10 h n r), _, _, _])).symm
  have rb := hE1.rule 0 rfl
  unfold rav at rb
  have HSL := Lib.hid (fun (v : World) => slot13_any h hh v)
  have HWR : Hid (∀ v, Env w0 (boxI b (rav 10 h n r) :: LU U (boxI w.heap.size [.int .i64 ok, .int .u64 key, .int .u64 val, .int .i64 lv] :: R)) v → Calls Tryz.prog 74 #[.pointer (some ⟨b, 0, none⟩), .pointer (some ⟨U.u, 0, none⟩), .pointer (some ⟨U.m, 0, none⟩), .agg #[.int .i64 ok, .int .u64 key, .int .u64 val, .int .i64 lv]] v fun o w' => o = .returned (.int .i64 (lastS 0 (wordsA U.ck U.ce key val (IntKind.u64.wrap lv)).length)) ∧ ∃ F5 A' c', Env w0 (boxI b (rav 11 h n r) :: LU { U with F := F5, ml := setL U.ml (5, x, part) word, hs := x, ql := t, A := A', c := c' } (boxI w.heap.size [.int .i64 ok, .int .u64 key, .int .u64 val, .int .i64 lv] :: R)) w') := Lib.hid fun v hv => rwrite0 x y t hql hl part word hpw he hml hv
  clear hE hpw he
  go_enter Tryz.func42, Tryz.ntmps42
  go_wp2_with fail
  generalize w.alloc _ = w1 at *
  generalize w.heap.size = O at *
  refine (HSL.out _).mono ?_
  rintro o w2 ⟨rfl, hb⟩
  replace hE1 := hE1.over hb
  clear hb rb
  have rb := hE1.rule 0 rfl
  unfold rav at rb
  have rO := hE1.rule 4 rfl
  go_wp2_with fail
  refine (HWR.out _ hE1).mono ?_
  rintro o w3 ⟨rfl, F5, A5, c5, hE5⟩
  go_wp2_with fail
  go_ret
  exact ⟨rfl, F5, A5, c5, hE5.sub (.cons_cons _ (.cons_cons _ (.cons_cons _ (.cons_cons _ (.cons _ (List.Sublist.refl _))))))⟩
set_option maxHeartbeats 3200000 in
theorem ralS (kk : Nat) (hk0 : 0 < kk) (part word : Int) (hpw : (wordsA U.ck U.ce key val (IntKind.u64.wrap lv))[kk]? = some (part, word)) (he : 0 ≤ U.ce ∧ U.ce ≤ 9223372036854775807) (hml : U.ml.length ≤ 1000000) (hh : InU h) (hE : Env w0 (boxI b (rav (10 + (kk : Int)) h n r) :: LU U R) w) :
    Calls Tryz.prog 42 #[.pointer (some ⟨b, 0, none⟩), .pointer (some ⟨U.u, 0, none⟩), .pointer (some ⟨U.m, 0, none⟩), .agg #[.int .i64 ok, .int .u64 key, .int .u64 val, .int .i64 lv]] w fun o w' => o = .returned (.int .i64 (lastS kk (wordsA U.ck U.ce key val (IntKind.u64.wrap lv)).length)) ∧ ∃ F5, Env w0 (boxI b (rav (10 + (kk : Int) + 1) h n r) :: LU { U with F := F5, ml := setL U.ml (5, U.hs, part) word } R) w' := by
  have hE1 := (hE.box w.heap.size rfl [.int .i64 ok, .int .u64 key, .int .u64 val, .int .i64 lv] 75).perm (L' := boxI b (rav (10 + (kk : Int)) h n r) :: LU U (boxI w.heap.size [.int .i64 ok, .int .u64 key, .int .u64 val, .int .i64 lv] :: R)) (List.perm_middle (l₁ := [boxI b (rav (10 + (kk : Int)) h n r), _, _, _])).symm
  have rb := hE1.rule 0 rfl
  unfold rav at rb
  have HSL := Lib.hid (fun (v : World) => slot13_any h hh v)
  have HWR : Hid (∀ v, Env w0 (boxI b (rav (10 + (kk : Int)) h n r) :: LU U (boxI w.heap.size [.int .i64 ok, .int .u64 key, .int .u64 val, .int .i64 lv] :: R)) v → Calls Tryz.prog 74 #[.pointer (some ⟨b, 0, none⟩), .pointer (some ⟨U.u, 0, none⟩), .pointer (some ⟨U.m, 0, none⟩), .agg #[.int .i64 ok, .int .u64 key, .int .u64 val, .int .i64 lv]] v fun o w' => o = .returned (.int .i64 (lastS kk (wordsA U.ck U.ce key val (IntKind.u64.wrap lv)).length)) ∧ ∃ F5, Env w0 (boxI b (rav (10 + (kk : Int) + 1) h n r) :: LU { U with F := F5, ml := setL U.ml (5, U.hs, part) word } (boxI w.heap.size [.int .i64 ok, .int .u64 key, .int .u64 val, .int .i64 lv] :: R)) w') := Lib.hid fun v hv => rwriteS kk hk0 part word hpw he hml hv
  have hk : ∀ j : Int, 0 ≤ j → j < 7 → ((10 + (kk : Int)) == j) = false := fun j h0 h1 => by simp; omega
  have k1 := hk 1 (by decide) (by decide)
  have k2 := hk 2 (by decide) (by decide)
  have k3 := hk 3 (by decide) (by decide)
  have k4 := hk 4 (by decide) (by decide)
  have k5 := hk 5 (by decide) (by decide)
  have k6 := hk 6 (by decide) (by decide)
  clear hk
  clear hE hpw he
  go_enter Tryz.func42, Tryz.ntmps42
  go_wp2_with fail
  generalize w.alloc _ = w1 at *
  generalize w.heap.size = O at *
  refine (HSL.out _).mono ?_
  rintro o w2 ⟨rfl, hb⟩
  replace hE1 := hE1.over hb
  clear hb rb
  have rb := hE1.rule 0 rfl
  unfold rav at rb
  have rO := hE1.rule 4 rfl
  go_wp2_with fail
  refine (HWR.out _ hE1).mono ?_
  rintro o w3 ⟨rfl, F5, hE5⟩
  go_wp2_with fail
  go_ret
  exact ⟨rfl, F5, hE5.sub (.cons_cons _ (.cons_cons _ (.cons_cons _ (.cons_cons _ (.cons _ (List.Sublist.refl _))))))⟩
/-- The reference's Retire. -/
def rrv (s pc e : Int) : List Value := [.int .i64 s, .int .i64 pc, .int .u64 e]
variable {s e : Int}
set_option maxHeartbeats 1600000 in
theorem rret0 (x : Int) (hfx : getL U.ml (1, 0, 0) = x) (hml : U.ml.length ≤ 1000000) (hE : Env w0 (boxI b (rrv s 0 e) :: LU U R) w) :
    Calls Tryz.prog 43 #[.pointer (some ⟨b, 0, none⟩), .pointer (some ⟨U.u, 0, none⟩), .pointer (some ⟨U.m, 0, none⟩)] w fun o w' => o = .returned (.int .i64 0) ∧ Env w0 (boxI b (rrv s 1 x) :: LU U R) w' := by
  have rb := hE.rule 0 rfl
  unfold rrv at rb
  have HX := Lib.hid hfx
  clear hfx
  go_enter Tryz.func43, Tryz.ntmps43
  go_wp2_with fail
  refine (epoch13_any _).mono ?_
  rintro o w1 ⟨rfl, hb⟩
  replace hE := hE.over hb
  clear hb rb
  go_wp2_with fail
  refine (refGet_any 1 0 0 hml (hE.ref 3 rfl)).mono ?_
  rintro o w2 ⟨rfl, hb⟩
  rw [HX.out]
  replace hE := hE.over hb
  clear hb
  have rb := hE.rule 0 rfl
  unfold rrv at rb
  have f1 := hE.thaw 0 rfl 1 (by simp [rrv])
  have f2 := hE.thaw 0 rfl 2 (by simp [rrv])
  have hP := (hE.put 0 rfl (j := 2) (by simp [rrv]) (.int .u64 x)).put 0 rfl (j := 1) (by simp [rrv]) (.int .i64 1)
  go_wp2_with fail
  go_ret
  exact ⟨rfl, hP⟩
set_option maxHeartbeats 3200000 in
theorem rret1 (he : InU e) (hml : U.ml.length ≤ 1000000) (hl : U.ql.length ≤ 1000000) (hN : 0 ≤ U.N ∧ U.N ≤ 1099511627776) (hE : Env w0 (boxI b (rrv s 1 e) :: LU U R) w) :
    Calls Tryz.prog 43 #[.pointer (some ⟨b, 0, none⟩), .pointer (some ⟨U.u, 0, none⟩), .pointer (some ⟨U.m, 0, none⟩)] w fun o w' => o = .returned (.int .i64 1) ∧ ∃ F5 A' c', Env w0 (LU { U with F := F5, ml := setL U.ml (5, s, 1) (epI e), A := A', c := c', N := roomN (room0 U.N) (U.ql.length + 1), ql := U.ql ++ [(s, epI e, 0)] } R) w' := by
  have rb := hE.rule 0 rfl
  unfold rrv at rb
  have heu := he
  unfold InU at heu
  by_cases hlt : e < 9223372036854775808
  · have HEP : Hid (epI e = e) := Lib.hid (by unfold epI; rw [if_pos (by omega)])
    have hltb : decide (e < 9223372036854775808) = true := by simpa using hlt
    have hw1 : wrap64 e = e := w64 _ (by omega)
    have hw2 : IntKind.u64.wrap e = e := wrapU _ (by omega) (by omega)
    clear hlt heu he
    go_enter Tryz.func43, Tryz.ntmps43
    go_wp2_with fail
    refine (cell13_any _ _ _).mono ?_
    rintro o w1 ⟨rfl, hb⟩
    replace hE := hE.over hb
    clear hb rb
    go_wp2_with fail
    refine (refSet_any 5 s 1 e hml (hE.ref 3 rfl)).mono ?_
    rintro o w2 ⟨rfl, F5, hU, hs9⟩
    have hE2 : Env w0 (boxI b (rrv s 1 e) :: LU { U with F := F5, ml := setL U.ml (5, s, 1) e } R) w2 := hE.turnU 3 rfl hU hs9
    clear hU hs9 hE
    go_wp2_with fail
    refine Ord.wp_chain [9] (fun v => Blk 0 v b (rrv s 1 e)) (fun k w' => if k = 0 then Env w0 (boxI b (rrv s 1 e) :: LU { U with F := F5, ml := setL U.ml (5, s, 1) e } R) w' else ∃ A' c', Env w0 (boxI b (rrv s 1 e) :: LU { U with F := F5, ml := setL U.ml (5, s, 1) e, A := A', c := c', N := roomN (room0 U.N) (U.ql.length + 1), ql := U.ql ++ [(s, e, 0)] } R) w') (by kernel_rfl) (by kernel_rfl) (by kernel_rfl) (hE2.drew.get 0 rfl) (by rw [if_pos rfl]; exact hE2.drew) (fun hT => ?_)
    have hT9 := Lib.hid hT
    clear hT
    repeat (first
      | (refine Ord.ch_value (v := ?_) hT9.out (by decide) (by rfl) ?_ ?_; rotate_left; (focus (intro w5 hS; have r := hS.rule; unfold rrv at r; go_simp <;> with_reducible rfl)); (try simp only [Act.put, List.setIfInBounds_toArray, List.set_cons_zero, List.set_cons_succ]))
      | (refine Ord.ch_off hT9.out (by decide) (by rfl) ?_; (try simp only [Act.put, List.setIfInBounds_toArray, List.set_cons_zero, List.set_cons_succ])))
    refine Ord.ch_turn (v := .tuple #[]) 0 hT9.out rfl (by decide) (Or.inl rfl) (by rfl) ?_ ?_
    · rintro w5 hC5 hA5
      simp only [if_true] at hA5
      go_simp
      simp only [Ord.LandsIn]
      refine (refPush_at s e 0 6 1 hA5 rfl rfl rfl rfl hl hN).mono ?_
      rintro o w7 ⟨rfl, A7, c7, hE7⟩
      have hE8 : Env w0 (boxI b (rrv s 1 e) :: LU { U with F := F5, ml := setL U.ml (5, s, 1) e, A := A7, c := c7, N := roomN (room0 U.N) (U.ql.length + 1), ql := U.ql ++ [(s, e, 0)] } R) w7 := by
        have hq : (U.ql ++ [(s, e, (0 : Int))]).length = U.ql.length + 1 := by simp
        unfold LU
        rw [hq]
        exact hE7
      exact ⟨rfl, hE8.get 0 rfl, A7, c7, hE8⟩
    (try simp only [Act.put, List.setIfInBounds_toArray, List.set_cons_zero, List.set_cons_succ])
    repeat (first
      | (refine Ord.ch_value (v := ?_) hT9.out (by decide) (by rfl) ?_ ?_; rotate_left; (focus (intro w5 hS; skip; go_simp <;> with_reducible rfl)); (try simp only [Act.put, List.setIfInBounds_toArray, List.set_cons_zero, List.set_cons_succ]))
      | (refine Ord.ch_off hT9.out (by decide) (by rfl) ?_; (try simp only [Act.put, List.setIfInBounds_toArray, List.set_cons_zero, List.set_cons_succ])))
    refine Ord.InText.nil fun w5 hS => ?_
    clear hT9
    obtain ⟨hC9, hA9⟩ := Ord.chain_end hS
    clear hS
    rw [if_neg (by decide)] at hA9
    obtain ⟨A7, c7, hE8⟩ := hA9
    clear hC9 hE2
    go_wp2_with fail
    go_ret
    rw [HEP.out]
    exact ⟨rfl, F5, A7, c7, hE8.sub (.cons _ (List.Sublist.refl _))⟩
  · have HEP : Hid (epI e = 0) := Lib.hid (by unfold epI; rw [if_neg (by omega)])
    have hltb : decide (e < 9223372036854775808) = false := by simpa using hlt
    clear hlt heu he
    go_enter Tryz.func43, Tryz.ntmps43
    go_wp2_with fail
    refine (cell13_any _ _ _).mono ?_
    rintro o w1 ⟨rfl, hb⟩
    replace hE := hE.over hb
    clear hb rb
    go_wp2_with fail
    refine (refSet_any 5 s 1 0 hml (hE.ref 3 rfl)).mono ?_
    rintro o w2 ⟨rfl, F5, hU, hs9⟩
    have hE2 : Env w0 (boxI b (rrv s 1 e) :: LU { U with F := F5, ml := setL U.ml (5, s, 1) 0 } R) w2 := hE.turnU 3 rfl hU hs9
    clear hU hs9 hE
    go_wp2_with fail
    refine Ord.wp_chain [9] (fun v => Blk 0 v b (rrv s 1 e)) (fun k w' => if k = 0 then Env w0 (boxI b (rrv s 1 e) :: LU { U with F := F5, ml := setL U.ml (5, s, 1) 0 } R) w' else ∃ A' c', Env w0 (boxI b (rrv s 1 e) :: LU { U with F := F5, ml := setL U.ml (5, s, 1) 0, A := A', c := c', N := roomN (room0 U.N) (U.ql.length + 1), ql := U.ql ++ [(s, 0, 0)] } R) w') (by kernel_rfl) (by kernel_rfl) (by kernel_rfl) (hE2.drew.get 0 rfl) (by rw [if_pos rfl]; exact hE2.drew) (fun hT => ?_)
    have hT9 := Lib.hid hT
    clear hT
    repeat (first
      | (refine Ord.ch_value (v := ?_) hT9.out (by decide) (by rfl) ?_ ?_; rotate_left; (focus (intro w5 hS; have r := hS.rule; unfold rrv at r; go_simp <;> with_reducible rfl)); (try simp only [Act.put, List.setIfInBounds_toArray, List.set_cons_zero, List.set_cons_succ]))
      | (refine Ord.ch_off hT9.out (by decide) (by rfl) ?_; (try simp only [Act.put, List.setIfInBounds_toArray, List.set_cons_zero, List.set_cons_succ])))
    refine Ord.ch_turn (v := .tuple #[]) 0 hT9.out rfl (by decide) (Or.inl rfl) (by rfl) ?_ ?_
    · rintro w5 hC5 hA5
      simp only [if_true] at hA5
      go_simp
      simp only [Ord.LandsIn]
      refine (refPush_at s 0 0 6 1 hA5 rfl rfl rfl rfl hl hN).mono ?_
      rintro o w7 ⟨rfl, A7, c7, hE7⟩
      have hE8 : Env w0 (boxI b (rrv s 1 e) :: LU { U with F := F5, ml := setL U.ml (5, s, 1) 0, A := A7, c := c7, N := roomN (room0 U.N) (U.ql.length + 1), ql := U.ql ++ [(s, 0, 0)] } R) w7 := by
        have hq : (U.ql ++ [(s, 0, (0 : Int))]).length = U.ql.length + 1 := by simp
        unfold LU
        rw [hq]
        exact hE7
      exact ⟨rfl, hE8.get 0 rfl, A7, c7, hE8⟩
    (try simp only [Act.put, List.setIfInBounds_toArray, List.set_cons_zero, List.set_cons_succ])
    repeat (first
      | (refine Ord.ch_value (v := ?_) hT9.out (by decide) (by rfl) ?_ ?_; rotate_left; (focus (intro w5 hS; skip; go_simp <;> with_reducible rfl)); (try simp only [Act.put, List.setIfInBounds_toArray, List.set_cons_zero, List.set_cons_succ]))
      | (refine Ord.ch_off hT9.out (by decide) (by rfl) ?_; (try simp only [Act.put, List.setIfInBounds_toArray, List.set_cons_zero, List.set_cons_succ])))
    refine Ord.InText.nil fun w5 hS => ?_
    clear hT9
    obtain ⟨hC9, hA9⟩ := Ord.chain_end hS
    clear hS
    rw [if_neg (by decide)] at hA9
    obtain ⟨A7, c7, hE8⟩ := hA9
    clear hC9 hE2
    go_wp2_with fail
    go_ret
    rw [HEP.out]
    exact ⟨rfl, F5, A7, c7, hE8.sub (.cons _ (List.Sublist.refl _))⟩

/-- The reference's Give. -/
def rgv (pc h g : Int) : List Value := [.int .i64 pc, .int .u64 h, .int .i64 g]
variable {pc g : Int}
set_option maxHeartbeats 1600000 in
theorem rnext_g (hE : Env w0 (boxI b (rgv pc h g) :: LU U R) w) :
    Calls Tryz.prog 75 #[.pointer (some ⟨b, 0, none⟩), .pointer (some ⟨U.u, 0, none⟩)] w fun o w' => o = .returned (.int .i64 (gdS U.ql)) ∧ Env w0 (boxI b (rgv 1 h g) :: LU U R) w' := by
  have rb := hE.rule 0 rfl
  unfold rgv at rb
  have f0 := hE.thaw 0 rfl 0 (by simp [rgv])
  have hP : Env w0 (boxI b (rgv 1 h g) :: LU U R) _ := hE.put 0 rfl (j := 0) (by simp [rgv]) (.int .i64 1)
  have ru := hP.rule 1 rfl
  unfold urv at ru
  rcases hq : U.ql with _ | ⟨x, t⟩
  · simp only [hq, List.length_nil] at ru
    clear hq
    go_enter Tryz.func75, Tryz.ntmps75
    go_wp2_with fail
    go_ret
    exact ⟨rfl, hP⟩
  · have hl : (((x :: t).length : Int) == 0) = false := by simp; omega
    simp only [hq] at ru
    generalize (x :: t).length = N at *
    clear hq
    go_enter Tryz.func75, Tryz.ntmps75
    go_wp2_with fail
    go_ret
    exact ⟨rfl, hP⟩
set_option maxHeartbeats 1600000 in
theorem rgive0 (x : Int) (hfx : getL U.ml (1, 0, 0) = x) (hxu : InU x) (hml : U.ml.length ≤ 1000000) (hE : Env w0 (boxI b (rgv 0 h g) :: LU U R) w) :
    Calls Tryz.prog 45 #[.pointer (some ⟨b, 0, none⟩), .pointer (some ⟨U.u, 0, none⟩), .pointer (some ⟨U.m, 0, none⟩)] w fun o w' => o = .returned (.int .i64 (gdS U.ql)) ∧ Env w0 (boxI b (rgv 1 h g) :: LU { U with ce := epI x } R) w' := by
  have rb := hE.rule 0 rfl
  unfold rgv at rb
  go_enter Tryz.func45, Tryz.ntmps45
  go_wp2_with fail
  refine (rcheck_w x hfx hxu hml 1 3 hE rfl rfl).mono ?_
  rintro o w1 ⟨rfl, hE1⟩
  go_wp2_with fail
  refine (rnext_g (U := { U with ce := epI x }) hE1).mono ?_
  rintro o w2 ⟨rfl, hE2⟩
  go_wp2_with fail
  go_ret
  exact ⟨rfl, hE2⟩
set_option maxHeartbeats 1600000 in
theorem rgive1 (x : Int) (hfx : getL U.ml (2, 0, 0) = x) (hxu : InU x) (hml : U.ml.length ≤ 1000000) (hE : Env w0 (boxI b (rgv 1 h g) :: LU U R) w) :
    Calls Tryz.prog 45 #[.pointer (some ⟨b, 0, none⟩), .pointer (some ⟨U.u, 0, none⟩), .pointer (some ⟨U.m, 0, none⟩)] w fun o w' => o = .returned (.int .i64 (poolG x U.cl)) ∧ ∃ pc', (poolG x U.cl = 0 → pc' = 2) ∧ Env w0 (boxI b (rgv pc' x g) :: LU U R) w' := by
  have rb := hE.rule 0 rfl
  unfold rgv at rb
  have HX := Lib.hid hfx
  have hvx := fun (v : World) => ver14_any x hxu v
  obtain ⟨y, hy⟩ : ∃ y, verI x = y := ⟨_, rfl⟩
  simp only [hy] at hvx
  have HVX := Lib.hid hvx
  have HY := Lib.hid hy
  clear hvx hfx hxu hy
  by_cases hv : U.cl ≤ y
  all_goals
    have HV := Lib.hid hv
    first
      | (have hvb : decide (U.cl ≤ y) = true := by simpa using hv)
      | (have hvb : decide (U.cl ≤ y) = false := by simpa using hv)
    clear hv
    go_enter Tryz.func45, Tryz.ntmps45
    go_wp2_with fail
    refine (pool14_any _).mono ?_
    rintro o w1 ⟨rfl, hb⟩
    replace hE := hE.over hb
    clear hb rb
    go_wp2_with fail
    refine (refGet_any 2 0 0 hml (hE.ref 3 rfl)).mono ?_
    rintro o w2 ⟨rfl, hb⟩
    rw [HX.out]
    replace hE := hE.over hb
    clear hb
    have f1 := hE.thaw 0 rfl 1 (by simp [rgv])
    have rb := hE.rule 0 rfl
    unfold rgv at rb
    have hE2 : Env w0 (boxI b (rgv 1 x g) :: LU U R) (w2.setCell ⟨b, 1, none⟩ (.int .u64 x)) := hE.put 0 rfl (j := 1) (by simp [rgv]) (.int .u64 x)
    go_wp2_with fail
    clear rb f1 hE
    generalize w2.setCell _ _ = w9 at *
    refine wp_text (S := (Env w0 (boxI b (rgv 1 x g) :: LU U R))) (by kernel_rfl) (by kernel_rfl) hE2.drew (fun hT => ?_)
    have hT9 := Lib.hid hT
    clear hT
    repeat (first
      | (refine text_value (v := ?_) hT9.out (by rfl) ?_ ?_; rotate_left; (focus (intro w5 hS; have rb := hS.rule 0 rfl; unfold rgv at rb; have ru := hS.rule 1 rfl; unfold urv at ru; go_simp <;> with_reducible rfl)); (try simp only [Act.put, List.setIfInBounds_toArray, List.set_cons_zero, List.set_cons_succ]))
      | (refine text_off hT9.out (by rfl) ?_; (try simp only [Act.put, List.setIfInBounds_toArray, List.set_cons_zero, List.set_cons_succ]))
      | (refine text_call (v := ?_) (f := ?_) (args := ?_) hT9.out (by rfl) ?_ ?_ ?_; rotate_left 3; (focus (intro w5 hS; have rb := hS.rule 0 rfl; unfold rgv at rb; have ru := hS.rule 1 rfl; unfold urv at ru; go_simp; constructor <;> with_reducible rfl)); (focus (intro w5 hS; (first | (with_reducible refine (HVX.out _).mono ?_; rintro o w6 ⟨rfl, hb6⟩; constructor; with_reducible rfl; exact hS.over hb6)))); (try simp only [Act.put, List.setIfInBounds_toArray, List.set_cons_zero, List.set_cons_succ])))
    refine InText.nil fun w5 hS5 => ?_
    clear hT9
    clear hE2
    have rb := hS5.rule 0 rfl
    unfold rgv at rb
    have f0 := hS5.thaw 0 rfl 0 (by simp [rgv])
    have hP := hS5.put 0 rfl (j := 0) (by simp [rgv]) (.int .i64 2)
    go_wp2_with fail
    go_ret
    first
      | (have hp : poolG x U.cl = 4 := by unfold poolG; rw [HY.out, if_pos HV.out]
         rw [hp]
         exact ⟨rfl, 1, fun h => absurd h (by decide), hS5⟩)
      | (have hp : poolG x U.cl = 0 := by unfold poolG; rw [HY.out, if_neg (by have := HV.out; omega)]
         rw [hp]
         exact ⟨rfl, 2, fun _ => rfl, hP⟩)
set_option maxHeartbeats 3200000 in
theorem rgive2 (x y : Int) (t : List Trip) (hql : U.ql = (x, y, 0) :: t) (hh : InU h) (hml : U.ml.length ≤ 1000000) (hE : Env w0 (boxI b (rgv 2 h g) :: LU U R) w) :
    Calls Tryz.prog 45 #[.pointer (some ⟨b, 0, none⟩), .pointer (some ⟨U.u, 0, none⟩), .pointer (some ⟨U.m, 0, none⟩)] w fun o w' => o = .returned (.int .i64 0) ∧ ∃ F5, Env w0 (boxI b (rgv 3 h g) :: LU { U with F := F5, ml := setL U.ml (5, x, 2) (wordI false (slotI h) 0) } R) w' := by
  have hr : (boxI b (rgv 2 h g) :: LU U R)[2]? = some (rrI U.A U.c ((x, y, 0) :: t)) := by rw [← hql]; rfl
  obtain ⟨gg, off, hA, hc⟩ := first_row 2 hr hE
  have hlt : decide ((0 : Int) < ((((x, y, (0 : Int)) :: t).length : Nat) : Int)) = true := by simp
  have hln : 0 < ((x, y, (0 : Int)) :: t).length := by simp
  have hne : (((x, y, (0 : Int)) :: t).length = 0) = False := by simp
  have huv : urv U.ck U.cs U.cb U.ch U.cl U.ce U.A U.ql.length U.c U.N U.hs U.ro = [.int .i64 U.ck, .int .i64 U.cs, .int .i64 U.cb, .int .i64 U.ch, .int .i64 U.cl, .int .i64 U.ce, .slice (some ⟨gg, off, none⟩) ((x, y, (0 : Int)) :: t).length U.c, .int .i64 U.N, .int .i64 U.hs, .int .i64 U.ro] := by
    unfold urv
    rw [hA, hql]
  have hfl : ∀ v L, Env w0 L v → L[2]? = some (rrI U.A U.c ((x, y, 0) :: t)) → Lie v gg off (.int .i64 x) := fun v L hv hr => by
    rcases hv.cells3 2 rfl hr with h0 | ⟨b', off', he, hlt, hc⟩
    · cases h0
    · rw [hA] at he
      cases he
      have := at3 (hc 0 (by simp))
      exact ⟨hlt, by simpa using this.1⟩
  have HFL := Lib.hid hfl
  have HR := Lib.hid hr
  have hsn := fun (v : World) => slot13_any h hh v
  have hwd := fun (v : World) => refWord_any false (slotI h) 0 v
  obtain ⟨y9, hy⟩ : ∃ y, wordI false (slotI h) 0 = y := ⟨_, rfl⟩
  rw [hy]
  simp only [hy] at hwd
  obtain ⟨sl, hsl⟩ : ∃ s, slotI h = s := ⟨_, rfl⟩
  simp only [hsl] at hsn hwd
  have HSN := Lib.hid hsn
  have HWD := Lib.hid hwd
  clear hsn hwd hy hsl hh
  generalize ((x, y, (0 : Int)) :: t).length = NN at *
  have HUV := Lib.hid huv
  have HQ := Lib.hid hql
  clear hql hr hc hfl hA huv
  have rb := hE.rule 0 rfl
  unfold rgv at rb
  go_enter Tryz.func45, Tryz.ntmps45
  go_wp2_with fail
  refine Ord.wp_chain [17] (fun v => Blk 0 v U.u (urv U.ck U.cs U.cb U.ch U.cl U.ce U.A U.ql.length U.c U.N U.hs U.ro) ∧ Blk 0 v b (rgv 2 h g) ∧ Lie v gg off (.int .i64 x)) (fun k w' => ∃ F5, Env w0 (boxI b (rgv 2 h g) :: LU (if k = 0 then U else { U with F := F5, ml := setL U.ml (5, x, 2) y9 }) R) w') (by kernel_rfl) (by kernel_rfl) (by kernel_rfl) ⟨hE.drew.get 1 rfl, hE.drew.get 0 rfl, HFL.out _ _ hE.drew HR.out⟩ ⟨U.F, hE.drew⟩ (fun hT => ?_)
  have hT9 := Lib.hid hT
  clear hT
  repeat (first
    | (refine Ord.ch_value (v := ?_) hT9.out (by decide) (by rfl) ?_ ?_; rotate_left; (focus (intro w5 hS; have ru := hS.1.rule; simp only [HUV.out] at ru; have rb := hS.2.1.rule; unfold rgv at rb; have rc := hS.2.2.2; go_simp <;> with_reducible rfl)); (try simp only [Act.put, List.setIfInBounds_toArray, List.set_cons_zero, List.set_cons_succ]))
    | (refine Ord.ch_off hT9.out (by decide) (by rfl) ?_; (try simp only [Act.put, List.setIfInBounds_toArray, List.set_cons_zero, List.set_cons_succ]))
    | (refine Ord.ch_call (v := ?_) (f := ?_) (args := ?_) hT9.out (by decide) (by rfl) ?_ ?_ ?_; rotate_left 3; (focus (intro w5 hS; have ru := hS.1.rule; simp only [HUV.out] at ru; have rb := hS.2.1.rule; unfold rgv at rb; have rc := hS.2.2.2; go_simp; constructor <;> with_reducible rfl)); (focus (intro w5 hS; (first | (with_reducible refine (cell13_any _ _ _).mono ?_; rintro e w6 ⟨rfl, hb6⟩; constructor; with_reducible rfl; exact ⟨⟨hS.1.under hb6, hS.2.1.under hb6, hS.2.2.under hb6⟩, fun k h => h.elim fun F5 h => ⟨F5, h.over hb6⟩⟩) | (with_reducible refine (HSN.out _).mono ?_; rintro e w6 ⟨rfl, hb6⟩; constructor; with_reducible rfl; exact ⟨⟨hS.1.under hb6, hS.2.1.under hb6, hS.2.2.under hb6⟩, fun k h => h.elim fun F5 h => ⟨F5, h.over hb6⟩⟩) | (with_reducible refine (HWD.out _).mono ?_; rintro e w6 ⟨rfl, hb6⟩; constructor; with_reducible rfl; exact ⟨⟨hS.1.under hb6, hS.2.1.under hb6, hS.2.2.under hb6⟩, fun k h => h.elim fun F5 h => ⟨F5, h.over hb6⟩⟩)))); (try simp only [Act.put, List.setIfInBounds_toArray, List.set_cons_zero, List.set_cons_succ])))
  refine Ord.ch_turn (v := .tuple #[]) 0 hT9.out rfl (by decide) (Or.inl rfl) (by rfl) ?_ ?_
  · rintro w5 hC5 ⟨F5, hA5⟩
    simp only [if_true] at hA5
    go_simp
    simp only [Ord.LandsIn]
    refine (refSet_any 5 x 2 y9 hml (hA5.ref 3 rfl)).mono ?_
    rintro e w6 ⟨rfl, F6, hU, hs9⟩
    have hE6 := hA5.turnU 3 rfl hU hs9
    exact ⟨rfl, ⟨hE6.get 1 rfl, hE6.get 0 rfl, HFL.out _ _ hE6 (by rw [← HQ.out]; rfl)⟩, F6, hE6⟩
  (try simp only [Act.put, List.setIfInBounds_toArray, List.set_cons_zero, List.set_cons_succ])
  repeat (first
    | (refine Ord.ch_value (v := ?_) hT9.out (by decide) (by rfl) ?_ ?_; rotate_left; (focus (intro w5 hS; skip; go_simp <;> with_reducible rfl)); (try simp only [Act.put, List.setIfInBounds_toArray, List.set_cons_zero, List.set_cons_succ]))
    | (refine Ord.ch_off hT9.out (by decide) (by rfl) ?_; (try simp only [Act.put, List.setIfInBounds_toArray, List.set_cons_zero, List.set_cons_succ])))
  refine Ord.InText.nil fun w5 hS => ?_
  clear hT9
  obtain ⟨hC9, hA9⟩ := Ord.chain_end hS
  clear hS
  obtain ⟨F9, hA9⟩ := hA9
  simp only [List.length_cons, List.length_nil, Nat.zero_add, Nat.one_ne_zero, if_false] at hA9
  clear hC9 hE rb
  have rb := hA9.rule 0 rfl
  unfold rgv at rb
  have f0 := hA9.thaw 0 rfl 0 (by simp [rgv])
  have hP := hA9.put 0 rfl (j := 0) (by simp [rgv]) (.int .i64 3)
  go_wp2_with fail
  go_ret
  exact ⟨rfl, F9, hP⟩
set_option maxHeartbeats 3200000 in
theorem rgive3No (x y : Int) (t : List Trip) (hql : U.ql = (x, y, 0) :: t) (hfx : getL U.ml (2, 0, 0) ≠ h) (hh : InU h) (hml : U.ml.length ≤ 1000000) (hE : Env w0 (boxI b (rgv 3 h g) :: LU U R) w) :
    Calls Tryz.prog 45 #[.pointer (some ⟨b, 0, none⟩), .pointer (some ⟨U.u, 0, none⟩), .pointer (some ⟨U.m, 0, none⟩)] w fun o w' => o = .returned (.int .i64 0) ∧ ∃ F5, Env w0 (boxI b (rgv 1 h g) :: LU { U with F := F5, ml := swL U.ml (2, 0, 0) h (wordI false x (verI h + 1)) } R) w' := by
  have hr : (boxI b (rgv 3 h g) :: LU U R)[2]? = some (rrI U.A U.c ((x, y, 0) :: t)) := by rw [← hql]; rfl
  obtain ⟨gg, off, hA, hc⟩ := first_row 2 hr hE
  have hlt : decide ((0 : Int) < ((((x, y, (0 : Int)) :: t).length : Nat) : Int)) = true := by simp
  have hln : 0 < ((x, y, (0 : Int)) :: t).length := by simp
  have hne : (((x, y, (0 : Int)) :: t).length = 0) = False := by simp
  have huv : urv U.ck U.cs U.cb U.ch U.cl U.ce U.A U.ql.length U.c U.N U.hs U.ro = [.int .i64 U.ck, .int .i64 U.cs, .int .i64 U.cb, .int .i64 U.ch, .int .i64 U.cl, .int .i64 U.ce, .slice (some ⟨gg, off, none⟩) ((x, y, (0 : Int)) :: t).length U.c, .int .i64 U.N, .int .i64 U.hs, .int .i64 U.ro] := by
    unfold urv
    rw [hA, hql]
  have hfl : ∀ v L, Env w0 L v → L[2]? = some (rrI U.A U.c ((x, y, 0) :: t)) → Lie v gg off (.int .i64 x) := fun v L hv hr => by
    rcases hv.cells3 2 rfl hr with h0 | ⟨b', off', he, hlt, hc⟩
    · cases h0
    · rw [hA] at he
      cases he
      have := at3 (hc 0 (by simp))
      exact ⟨hlt, by simpa using this.1⟩
  have HFL := Lib.hid hfl
  have HR := Lib.hid hr
  have HD : Hid (decide (getL U.ml (2, 0, 0) = h) = false) := Lib.hid (by simpa using hfx)
  have hbh := fun (v : World) => behind14_any h x hh v
  obtain ⟨y9, hy⟩ : ∃ y, wordI false x (verI h + 1) = y := ⟨_, rfl⟩
  rw [hy]
  simp only [hy] at hbh
  have HBH := Lib.hid hbh
  clear hbh hy hh hfx
  generalize ((x, y, (0 : Int)) :: t).length = NN at *
  have HUV := Lib.hid huv
  have HQ := Lib.hid hql
  clear hql hr hc hfl hA huv
  have rb := hE.rule 0 rfl
  unfold rgv at rb
  go_enter Tryz.func45, Tryz.ntmps45
  go_wp2_with fail
  refine Ord.wp_chain [19] (fun v => Blk 0 v U.u (urv U.ck U.cs U.cb U.ch U.cl U.ce U.A U.ql.length U.c U.N U.hs U.ro) ∧ Blk 0 v b (rgv 3 h g) ∧ Lie v gg off (.int .i64 x)) (fun k w' => ∃ F5, Env w0 (boxI b (rgv 3 h g) :: LU (if k = 0 then U else { U with F := F5, ml := swL U.ml (2, 0, 0) h y9 }) R) w') (by kernel_rfl) (by kernel_rfl) (by kernel_rfl) ⟨hE.drew.get 1 rfl, hE.drew.get 0 rfl, HFL.out _ _ hE.drew HR.out⟩ ⟨U.F, hE.drew⟩ (fun hT => ?_)
  have hT9 := Lib.hid hT
  clear hT
  repeat (first
    | (refine Ord.ch_value (v := ?_) hT9.out (by decide) (by rfl) ?_ ?_; rotate_left; (focus (intro w5 hS; have ru := hS.1.rule; simp only [HUV.out] at ru; have rb := hS.2.1.rule; unfold rgv at rb; have rc := hS.2.2.2; go_simp <;> with_reducible rfl)); (try simp only [Act.put, List.setIfInBounds_toArray, List.set_cons_zero, List.set_cons_succ]))
    | (refine Ord.ch_off hT9.out (by decide) (by rfl) ?_; (try simp only [Act.put, List.setIfInBounds_toArray, List.set_cons_zero, List.set_cons_succ]))
    | (refine Ord.ch_call (v := ?_) (f := ?_) (args := ?_) hT9.out (by decide) (by rfl) ?_ ?_ ?_; rotate_left 3; (focus (intro w5 hS; have ru := hS.1.rule; simp only [HUV.out] at ru; have rb := hS.2.1.rule; unfold rgv at rb; have rc := hS.2.2.2; go_simp; constructor <;> with_reducible rfl)); (focus (intro w5 hS; (first | (with_reducible refine (pool14_any _).mono ?_; rintro e w6 ⟨rfl, hb6⟩; constructor; with_reducible rfl; exact ⟨⟨hS.1.under hb6, hS.2.1.under hb6, hS.2.2.under hb6⟩, fun k h => h.elim fun F5 h => ⟨F5, h.over hb6⟩⟩) | (with_reducible refine (HBH.out _).mono ?_; rintro e w6 ⟨rfl, hb6⟩; constructor; with_reducible rfl; exact ⟨⟨hS.1.under hb6, hS.2.1.under hb6, hS.2.2.under hb6⟩, fun k h => h.elim fun F5 h => ⟨F5, h.over hb6⟩⟩)))); (try simp only [Act.put, List.setIfInBounds_toArray, List.set_cons_zero, List.set_cons_succ])))
  refine Ord.ch_turn (v := .bool false) 0 hT9.out rfl (by decide) (Or.inl rfl) (by rfl) ?_ ?_
  · rintro w5 hC5 ⟨F5, hA5⟩
    simp only [if_true] at hA5
    go_simp
    simp only [Ord.LandsIn]
    have hsw := refSwap_any 2 0 0 h y9 hml (hA5.ref 3 rfl)
    rw [HD.out] at hsw
    refine hsw.mono ?_
    rintro e w6 ⟨rfl, F6, hU, hs9⟩
    have hE6 := hA5.turnU 3 rfl hU hs9
    exact ⟨rfl, ⟨hE6.get 1 rfl, hE6.get 0 rfl, HFL.out _ _ hE6 (by rw [← HQ.out]; rfl)⟩, F6, hE6⟩
  (try simp only [Act.put, List.setIfInBounds_toArray, List.set_cons_zero, List.set_cons_succ])
  repeat (first
    | (refine Ord.ch_value (v := ?_) hT9.out (by decide) (by rfl) ?_ ?_; rotate_left; (focus (intro w5 hS; skip; go_simp <;> with_reducible rfl)); (try simp only [Act.put, List.setIfInBounds_toArray, List.set_cons_zero, List.set_cons_succ]))
    | (refine Ord.ch_off hT9.out (by decide) (by rfl) ?_; (try simp only [Act.put, List.setIfInBounds_toArray, List.set_cons_zero, List.set_cons_succ])))
  refine Ord.InText.nil fun w5 hS => ?_
  clear hT9
  obtain ⟨hC9, hA9⟩ := Ord.chain_end hS
  clear hS
  obtain ⟨F9, hA9⟩ := hA9
  simp only [List.length_cons, List.length_nil, Nat.zero_add, Nat.one_ne_zero, if_false] at hA9
  clear hC9 hE rb
  have rb := hA9.rule 0 rfl
  unfold rgv at rb
  have f0 := hA9.thaw 0 rfl 0 (by simp [rgv])
  have hP := hA9.put 0 rfl (j := 0) (by simp [rgv]) (.int .i64 1)
  go_wp2_with fail
  go_ret
  exact ⟨rfl, F9, hP⟩
set_option maxHeartbeats 3200000 in
theorem rgive3Yes (x y : Int) (t : List Trip) (hql : U.ql = (x, y, 0) :: t) (hfx : getL U.ml (2, 0, 0) = h) (hl : t.length ≤ 1000000) (hh : InU h) (hml : U.ml.length ≤ 1000000) (hE : Env w0 (boxI b (rgv 3 h g) :: LU U R) w) :
    Calls Tryz.prog 45 #[.pointer (some ⟨b, 0, none⟩), .pointer (some ⟨U.u, 0, none⟩), .pointer (some ⟨U.m, 0, none⟩)] w fun o w' => o = .returned (.int .i64 (gdS t)) ∧ ∃ F5 A' c', Env w0 (boxI b (rgv 1 h (wrap64 (g + 1))) :: LU { U with F := F5, ml := swL U.ml (2, 0, 0) h (wordI false x (verI h + 1)), ql := t, A := A', c := c' } R) w' := by
  have hr : (boxI b (rgv 3 h g) :: LU U R)[2]? = some (rrI U.A U.c ((x, y, 0) :: t)) := by rw [← hql]; rfl
  obtain ⟨gg, off, hA, hc⟩ := first_row 2 hr hE
  have hlt : decide ((0 : Int) < ((((x, y, (0 : Int)) :: t).length : Nat) : Int)) = true := by simp
  have hln : 0 < ((x, y, (0 : Int)) :: t).length := by simp
  have hne : (((x, y, (0 : Int)) :: t).length = 0) = False := by simp
  have huv : urv U.ck U.cs U.cb U.ch U.cl U.ce U.A U.ql.length U.c U.N U.hs U.ro = [.int .i64 U.ck, .int .i64 U.cs, .int .i64 U.cb, .int .i64 U.ch, .int .i64 U.cl, .int .i64 U.ce, .slice (some ⟨gg, off, none⟩) ((x, y, (0 : Int)) :: t).length U.c, .int .i64 U.N, .int .i64 U.hs, .int .i64 U.ro] := by
    unfold urv
    rw [hA, hql]
  have hfl : ∀ v L, Env w0 L v → L[2]? = some (rrI U.A U.c ((x, y, 0) :: t)) → Lie v gg off (.int .i64 x) := fun v L hv hr => by
    rcases hv.cells3 2 rfl hr with h0 | ⟨b', off', he, hlt, hc⟩
    · cases h0
    · rw [hA] at he
      cases he
      have := at3 (hc 0 (by simp))
      exact ⟨hlt, by simpa using this.1⟩
  have HFL := Lib.hid hfl
  have HR := Lib.hid hr
  have HD : Hid (decide (getL U.ml (2, 0, 0) = h) = true) := Lib.hid (by rw [hfx]; simp)
  have hbh := fun (v : World) => behind14_any h x hh v
  obtain ⟨y9, hy⟩ : ∃ y, wordI false x (verI h + 1) = y := ⟨_, rfl⟩
  rw [hy]
  simp only [hy] at hbh
  have HBH := Lib.hid hbh
  clear hbh hy hh hfx
  generalize ((x, y, (0 : Int)) :: t).length = NN at *
  have HUV := Lib.hid huv
  have HQ := Lib.hid hql
  clear hql hr hc hfl hA huv
  have rb := hE.rule 0 rfl
  unfold rgv at rb
  go_enter Tryz.func45, Tryz.ntmps45
  go_wp2_with fail
  refine Ord.wp_chain [19] (fun v => Blk 0 v U.u (urv U.ck U.cs U.cb U.ch U.cl U.ce U.A U.ql.length U.c U.N U.hs U.ro) ∧ Blk 0 v b (rgv 3 h g) ∧ Lie v gg off (.int .i64 x)) (fun k w' => ∃ F5, Env w0 (boxI b (rgv 3 h g) :: LU (if k = 0 then U else { U with F := F5, ml := swL U.ml (2, 0, 0) h y9 }) R) w') (by kernel_rfl) (by kernel_rfl) (by kernel_rfl) ⟨hE.drew.get 1 rfl, hE.drew.get 0 rfl, HFL.out _ _ hE.drew HR.out⟩ ⟨U.F, hE.drew⟩ (fun hT => ?_)
  have hT9 := Lib.hid hT
  clear hT
  repeat (first
    | (refine Ord.ch_value (v := ?_) hT9.out (by decide) (by rfl) ?_ ?_; rotate_left; (focus (intro w5 hS; have ru := hS.1.rule; simp only [HUV.out] at ru; have rb := hS.2.1.rule; unfold rgv at rb; have rc := hS.2.2.2; go_simp <;> with_reducible rfl)); (try simp only [Act.put, List.setIfInBounds_toArray, List.set_cons_zero, List.set_cons_succ]))
    | (refine Ord.ch_off hT9.out (by decide) (by rfl) ?_; (try simp only [Act.put, List.setIfInBounds_toArray, List.set_cons_zero, List.set_cons_succ]))
    | (refine Ord.ch_call (v := ?_) (f := ?_) (args := ?_) hT9.out (by decide) (by rfl) ?_ ?_ ?_; rotate_left 3; (focus (intro w5 hS; have ru := hS.1.rule; simp only [HUV.out] at ru; have rb := hS.2.1.rule; unfold rgv at rb; have rc := hS.2.2.2; go_simp; constructor <;> with_reducible rfl)); (focus (intro w5 hS; (first | (with_reducible refine (pool14_any _).mono ?_; rintro e w6 ⟨rfl, hb6⟩; constructor; with_reducible rfl; exact ⟨⟨hS.1.under hb6, hS.2.1.under hb6, hS.2.2.under hb6⟩, fun k h => h.elim fun F5 h => ⟨F5, h.over hb6⟩⟩) | (with_reducible refine (HBH.out _).mono ?_; rintro e w6 ⟨rfl, hb6⟩; constructor; with_reducible rfl; exact ⟨⟨hS.1.under hb6, hS.2.1.under hb6, hS.2.2.under hb6⟩, fun k h => h.elim fun F5 h => ⟨F5, h.over hb6⟩⟩)))); (try simp only [Act.put, List.setIfInBounds_toArray, List.set_cons_zero, List.set_cons_succ])))
  refine Ord.ch_turn (v := .bool true) 0 hT9.out rfl (by decide) (Or.inl rfl) (by rfl) ?_ ?_
  · rintro w5 hC5 ⟨F5, hA5⟩
    simp only [if_true] at hA5
    go_simp
    simp only [Ord.LandsIn]
    have hsw := refSwap_any 2 0 0 h y9 hml (hA5.ref 3 rfl)
    rw [HD.out] at hsw
    refine hsw.mono ?_
    rintro e w6 ⟨rfl, F6, hU, hs9⟩
    have hE6 := hA5.turnU 3 rfl hU hs9
    exact ⟨rfl, ⟨hE6.get 1 rfl, hE6.get 0 rfl, HFL.out _ _ hE6 (by rw [← HQ.out]; rfl)⟩, F6, hE6⟩
  (try simp only [Act.put, List.setIfInBounds_toArray, List.set_cons_zero, List.set_cons_succ])
  repeat (first
    | (refine Ord.ch_value (v := ?_) hT9.out (by decide) (by rfl) ?_ ?_; rotate_left; (focus (intro w5 hS; skip; go_simp <;> with_reducible rfl)); (try simp only [Act.put, List.setIfInBounds_toArray, List.set_cons_zero, List.set_cons_succ]))
    | (refine Ord.ch_off hT9.out (by decide) (by rfl) ?_; (try simp only [Act.put, List.setIfInBounds_toArray, List.set_cons_zero, List.set_cons_succ])))
  refine Ord.InText.nil fun w5 hS => ?_
  clear hT9
  obtain ⟨hC9, hA9⟩ := Ord.chain_end hS
  clear hS
  obtain ⟨F9, hA9⟩ := hA9
  simp only [List.length_cons, List.length_nil, Nat.zero_add, Nat.one_ne_zero, if_false] at hA9
  clear hC9 hE rb
  have rb := hA9.rule 0 rfl
  unfold rgv at rb
  go_wp2_with fail
  refine (refPop_at x y 0 6 1 hA9 rfl (by dsimp only; rw [HQ.out]; rfl) (show _ = some (rrI U.A U.c ((x, y, 0) :: t)) by rw [← HQ.out]; rfl) hl).mono ?_
  rintro o w7 ⟨rfl, A7, c7, hE7⟩
  have hE8 : Env w0 (boxI b (rgv 3 h g) :: LU { U with F := F9, ml := swL U.ml (2, 0, 0) h y9, ql := t, A := A7, c := c7 } R) w7 := hE7
  clear hE7 rb hA9
  have rb := hE8.rule 0 rfl
  unfold rgv at rb
  have f2 := hE8.thaw 0 rfl 2 (by simp [rgv])
  have hP := hE8.put 0 rfl (j := 2) (by simp [rgv]) (.int .i64 (wrap64 (g + 1)))
  go_wp2_with fail
  refine (rnext_g (U := { U with F := F9, ml := swL U.ml (2, 0, 0) h y9, ql := t, A := A7, c := c7 }) (pc := 3) (h := h) (g := wrap64 (g + 1)) hP).mono ?_
  rintro o w8 ⟨rfl, hE9⟩
  go_wp2_with fail
  go_ret
  exact ⟨rfl, F9, A7, c7, hE9⟩
end
end Go.Proofs.YtmifdkbpbkafjaaGreatDoor
