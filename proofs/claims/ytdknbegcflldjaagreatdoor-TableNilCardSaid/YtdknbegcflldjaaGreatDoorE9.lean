/- What is proved on the way to the statement, part 9 of 17: contracts of the functions, among other things in memory. -/
import Derived.Test.YtdknbegcflldjaaGreatDoorE8
import Derived.LoopIn

/- The reference: Step of an Alloc from 10 on; Retires; Gives. -/
namespace Go.Proofs.YtdknbegcflldjaaGreatDoor
open Go.RowKit Go.Maps
set_option maxRecDepth 100000

section
variable {w0 w : World} {R : List Item} {b : Nat} {U : SU} {h n r ok key val lv : Int}
set_option maxHeartbeats 3200000 in
theorem ral10 (x y : Int) (t : List Trip) (hql : U.ql = (x, y, 0) :: t) (hl : t.length ≤ 1000000) (part word : Int) (hpw : (wordsA U.ck U.ce key val (IntKind.u64.wrap lv))[0]? = some (part, word)) (he : 0 ≤ U.ce ∧ U.ce ≤ 9223372036854775807) (hml : U.ml.length ≤ 1000000) (hh : InU h) (hE : Env w0 (boxI b (rav 10 h n r) :: LU U R) w) :
    Calls Tryz.prog 108 #[.pointer (some ⟨b, 0, none⟩), .pointer (some ⟨U.u, 0, none⟩), .pointer (some ⟨U.m, 0, none⟩), .agg #[.int .i64 ok, .int .u64 key, .int .u64 val, .int .i64 lv]] w fun o w' => o = .returned (.int .i64 (lastS 0 (wordsA U.ck U.ce key val (IntKind.u64.wrap lv)).length)) ∧ ∃ F5 A' c', Env w0 (boxI b (rav 11 h n r) :: LU { U with F := F5, ml := setL U.ml (5, x, part) word, hs := x, ql := t, A := A', c := c' } R) w' := by
  have hE1 := (hE.box w.heap.size rfl [.int .i64 ok, .int .u64 key, .int .u64 val, .int .i64 lv] 50).perm (L' := boxI b (rav 10 h n r) :: LU U (boxI w.heap.size [.int .i64 ok, .int .u64 key, .int .u64 val, .int .i64 lv] :: R)) (List.perm_middle (l₁ := [boxI b (rav 10 h n r), _, _, _])).symm
  have rb := hE1.rule 0 rfl
  unfold rav at rb
  have HSL := Lib.hid (fun (v : World) => slot13_any h hh v)
  have HWR : Hid (∀ v, Env w0 (boxI b (rav 10 h n r) :: LU U (boxI w.heap.size [.int .i64 ok, .int .u64 key, .int .u64 val, .int .i64 lv] :: R)) v → Calls Tryz.prog 153 #[.pointer (some ⟨b, 0, none⟩), .pointer (some ⟨U.u, 0, none⟩), .pointer (some ⟨U.m, 0, none⟩), .agg #[.int .i64 ok, .int .u64 key, .int .u64 val, .int .i64 lv]] v fun o w' => o = .returned (.int .i64 (lastS 0 (wordsA U.ck U.ce key val (IntKind.u64.wrap lv)).length)) ∧ ∃ F5 A' c', Env w0 (boxI b (rav 11 h n r) :: LU { U with F := F5, ml := setL U.ml (5, x, part) word, hs := x, ql := t, A := A', c := c' } (boxI w.heap.size [.int .i64 ok, .int .u64 key, .int .u64 val, .int .i64 lv] :: R)) w') := Lib.hid fun v hv => rwrite0 x y t hql hl part word hpw he hml hv
  clear hE hpw he
  go_enter Tryz.func108, Tryz.ntmps108
  go_wp2_with fail
  generalize w.alloc _ = w1 at *
  generalize w.heap.size = O at *
  refine (HSL.out _).mono ?_
  rintro o w2 ⟨rfl, hb⟩
  replace hE1 := hE1.over hb
  clear hb rb
  have rb := hE1.rule 0 rfl
  unfold rav at rb
  have rO := hE1.rule 4 rfl
  go_wp2_with fail
  refine (HWR.out _ hE1).mono ?_
  rintro o w3 ⟨rfl, F5, A5, c5, hE5⟩
  go_wp2_with fail
  go_ret
  exact ⟨rfl, F5, A5, c5, hE5.sub (.cons_cons _ (.cons_cons _ (.cons_cons _ (.cons_cons _ (.cons _ (List.Sublist.refl _))))))⟩
set_option maxHeartbeats 3200000 in
theorem ralS (kk : Nat) (hk0 : 0 < kk) (part word : Int) (hpw : (wordsA U.ck U.ce key val (IntKind.u64.wrap lv))[kk]? = some (part, word)) (he : 0 ≤ U.ce ∧ U.ce ≤ 9223372036854775807) (hml : U.ml.length ≤ 1000000) (hh : InU h) (hE : Env w0 (boxI b (rav (10 + (kk : Int)) h n r) :: LU U R) w) :
    Calls Tryz.prog 108 #[.pointer (some ⟨b, 0, none⟩), .pointer (some ⟨U.u, 0, none⟩), .pointer (some ⟨U.m, 0, none⟩), .agg #[.int .i64 ok, .int .u64 key, .int .u64 val, .int .i64 lv]] w fun o w' => o = .returned (.int .i64 (lastS kk (wordsA U.ck U.ce key val (IntKind.u64.wrap lv)).length)) ∧ ∃ F5, Env w0 (boxI b (rav (10 + (kk : Int) + 1) h n r) :: LU { U with F := F5, ml := setL U.ml (5, U.hs, part) word } R) w' := by
  have hE1 := (hE.box w.heap.size rfl [.int .i64 ok, .int .u64 key, .int .u64 val, .int .i64 lv] 50).perm (L' := boxI b (rav (10 + (kk : Int)) h n r) :: LU U (boxI w.heap.size [.int .i64 ok, .int .u64 key, .int .u64 val, .int .i64 lv] :: R)) (List.perm_middle (l₁ := [boxI b (rav (10 + (kk : Int)) h n r), _, _, _])).symm
  have rb := hE1.rule 0 rfl
  unfold rav at rb
  have HSL := Lib.hid (fun (v : World) => slot13_any h hh v)
  have HWR : Hid (∀ v, Env w0 (boxI b (rav (10 + (kk : Int)) h n r) :: LU U (boxI w.heap.size [.int .i64 ok, .int .u64 key, .int .u64 val, .int .i64 lv] :: R)) v → Calls Tryz.prog 153 #[.pointer (some ⟨b, 0, none⟩), .pointer (some ⟨U.u, 0, none⟩), .pointer (some ⟨U.m, 0, none⟩), .agg #[.int .i64 ok, .int .u64 key, .int .u64 val, .int .i64 lv]] v fun o w' => o = .returned (.int .i64 (lastS kk (wordsA U.ck U.ce key val (IntKind.u64.wrap lv)).length)) ∧ ∃ F5, Env w0 (boxI b (rav (10 + (kk : Int) + 1) h n r) :: LU { U with F := F5, ml := setL U.ml (5, U.hs, part) word } (boxI w.heap.size [.int .i64 ok, .int .u64 key, .int .u64 val, .int .i64 lv] :: R)) w') := Lib.hid fun v hv => rwriteS kk hk0 part word hpw he hml hv
  have hk : ∀ j : Int, 0 ≤ j → j < 7 → ((10 + (kk : Int)) == j) = false := fun j h0 h1 => by simp; omega
  have k1 := hk 1 (by decide) (by decide)
  have k2 := hk 2 (by decide) (by decide)
  have k3 := hk 3 (by decide) (by decide)
  have k4 := hk 4 (by decide) (by decide)
  have k5 := hk 5 (by decide) (by decide)
  have k6 := hk 6 (by decide) (by decide)
  clear hk
  clear hE hpw he
  go_enter Tryz.func108, Tryz.ntmps108
  go_wp2_with fail
  generalize w.alloc _ = w1 at *
  generalize w.heap.size = O at *
  refine (HSL.out _).mono ?_
  rintro o w2 ⟨rfl, hb⟩
  replace hE1 := hE1.over hb
  clear hb rb
  have rb := hE1.rule 0 rfl
  unfold rav at rb
  have rO := hE1.rule 4 rfl
  go_wp2_with fail
  refine (HWR.out _ hE1).mono ?_
  rintro o w3 ⟨rfl, F5, hE5⟩
  go_wp2_with fail
  go_ret
  exact ⟨rfl, F5, hE5.sub (.cons_cons _ (.cons_cons _ (.cons_cons _ (.cons_cons _ (.cons _ (List.Sublist.refl _))))))⟩
/-- The reference's Retire. -/
def rrv (s pc e : Int) : List Value := [.int .i64 s, .int .i64 pc, .int .u64 e]
variable {s e : Int}
set_option maxHeartbeats 1600000 in
theorem rret0 (x : Int) (hfx : getL U.ml (1, 0, 0) = x) (hml : U.ml.length ≤ 1000000) (hE : Env w0 (boxI b (rrv s 0 e) :: LU U R) w) :
    Calls Tryz.prog 138 #[.pointer (some ⟨b, 0, none⟩), .pointer (some ⟨U.u, 0, none⟩), .pointer (some ⟨U.m, 0, none⟩)] w fun o w' => o = .returned (.int .i64 0) ∧ Env w0 (boxI b (rrv s 1 x) :: LU U R) w' := by
  have rb := hE.rule 0 rfl
  unfold rrv at rb
  have HX := Lib.hid hfx
  clear hfx
  go_enter Tryz.func138, Tryz.ntmps138
  go_wp2_with fail
  refine (epoch13_any _).mono ?_
  rintro o w1 ⟨rfl, hb⟩
  replace hE := hE.over hb
  clear hb rb
  go_wp2_with fail
  refine (refGet_any 1 0 0 hml (hE.ref 3 rfl)).mono ?_
  rintro o w2 ⟨rfl, hb⟩
  rw [HX.out]
  replace hE := hE.over hb
  clear hb
  have rb := hE.rule 0 rfl
  unfold rrv at rb
  have f1 := hE.thaw 0 rfl 1 (by simp [rrv])
  have f2 := hE.thaw 0 rfl 2 (by simp [rrv])
  have hP := (hE.put 0 rfl (j := 2) (by simp [rrv]) (.int .u64 x)).put 0 rfl (j := 1) (by simp [rrv]) (.int .i64 1)
  go_wp2_with fail
  go_ret
  exact ⟨rfl, hP⟩
set_option maxHeartbeats 3200000 in
theorem rret1 (he : InU e) (hml : U.ml.length ≤ 1000000) (hl : U.ql.length ≤ 1000000) (hN : 0 ≤ U.N ∧ U.N ≤ 1099511627776) (hE : Env w0 (boxI b (rrv s 1 e) :: LU U R) w) :
    Calls Tryz.prog 138 #[.pointer (some ⟨b, 0, none⟩), .pointer (some ⟨U.u, 0, none⟩), .pointer (some ⟨U.m, 0, none⟩)] w fun o w' => o = .returned (.int .i64 1) ∧ ∃ F5 A' c', Env w0 (LU { U with F := F5, ml := setL U.ml (5, s, 1) (epI e), A := A', c := c', N := roomN (room0 U.N) (U.ql.length + 1), ql := U.ql ++ [(s, epI e, 0)] } R) w' := by
  have rb := hE.rule 0 rfl
  unfold rrv at rb
  have heu := he
  unfold InU at heu
  by_cases hlt : e < 9223372036854775808
  · have HEP : Hid (epI e = e) := Lib.hid (by unfold epI; rw [if_pos (by omega)])
    have hltb : decide (e < 9223372036854775808) = true := by simpa using hlt
    have hw1 : wrap64 e = e := w64 _ (by omega)
    have hw2 : IntKind.u64.wrap e = e := wrapU _ (by omega) (by omega)
    clear hlt heu he
    go_enter Tryz.func138, Tryz.ntmps138
    go_wp2_with fail
    refine (cell13_any _ _ _).mono ?_
    rintro o w1 ⟨rfl, hb⟩
    replace hE := hE.over hb
    clear hb rb
    go_wp2_with fail
    refine (refSet_any 5 s 1 e hml (hE.ref 3 rfl)).mono ?_
    rintro o w2 ⟨rfl, F5, hU, hs9⟩
    have hE2 : Env w0 (boxI b (rrv s 1 e) :: LU { U with F := F5, ml := setL U.ml (5, s, 1) e } R) w2 := hE.turnU 3 rfl hU hs9
    clear hU hs9 hE
    go_wp2_with fail
    refine Ord.wp_chain [9] (fun v => Blk 0 v b (rrv s 1 e)) (fun k w' => if k = 0 then Env w0 (boxI b (rrv s 1 e) :: LU { U with F := F5, ml := setL U.ml (5, s, 1) e } R) w' else ∃ A' c', Env w0 (boxI b (rrv s 1 e) :: LU { U with F := F5, ml := setL U.ml (5, s, 1) e, A := A', c := c', N := roomN (room0 U.N) (U.ql.length + 1), ql := U.ql ++ [(s, e, 0)] } R) w') (by kernel_rfl) (by kernel_rfl) (by kernel_rfl) (hE2.drew.get 0 rfl) (by rw [if_pos rfl]; exact hE2.drew) (fun hT => ?_)
    have hT9 := Lib.hid hT
    clear hT
    repeat (first
      | (refine Ord.ch_value (v := ?_) hT9.out (by decide) (by rfl) ?_ ?_; rotate_left; (focus (intro w5 hS; have r := hS.rule; unfold rrv at r; go_simp <;> with_reducible rfl)); (try simp only [Act.put, List.setIfInBounds_toArray, List.set_cons_zero, List.set_cons_succ]))
      | (refine Ord.ch_off hT9.out (by decide) (by rfl) ?_; (try simp only [Act.put, List.setIfInBounds_toArray, List.set_cons_zero, List.set_cons_succ])))
    refine Ord.ch_turn (v := .tuple #[]) 0 hT9.out rfl (by decide) (Or.inl rfl) (by rfl) ?_ ?_
    · rintro w5 hC5 hA5
      simp only [if_true] at hA5
      go_simp
      simp only [Ord.LandsIn]
      refine (refPush_at s e 0 6 1 hA5 rfl rfl rfl rfl hl hN).mono ?_
      rintro o w7 ⟨rfl, A7, c7, hE7⟩
      have hE8 : Env w0 (boxI b (rrv s 1 e) :: LU { U with F := F5, ml := setL U.ml (5, s, 1) e, A := A7, c := c7, N := roomN (room0 U.N) (U.ql.length + 1), ql := U.ql ++ [(s, e, 0)] } R) w7 := by
        have hq : (U.ql ++ [(s, e, (0 : Int))]).length = U.ql.length + 1 := by simp
        unfold LU
        rw [hq]
        exact hE7
      exact ⟨rfl, hE8.get 0 rfl, A7, c7, hE8⟩
    (try simp only [Act.put, List.setIfInBounds_toArray, List.set_cons_zero, List.set_cons_succ])
    repeat (first
      | (refine Ord.ch_value (v := ?_) hT9.out (by decide) (by rfl) ?_ ?_; rotate_left; (focus (intro w5 hS; skip; go_simp <;> with_reducible rfl)); (try simp only [Act.put, List.setIfInBounds_toArray, List.set_cons_zero, List.set_cons_succ]))
      | (refine Ord.ch_off hT9.out (by decide) (by rfl) ?_; (try simp only [Act.put, List.setIfInBounds_toArray, List.set_cons_zero, List.set_cons_succ])))
    refine Ord.InText.nil fun w5 hS => ?_
    clear hT9
    obtain ⟨hC9, hA9⟩ := Ord.chain_end hS
    clear hS
    rw [if_neg (by decide)] at hA9
    obtain ⟨A7, c7, hE8⟩ := hA9
    clear hC9 hE2
    go_wp2_with fail
    go_ret
    rw [HEP.out]
    exact ⟨rfl, F5, A7, c7, hE8.sub (.cons _ (List.Sublist.refl _))⟩
  · have HEP : Hid (epI e = 0) := Lib.hid (by unfold epI; rw [if_neg (by omega)])
    have hltb : decide (e < 9223372036854775808) = false := by simpa using hlt
    clear hlt heu he
    go_enter Tryz.func138, Tryz.ntmps138
    go_wp2_with fail
    refine (cell13_any _ _ _).mono ?_
    rintro o w1 ⟨rfl, hb⟩
    replace hE := hE.over hb
    clear hb rb
    go_wp2_with fail
    refine (refSet_any 5 s 1 0 hml (hE.ref 3 rfl)).mono ?_
    rintro o w2 ⟨rfl, F5, hU, hs9⟩
    have hE2 : Env w0 (boxI b (rrv s 1 e) :: LU { U with F := F5, ml := setL U.ml (5, s, 1) 0 } R) w2 := hE.turnU 3 rfl hU hs9
    clear hU hs9 hE
    go_wp2_with fail
    refine Ord.wp_chain [9] (fun v => Blk 0 v b (rrv s 1 e)) (fun k w' => if k = 0 then Env w0 (boxI b (rrv s 1 e) :: LU { U with F := F5, ml := setL U.ml (5, s, 1) 0 } R) w' else ∃ A' c', Env w0 (boxI b (rrv s 1 e) :: LU { U with F := F5, ml := setL U.ml (5, s, 1) 0, A := A', c := c', N := roomN (room0 U.N) (U.ql.length + 1), ql := U.ql ++ [(s, 0, 0)] } R) w') (by kernel_rfl) (by kernel_rfl) (by kernel_rfl) (hE2.drew.get 0 rfl) (by rw [if_pos rfl]; exact hE2.drew) (fun hT => ?_)
    have hT9 := Lib.hid hT
    clear hT
    repeat (first
      | (refine Ord.ch_value (v := ?_) hT9.out (by decide) (by rfl) ?_ ?_; rotate_left; (focus (intro w5 hS; have r := hS.rule; unfold rrv at r; go_simp <;> with_reducible rfl)); (try simp only [Act.put, List.setIfInBounds_toArray, List.set_cons_zero, List.set_cons_succ]))
      | (refine Ord.ch_off hT9.out (by decide) (by rfl) ?_; (try simp only [Act.put, List.setIfInBounds_toArray, List.set_cons_zero, List.set_cons_succ])))
    refine Ord.ch_turn (v := .tuple #[]) 0 hT9.out rfl (by decide) (Or.inl rfl) (by rfl) ?_ ?_
    · rintro w5 hC5 hA5
      simp only [if_true] at hA5
      go_simp
      simp only [Ord.LandsIn]
      refine (refPush_at s 0 0 6 1 hA5 rfl rfl rfl rfl hl hN).mono ?_
      rintro o w7 ⟨rfl, A7, c7, hE7⟩
      have hE8 : Env w0 (boxI b (rrv s 1 e) :: LU { U with F := F5, ml := setL U.ml (5, s, 1) 0, A := A7, c := c7, N := roomN (room0 U.N) (U.ql.length + 1), ql := U.ql ++ [(s, 0, 0)] } R) w7 := by
        have hq : (U.ql ++ [(s, 0, (0 : Int))]).length = U.ql.length + 1 := by simp
        unfold LU
        rw [hq]
        exact hE7
      exact ⟨rfl, hE8.get 0 rfl, A7, c7, hE8⟩
    (try simp only [Act.put, List.setIfInBounds_toArray, List.set_cons_zero, List.set_cons_succ])
    repeat (first
      | (refine Ord.ch_value (v := ?_) hT9.out (by decide) (by rfl) ?_ ?_; rotate_left; (focus (intro w5 hS; skip; go_simp <;> with_reducible rfl)); (try simp only [Act.put, List.setIfInBounds_toArray, List.set_cons_zero, List.set_cons_succ]))
      | (refine Ord.ch_off hT9.out (by decide) (by rfl) ?_; (try simp only [Act.put, List.setIfInBounds_toArray, List.set_cons_zero, List.set_cons_succ])))
    refine Ord.InText.nil fun w5 hS => ?_
    clear hT9
    obtain ⟨hC9, hA9⟩ := Ord.chain_end hS
    clear hS
    rw [if_neg (by decide)] at hA9
    obtain ⟨A7, c7, hE8⟩ := hA9
    clear hC9 hE2
    go_wp2_with fail
    go_ret
    rw [HEP.out]
    exact ⟨rfl, F5, A7, c7, hE8.sub (.cons _ (List.Sublist.refl _))⟩

/-- The reference's Give. -/
def rgv (pc h g : Int) : List Value := [.int .i64 pc, .int .u64 h, .int .i64 g]
variable {pc g : Int}
set_option maxHeartbeats 1600000 in
theorem rnext_g (hE : Env w0 (boxI b (rgv pc h g) :: LU U R) w) :
    Calls Tryz.prog 95 #[.pointer (some ⟨b, 0, none⟩), .pointer (some ⟨U.u, 0, none⟩)] w fun o w' => o = .returned (.int .i64 (gdS U.ql)) ∧ Env w0 (boxI b (rgv 1 h g) :: LU U R) w' := by
  have rb := hE.rule 0 rfl
  unfold rgv at rb
  have f0 := hE.thaw 0 rfl 0 (by simp [rgv])
  have hP : Env w0 (boxI b (rgv 1 h g) :: LU U R) _ := hE.put 0 rfl (j := 0) (by simp [rgv]) (.int .i64 1)
  have ru := hP.rule 1 rfl
  unfold urv at ru
  rcases hq : U.ql with _ | ⟨x, t⟩
  · simp only [hq, List.length_nil] at ru
    clear hq
    go_enter Tryz.func95, Tryz.ntmps95
    go_wp2_with fail
    go_ret
    exact ⟨rfl, hP⟩
  · have hl : (((x :: t).length : Int) == 0) = false := by simp; omega
    simp only [hq] at ru
    generalize (x :: t).length = N at *
    clear hq
    go_enter Tryz.func95, Tryz.ntmps95
    go_wp2_with fail
    go_ret
    exact ⟨rfl, hP⟩
set_option maxHeartbeats 1600000 in
theorem rgive0 (x : Int) (hfx : getL U.ml (1, 0, 0) = x) (hxu : InU x) (hml : U.ml.length ≤ 1000000) (hE : Env w0 (boxI b (rgv 0 h g) :: LU U R) w) :
    Calls Tryz.prog 59 #[.pointer (some ⟨b, 0, none⟩), .pointer (some ⟨U.u, 0, none⟩), .pointer (some ⟨U.m, 0, none⟩)] w fun o w' => o = .returned (.int .i64 (gdS U.ql)) ∧ Env w0 (boxI b (rgv 1 h g) :: LU { U with ce := epI x } R) w' := by
  have rb := hE.rule 0 rfl
  unfold rgv at rb
  go_enter Tryz.func59, Tryz.ntmps59
  go_wp2_with fail
  refine (rcheck_w x hfx hxu hml 1 3 hE rfl rfl).mono ?_
  rintro o w1 ⟨rfl, hE1⟩
  go_wp2_with fail
  refine (rnext_g (U := { U with ce := epI x }) hE1).mono ?_
  rintro o w2 ⟨rfl, hE2⟩
  go_wp2_with fail
  go_ret
  exact ⟨rfl, hE2⟩
set_option maxHeartbeats 1600000 in
theorem rgive1 (x : Int) (hfx : getL U.ml (2, 0, 0) = x) (hxu : InU x) (hml : U.ml.length ≤ 1000000) (hE : Env w0 (boxI b (rgv 1 h g) :: LU U R) w) :
    Calls Tryz.prog 59 #[.pointer (some ⟨b, 0, none⟩), .pointer (some ⟨U.u, 0, none⟩), .pointer (some ⟨U.m, 0, none⟩)] w fun o w' => o = .returned (.int .i64 (poolG x U.cl)) ∧ ∃ pc', (poolG x U.cl = 0 → pc' = 2) ∧ Env w0 (boxI b (rgv pc' x g) :: LU U R) w' := by
  have rb := hE.rule 0 rfl
  unfold rgv at rb
  have HX := Lib.hid hfx
  have hvx := fun (v : World) => ver14_any x hxu v
  obtain ⟨y, hy⟩ : ∃ y, verI x = y := ⟨_, rfl⟩
  simp only [hy] at hvx
  have HVX := Lib.hid hvx
  have HY := Lib.hid hy
  clear hvx hfx hxu hy
  by_cases hv : U.cl ≤ y
  all_goals
    have HV := Lib.hid hv
    first
      | (have hvb : decide (U.cl ≤ y) = true := by simpa using hv)
      | (have hvb : decide (U.cl ≤ y) = false := by simpa using hv)
    clear hv
    go_enter Tryz.func59, Tryz.ntmps59
    go_wp2_with fail
    refine (pool14_any _).mono ?_
    rintro o w1 ⟨rfl, hb⟩
    replace hE := hE.over hb
    clear hb rb
    go_wp2_with fail
    refine (refGet_any 2 0 0 hml (hE.ref 3 rfl)).mono ?_
    rintro o w2 ⟨rfl, hb⟩
    rw [HX.out]
    replace hE := hE.over hb
    clear hb
    have f1 := hE.thaw 0 rfl 1 (by simp [rgv])
    have rb := hE.rule 0 rfl
    unfold rgv at rb
    have hE2 : Env w0 (boxI b (rgv 1 x g) :: LU U R) (w2.setCell ⟨b, 1, none⟩ (.int .u64 x)) := hE.put 0 rfl (j := 1) (by simp [rgv]) (.int .u64 x)
    go_wp2_with fail
    clear rb f1 hE
    generalize w2.setCell _ _ = w9 at *
    refine wp_text (S := (Env w0 (boxI b (rgv 1 x g) :: LU U R))) (by kernel_rfl) (by kernel_rfl) hE2.drew (fun hT => ?_)
    have hT9 := Lib.hid hT
    clear hT
    repeat (first
      | (refine text_value (v := ?_) hT9.out (by rfl) ?_ ?_; rotate_left; (focus (intro w5 hS; have rb := hS.rule 0 rfl; unfold rgv at rb; have ru := hS.rule 1 rfl; unfold urv at ru; go_simp <;> with_reducible rfl)); (try simp only [Act.put, List.setIfInBounds_toArray, List.set_cons_zero, List.set_cons_succ]))
      | (refine text_off hT9.out (by rfl) ?_; (try simp only [Act.put, List.setIfInBounds_toArray, List.set_cons_zero, List.set_cons_succ]))
      | (refine text_call (v := ?_) (f := ?_) (args := ?_) hT9.out (by rfl) ?_ ?_ ?_; rotate_left 3; (focus (intro w5 hS; have rb := hS.rule 0 rfl; unfold rgv at rb; have ru := hS.rule 1 rfl; unfold urv at ru; go_simp; constructor <;> with_reducible rfl)); (focus (intro w5 hS; (first | (with_reducible refine (HVX.out _).mono ?_; rintro o w6 ⟨rfl, hb6⟩; constructor; with_reducible rfl; exact hS.over hb6)))); (try simp only [Act.put, List.setIfInBounds_toArray, List.set_cons_zero, List.set_cons_succ])))
    refine InText.nil fun w5 hS5 => ?_
    clear hT9
    clear hE2
    have rb := hS5.rule 0 rfl
    unfold rgv at rb
    have f0 := hS5.thaw 0 rfl 0 (by simp [rgv])
    have hP := hS5.put 0 rfl (j := 0) (by simp [rgv]) (.int .i64 2)
    go_wp2_with fail
    go_ret
    first
      | (have hp : poolG x U.cl = 4 := by unfold poolG; rw [HY.out, if_pos HV.out]
         rw [hp]
         exact ⟨rfl, 1, fun h => absurd h (by decide), hS5⟩)
      | (have hp : poolG x U.cl = 0 := by unfold poolG; rw [HY.out, if_neg (by have := HV.out; omega)]
         rw [hp]
         exact ⟨rfl, 2, fun _ => rfl, hP⟩)
set_option maxHeartbeats 3200000 in
theorem rgive2 (x y : Int) (t : List Trip) (hql : U.ql = (x, y, 0) :: t) (hh : InU h) (hml : U.ml.length ≤ 1000000) (hE : Env w0 (boxI b (rgv 2 h g) :: LU U R) w) :
    Calls Tryz.prog 59 #[.pointer (some ⟨b, 0, none⟩), .pointer (some ⟨U.u, 0, none⟩), .pointer (some ⟨U.m, 0, none⟩)] w fun o w' => o = .returned (.int .i64 0) ∧ ∃ F5, Env w0 (boxI b (rgv 3 h g) :: LU { U with F := F5, ml := setL U.ml (5, x, 2) (wordI false (slotI h) 0) } R) w' := by
  have hr : (boxI b (rgv 2 h g) :: LU U R)[2]? = some (rrI U.A U.c ((x, y, 0) :: t)) := by rw [← hql]; rfl
  obtain ⟨gg, off, hA, hc⟩ := first_row 2 hr hE
  have hlt : decide ((0 : Int) < ((((x, y, (0 : Int)) :: t).length : Nat) : Int)) = true := by simp
  have hln : 0 < ((x, y, (0 : Int)) :: t).length := by simp
  have hne : (((x, y, (0 : Int)) :: t).length = 0) = False := by simp
  have huv : urv U.ck U.cs U.cb U.ch U.cl U.ce U.A U.ql.length U.c U.N U.hs U.ro = [.int .i64 U.ck, .int .i64 U.cs, .int .i64 U.cb, .int .i64 U.ch, .int .i64 U.cl, .int .i64 U.ce, .slice (some ⟨gg, off, none⟩) ((x, y, (0 : Int)) :: t).length U.c, .int .i64 U.N, .int .i64 U.hs, .int .i64 U.ro] := by
    unfold urv
    rw [hA, hql]
  have hfl : ∀ v L, Env w0 L v → L[2]? = some (rrI U.A U.c ((x, y, 0) :: t)) → Lie v gg off (.int .i64 x) := fun v L hv hr => by
    rcases hv.cells3 2 rfl hr with h0 | ⟨b', off', he, hlt, hc⟩
    · cases h0
    · rw [hA] at he
      cases he
      have := at3 (hc 0 (by simp))
      exact ⟨hlt, by simpa using this.1⟩
  have HFL := Lib.hid hfl
  have HR := Lib.hid hr
  have hsn := fun (v : World) => slot13_any h hh v
  have hwd := fun (v : World) => refWord_any false (slotI h) 0 v
  obtain ⟨y9, hy⟩ : ∃ y, wordI false (slotI h) 0 = y := ⟨_, rfl⟩
  rw [hy]
  simp only [hy] at hwd
  obtain ⟨sl, hsl⟩ : ∃ s, slotI h = s := ⟨_, rfl⟩
  simp only [hsl] at hsn hwd
  have HSN := Lib.hid hsn
  have HWD := Lib.hid hwd
  clear hsn hwd hy hsl hh
  generalize ((x, y, (0 : Int)) :: t).length = NN at *
  have HUV := Lib.hid huv
  have HQ := Lib.hid hql
  clear hql hr hc hfl hA huv
  have rb := hE.rule 0 rfl
  unfold rgv at rb
  go_enter Tryz.func59, Tryz.ntmps59
  go_wp2_with fail
  refine Ord.wp_chain [17] (fun v => Blk 0 v U.u (urv U.ck U.cs U.cb U.ch U.cl U.ce U.A U.ql.length U.c U.N U.hs U.ro) ∧ Blk 0 v b (rgv 2 h g) ∧ Lie v gg off (.int .i64 x)) (fun k w' => ∃ F5, Env w0 (boxI b (rgv 2 h g) :: LU (if k = 0 then U else { U with F := F5, ml := setL U.ml (5, x, 2) y9 }) R) w') (by kernel_rfl) (by kernel_rfl) (by kernel_rfl) ⟨hE.drew.get 1 rfl, hE.drew.get 0 rfl, HFL.out _ _ hE.drew HR.out⟩ ⟨U.F, hE.drew⟩ (fun hT => ?_)
  have hT9 := Lib.hid hT
  clear hT
  repeat (first
    | (refine Ord.ch_value (v := ?_) hT9.out (by decide) (by rfl) ?_ ?_; rotate_left; (focus (intro w5 hS; have ru := hS.1.rule; simp only [HUV.out] at ru; have rb := hS.2.1.rule; unfold rgv at rb; have rc := hS.2.2.2; go_simp <;> with_reducible rfl)); (try simp only [Act.put, List.setIfInBounds_toArray, List.set_cons_zero, List.set_cons_succ]))
    | (refine Ord.ch_off hT9.out (by decide) (by rfl) ?_; (try simp only [Act.put, List.setIfInBounds_toArray, List.set_cons_zero, List.set_cons_succ]))
    | (refine Ord.ch_call (v := ?_) (f := ?_) (args := ?_) hT9.out (by decide) (by rfl) ?_ ?_ ?_; rotate_left 3; (focus (intro w5 hS; have ru := hS.1.rule; simp only [HUV.out] at ru; have rb := hS.2.1.rule; unfold rgv at rb; have rc := hS.2.2.2; go_simp; constructor <;> with_reducible rfl)); (focus (intro w5 hS; (first | (with_reducible refine (cell13_any _ _ _).mono ?_; rintro e w6 ⟨rfl, hb6⟩; constructor; with_reducible rfl; exact ⟨⟨hS.1.under hb6, hS.2.1.under hb6, hS.2.2.under hb6⟩, fun k h => h.elim fun F5 h => ⟨F5, h.over hb6⟩⟩) | (with_reducible refine (HSN.out _).mono ?_; rintro e w6 ⟨rfl, hb6⟩; constructor; with_reducible rfl; exact ⟨⟨hS.1.under hb6, hS.2.1.under hb6, hS.2.2.under hb6⟩, fun k h => h.elim fun F5 h => ⟨F5, h.over hb6⟩⟩) | (with_reducible refine (HWD.out _).mono ?_; rintro e w6 ⟨rfl, hb6⟩; constructor; with_reducible rfl; exact ⟨⟨hS.1.under hb6, hS.2.1.under hb6, hS.2.2.under hb6⟩, fun k h => h.elim fun F5 h => ⟨F5, h.over hb6⟩⟩)))); (try simp only [Act.put, List.setIfInBounds_toArray, List.set_cons_zero, List.set_cons_succ])))
  refine Ord.ch_turn (v := .tuple #[]) 0 hT9.out rfl (by decide) (Or.inl rfl) (by rfl) ?_ ?_
  · rintro w5 hC5 ⟨F5, hA5⟩
    simp only [if_true] at hA5
    go_simp
    simp only [Ord.LandsIn]
    refine (refSet_any 5 x 2 y9 hml (hA5.ref 3 rfl)).mono ?_
    rintro e w6 ⟨rfl, F6, hU, hs9⟩
    have hE6 := hA5.turnU 3 rfl hU hs9
    exact ⟨rfl, ⟨hE6.get 1 rfl, hE6.get 0 rfl, HFL.out _ _ hE6 (by rw [← HQ.out]; rfl)⟩, F6, hE6⟩
  (try simp only [Act.put, List.setIfInBounds_toArray, List.set_cons_zero, List.set_cons_succ])
  repeat (first
    | (refine Ord.ch_value (v := ?_) hT9.out (by decide) (by rfl) ?_ ?_; rotate_left; (focus (intro w5 hS; skip; go_simp <;> with_reducible rfl)); (try simp only [Act.put, List.setIfInBounds_toArray, List.set_cons_zero, List.set_cons_succ]))
    | (refine Ord.ch_off hT9.out (by decide) (by rfl) ?_; (try simp only [Act.put, List.setIfInBounds_toArray, List.set_cons_zero, List.set_cons_succ])))
  refine Ord.InText.nil fun w5 hS => ?_
  clear hT9
  obtain ⟨hC9, hA9⟩ := Ord.chain_end hS
  clear hS
  obtain ⟨F9, hA9⟩ := hA9
  simp only [List.length_cons, List.length_nil, Nat.zero_add, Nat.one_ne_zero, if_false] at hA9
  clear hC9 hE rb
  have rb := hA9.rule 0 rfl
  unfold rgv at rb
  have f0 := hA9.thaw 0 rfl 0 (by simp [rgv])
  have hP := hA9.put 0 rfl (j := 0) (by simp [rgv]) (.int .i64 3)
  go_wp2_with fail
  go_ret
  exact ⟨rfl, F9, hP⟩
set_option maxHeartbeats 3200000 in
theorem rgive3No (x y : Int) (t : List Trip) (hql : U.ql = (x, y, 0) :: t) (hfx : getL U.ml (2, 0, 0) ≠ h) (hh : InU h) (hml : U.ml.length ≤ 1000000) (hE : Env w0 (boxI b (rgv 3 h g) :: LU U R) w) :
    Calls Tryz.prog 59 #[.pointer (some ⟨b, 0, none⟩), .pointer (some ⟨U.u, 0, none⟩), .pointer (some ⟨U.m, 0, none⟩)] w fun o w' => o = .returned (.int .i64 0) ∧ ∃ F5, Env w0 (boxI b (rgv 1 h g) :: LU { U with F := F5, ml := swL U.ml (2, 0, 0) h (wordI false x (verI h + 1)) } R) w' := by
  have hr : (boxI b (rgv 3 h g) :: LU U R)[2]? = some (rrI U.A U.c ((x, y, 0) :: t)) := by rw [← hql]; rfl
  obtain ⟨gg, off, hA, hc⟩ := first_row 2 hr hE
  have hlt : decide ((0 : Int) < ((((x, y, (0 : Int)) :: t).length : Nat) : Int)) = true := by simp
  have hln : 0 < ((x, y, (0 : Int)) :: t).length := by simp
  have hne : (((x, y, (0 : Int)) :: t).length = 0) = False := by simp
  have huv : urv U.ck U.cs U.cb U.ch U.cl U.ce U.A U.ql.length U.c U.N U.hs U.ro = [.int .i64 U.ck, .int .i64 U.cs, .int .i64 U.cb, .int .i64 U.ch, .int .i64 U.cl, .int .i64 U.ce, .slice (some ⟨gg, off, none⟩) ((x, y, (0 : Int)) :: t).length U.c, .int .i64 U.N, .int .i64 U.hs, .int .i64 U.ro] := by
    unfold urv
    rw [hA, hql]
  have hfl : ∀ v L, Env w0 L v → L[2]? = some (rrI U.A U.c ((x, y, 0) :: t)) → Lie v gg off (.int .i64 x) := fun v L hv hr => by
    rcases hv.cells3 2 rfl hr with h0 | ⟨b', off', he, hlt, hc⟩
    · cases h0
    · rw [hA] at he
      cases he
      have := at3 (hc 0 (by simp))
      exact ⟨hlt, by simpa using this.1⟩
  have HFL := Lib.hid hfl
  have HR := Lib.hid hr
  have HD : Hid (decide (getL U.ml (2, 0, 0) = h) = false) := Lib.hid (by simpa using hfx)
  have hbh := fun (v : World) => behind14_any h x hh v
  obtain ⟨y9, hy⟩ : ∃ y, wordI false x (verI h + 1) = y := ⟨_, rfl⟩
  rw [hy]
  simp only [hy] at hbh
  have HBH := Lib.hid hbh
  clear hbh hy hh hfx
  generalize ((x, y, (0 : Int)) :: t).length = NN at *
  have HUV := Lib.hid huv
  have HQ := Lib.hid hql
  clear hql hr hc hfl hA huv
  have rb := hE.rule 0 rfl
  unfold rgv at rb
  go_enter Tryz.func59, Tryz.ntmps59
  go_wp2_with fail
  refine Ord.wp_chain [19] (fun v => Blk 0 v U.u (urv U.ck U.cs U.cb U.ch U.cl U.ce U.A U.ql.length U.c U.N U.hs U.ro) ∧ Blk 0 v b (rgv 3 h g) ∧ Lie v gg off (.int .i64 x)) (fun k w' => ∃ F5, Env w0 (boxI b (rgv 3 h g) :: LU (if k = 0 then U else { U with F := F5, ml := swL U.ml (2, 0, 0) h y9 }) R) w') (by kernel_rfl) (by kernel_rfl) (by kernel_rfl) ⟨hE.drew.get 1 rfl, hE.drew.get 0 rfl, HFL.out _ _ hE.drew HR.out⟩ ⟨U.F, hE.drew⟩ (fun hT => ?_)
  have hT9 := Lib.hid hT
  clear hT
  repeat (first
    | (refine Ord.ch_value (v := ?_) hT9.out (by decide) (by rfl) ?_ ?_; rotate_left; (focus (intro w5 hS; have ru := hS.1.rule; simp only [HUV.out] at ru; have rb := hS.2.1.rule; unfold rgv at rb; have rc := hS.2.2.2; go_simp <;> with_reducible rfl)); (try simp only [Act.put, List.setIfInBounds_toArray, List.set_cons_zero, List.set_cons_succ]))
    | (refine Ord.ch_off hT9.out (by decide) (by rfl) ?_; (try simp only [Act.put, List.setIfInBounds_toArray, List.set_cons_zero, List.set_cons_succ]))
    | (refine Ord.ch_call (v := ?_) (f := ?_) (args := ?_) hT9.out (by decide) (by rfl) ?_ ?_ ?_; rotate_left 3; (focus (intro w5 hS; have ru := hS.1.rule; simp only [HUV.out] at ru; have rb := hS.2.1.rule; unfold rgv at rb; have rc := hS.2.2.2; go_simp; constructor <;> with_reducible rfl)); (focus (intro w5 hS; (first | (with_reducible refine (pool14_any _).mono ?_; rintro e w6 ⟨rfl, hb6⟩; constructor; with_reducible rfl; exact ⟨⟨hS.1.under hb6, hS.2.1.under hb6, hS.2.2.under hb6⟩, fun k h => h.elim fun F5 h => ⟨F5, h.over hb6⟩⟩) | (with_reducible refine (HBH.out _).mono ?_; rintro e w6 ⟨rfl, hb6⟩; constructor; with_reducible rfl; exact ⟨⟨hS.1.under hb6, hS.2.1.under hb6, hS.2.2.under hb6⟩, fun k h => h.elim fun F5 h => ⟨F5, h.over hb6⟩⟩)))); (try simp only [Act.put, List.setIfInBounds_toArray, List.set_cons_zero, List.set_cons_succ])))
  refine Ord.ch_turn (v := .bool false) 0 hT9.out rfl (by decide) (Or.inl rfl) (by rfl) ?_ ?_
  · rintro w5 hC5 ⟨F5, hA5⟩
    simp only [if_true] at hA5
    go_simp
    simp only [Ord.LandsIn]
    have hsw := refSwap_any 2 0 0 h y9 hml (hA5.ref 3 rfl)
    rw [HD.out] at hsw
    refine hsw.mono ?_
    rintro e w6 ⟨rfl, F6, hU, hs9⟩
    have hE6 := hA5.turnU 3 rfl hU hs9
    exact ⟨rfl, ⟨hE6.get 1 rfl, hE6.get 0 rfl, HFL.out _ _ hE6 (by rw [← HQ.out]; rfl)⟩, F6, hE6⟩
  (try simp only [Act.put, List.setIfInBounds_toArray, List.set_cons_zero, List.set_cons_succ])
  repeat (first
    | (refine Ord.ch_value (v := ?_) hT9.out (by decide) (by rfl) ?_ ?_; rotate_left; (focus (intro w5 hS; skip; go_simp <;> with_reducible rfl)); (try simp only [Act.put, List.setIfInBounds_toArray, List.set_cons_zero, List.set_cons_succ]))
    | (refine Ord.ch_off hT9.out (by decide) (by rfl) ?_; (try simp only [Act.put, List.setIfInBounds_toArray, List.set_cons_zero, List.set_cons_succ])))
  refine Ord.InText.nil fun w5 hS => ?_
  clear hT9
  obtain ⟨hC9, hA9⟩ := Ord.chain_end hS
  clear hS
  obtain ⟨F9, hA9⟩ := hA9
  simp only [List.length_cons, List.length_nil, Nat.zero_add, Nat.one_ne_zero, if_false] at hA9
  clear hC9 hE rb
  have rb := hA9.rule 0 rfl
  unfold rgv at rb
  have f0 := hA9.thaw 0 rfl 0 (by simp [rgv])
  have hP := hA9.put 0 rfl (j := 0) (by simp [rgv]) (.int .i64 1)
  go_wp2_with fail
  go_ret
  exact ⟨rfl, F9, hP⟩
set_option maxHeartbeats 3200000 in
theorem rgive3Yes (x y : Int) (t : List Trip) (hql : U.ql = (x, y, 0) :: t) (hfx : getL U.ml (2, 0, 0) = h) (hl : t.length ≤ 1000000) (hh : InU h) (hml : U.ml.length ≤ 1000000) (hE : Env w0 (boxI b (rgv 3 h g) :: LU U R) w) :
    Calls Tryz.prog 59 #[.pointer (some ⟨b, 0, none⟩), .pointer (some ⟨U.u, 0, none⟩), .pointer (some ⟨U.m, 0, none⟩)] w fun o w' => o = .returned (.int .i64 (gdS t)) ∧ ∃ F5 A' c', Env w0 (boxI b (rgv 1 h (wrap64 (g + 1))) :: LU { U with F := F5, ml := swL U.ml (2, 0, 0) h (wordI false x (verI h + 1)), ql := t, A := A', c := c' } R) w' := by
  have hr : (boxI b (rgv 3 h g) :: LU U R)[2]? = some (rrI U.A U.c ((x, y, 0) :: t)) := by rw [← hql]; rfl
  obtain ⟨gg, off, hA, hc⟩ := first_row 2 hr hE
  have hlt : decide ((0 : Int) < ((((x, y, (0 : Int)) :: t).length : Nat) : Int)) = true := by simp
  have hln : 0 < ((x, y, (0 : Int)) :: t).length := by simp
  have hne : (((x, y, (0 : Int)) :: t).length = 0) = False := by simp
  have huv : urv U.ck U.cs U.cb U.ch U.cl U.ce U.A U.ql.length U.c U.N U.hs U.ro = [.int .i64 U.ck, .int .i64 U.cs, .int .i64 U.cb, .int .i64 U.ch, .int .i64 U.cl, .int .i64 U.ce, .slice (some ⟨gg, off, none⟩) ((x, y, (0 : Int)) :: t).length U.c, .int .i64 U.N, .int .i64 U.hs, .int .i64 U.ro] := by
    unfold urv
    rw [hA, hql]
  have hfl : ∀ v L, Env w0 L v → L[2]? = some (rrI U.A U.c ((x, y, 0) :: t)) → Lie v gg off (.int .i64 x) := fun v L hv hr => by
    rcases hv.cells3 2 rfl hr with h0 | ⟨b', off', he, hlt, hc⟩
    · cases h0
    · rw [hA] at he
      cases he
      have := at3 (hc 0 (by simp))
      exact ⟨hlt, by simpa using this.1⟩
  have HFL := Lib.hid hfl
  have HR := Lib.hid hr
  have HD : Hid (decide (getL U.ml (2, 0, 0) = h) = true) := Lib.hid (by rw [hfx]; simp)
  have hbh := fun (v : World) => behind14_any h x hh v
  obtain ⟨y9, hy⟩ : ∃ y, wordI false x (verI h + 1) = y := ⟨_, rfl⟩
  rw [hy]
  simp only [hy] at hbh
  have HBH := Lib.hid hbh
  clear hbh hy hh hfx
  generalize ((x, y, (0 : Int)) :: t).length = NN at *
  have HUV := Lib.hid huv
  have HQ := Lib.hid hql
  clear hql hr hc hfl hA huv
  have rb := hE.rule 0 rfl
  unfold rgv at rb
  go_enter Tryz.func59, Tryz.ntmps59
  go_wp2_with fail
  refine Ord.wp_chain [19] (fun v => Blk 0 v U.u (urv U.ck U.cs U.cb U.ch U.cl U.ce U.A U.ql.length U.c U.N U.hs U.ro) ∧ Blk 0 v b (rgv 3 h g) ∧ Lie v gg off (.int .i64 x)) (fun k w' => ∃ F5, Env w0 (boxI b (rgv 3 h g) :: LU (if k = 0 then U else { U with F := F5, ml := swL U.ml (2, 0, 0) h y9 }) R) w') (by kernel_rfl) (by kernel_rfl) (by kernel_rfl) ⟨hE.drew.get 1 rfl, hE.drew.get 0 rfl, HFL.out _ _ hE.drew HR.out⟩ ⟨U.F, hE.drew⟩ (fun hT => ?_)
  have hT9 := Lib.hid hT
  clear hT
  repeat (first
    | (refine Ord.ch_value (v := ?_) hT9.out (by decide) (by rfl) ?_ ?_; rotate_left; (focus (intro w5 hS; have ru := hS.1.rule; simp only [HUV.out] at ru; have rb := hS.2.1.rule; unfold rgv at rb; have rc := hS.2.2.2; go_simp <;> with_reducible rfl)); (try simp only [Act.put, List.setIfInBounds_toArray, List.set_cons_zero, List.set_cons_succ]))
    | (refine Ord.ch_off hT9.out (by decide) (by rfl) ?_; (try simp only [Act.put, List.setIfInBounds_toArray, List.set_cons_zero, List.set_cons_succ]))
    | (refine Ord.ch_call (v := ?_) (f := ?_) (args := ?_) hT9.out (by decide) (by rfl) ?_ ?_ ?_; rotate_left 3; (focus (intro w5 hS; have ru := hS.1.rule; simp only [HUV.out] at ru; have rb := hS.2.1.rule; unfold rgv at rb; have rc := hS.2.2.2; go_simp; constructor <;> with_reducible rfl)); (focus (intro w5 hS; (first | (with_reducible refine (pool14_any _).mono ?_; rintro e w6 ⟨rfl, hb6⟩; constructor; with_reducible rfl; exact ⟨⟨hS.1.under hb6, hS.2.1.under hb6, hS.2.2.under hb6⟩, fun k h => h.elim fun F5 h => ⟨F5, h.over hb6⟩⟩) | (with_reducible refine (HBH.out _).mono ?_; rintro e w6 ⟨rfl, hb6⟩; constructor; with_reducible rfl; exact ⟨⟨hS.1.under hb6, hS.2.1.under hb6, hS.2.2.under hb6⟩, fun k h => h.elim fun F5 h => ⟨F5, h.over hb6⟩⟩)))); (try simp only [Act.put, List.setIfInBounds_toArray, List.set_cons_zero, List.set_cons_succ])))
  refine Ord.ch_turn (v := .bool true) 0 hT9.out rfl (by decide) (Or.inl rfl) (by rfl) ?_ ?_
  · rintro w5 hC5 ⟨F5, hA5⟩
    simp only [if_true] at hA5
    go_simp
    simp only [Ord.LandsIn]
    have hsw := refSwap_any 2 0 0 h y9 hml (hA5.ref 3 rfl)
    rw [HD.out] at hsw
    refine hsw.mono ?_
    rintro e w6 ⟨rfl, F6, hU, hs9⟩
    have hE6 := hA5.turnU 3 rfl hU hs9
    exact ⟨rfl, ⟨hE6.get 1 rfl, hE6.get 0 rfl, HFL.out _ _ hE6 (by rw [← HQ.out]; rfl)⟩, F6, hE6⟩
  (try simp only [Act.put, List.setIfInBounds_toArray, List.set_cons_zero, List.set_cons_succ])
  repeat (first
    | (refine Ord.ch_value (v := ?_) hT9.out (by decide) (by rfl) ?_ ?_; rotate_left; (focus (intro w5 hS; skip; go_simp <;> with_reducible rfl)); (try simp only [Act.put, List.setIfInBounds_toArray, List.set_cons_zero, List.set_cons_succ]))
    | (refine Ord.ch_off hT9.out (by decide) (by rfl) ?_; (try simp only [Act.put, List.setIfInBounds_toArray, List.set_cons_zero, List.set_cons_succ])))
  refine Ord.InText.nil fun w5 hS => ?_
  clear hT9
  obtain ⟨hC9, hA9⟩ := Ord.chain_end hS
  clear hS
  obtain ⟨F9, hA9⟩ := hA9
  simp only [List.length_cons, List.length_nil, Nat.zero_add, Nat.one_ne_zero, if_false] at hA9
  clear hC9 hE rb
  have rb := hA9.rule 0 rfl
  unfold rgv at rb
  go_wp2_with fail
  refine (refPop_at x y 0 6 1 hA9 rfl (by dsimp only; rw [HQ.out]; rfl) (show _ = some (rrI U.A U.c ((x, y, 0) :: t)) by rw [← HQ.out]; rfl) hl).mono ?_
  rintro o w7 ⟨rfl, A7, c7, hE7⟩
  have hE8 : Env w0 (boxI b (rgv 3 h g) :: LU { U with F := F9, ml := swL U.ml (2, 0, 0) h y9, ql := t, A := A7, c := c7 } R) w7 := hE7
  clear hE7 rb hA9
  have rb := hE8.rule 0 rfl
  unfold rgv at rb
  have f2 := hE8.thaw 0 rfl 2 (by simp [rgv])
  have hP := hE8.put 0 rfl (j := 2) (by simp [rgv]) (.int .i64 (wrap64 (g + 1)))
  go_wp2_with fail
  refine (rnext_g (U := { U with F := F9, ml := swL U.ml (2, 0, 0) h y9, ql := t, A := A7, c := c7 }) (pc := 3) (h := h) (g := wrap64 (g + 1)) hP).mono ?_
  rintro o w8 ⟨rfl, hE9⟩
  go_wp2_with fail
  go_ret
  exact ⟨rfl, F9, A7, c7, hE9⟩
end
end Go.Proofs.YtdknbegcflldjaaGreatDoor

/- Threads: contracts of Hold, Take, Drop. -/
namespace Go.Proofs.YtdknbegcflldjaaGreatDoor
open Go.RowKit Go.Maps
set_option maxRecDepth 100000

section
variable {w0 w : World} {L : List Item} {c q kq : Nat} {F : Nat → Prop} {ql : List Trip} {k s b h l e r hs hi : Int}

set_option maxHeartbeats 1600000 in
theorem takeNo_c (hh : hs = 0) (hb : Blk 0 w c (crv k s b h l e r hs hi q)) :
    Calls Tryz.prog 245 #[.pointer (some ⟨c, 0, none⟩)] w fun o w' => o = .returned (.tuple #[.agg #[.int .i64 hs, .int .i64 hi], .bool false]) ∧ Below w.heap.size w w' := by
  have hF := (Fr.start w).push w.heap.size rfl [.int .i64 0, .int .i64 0] 136
  have hb1 := hb.under hF.below
  have hn : (hs != 0) = false := by simpa using hh
  clear hb hh
  go_enter Tryz.func245, Tryz.ntmps245
  go_wp2_with fail
  refine (held_c hb1).mono ?_
  rintro o w1 ⟨rfl, hb⟩
  rw [hn]
  replace hF := hF.over hb
  clear hb hb1
  replace hF := hF.push w1.heap.size rfl [.int .i64 hs, .int .i64 hi] 136
  have hlt := hF.lt 1 rfl
  have hX := hF.blk 1 rfl (by omega)
  have hZ := hF.blk 0 rfl (by have := hF.below.size; have := hF.lt 1 rfl; simp at this; omega)
  have hE := hF.below
  clear hF
  go_upto_region 2 with fail
  generalize w1.alloc _ = w2 at *
  generalize w1.heap.size = Y at *
  have r0 := hX.rule
  have r1 := hZ.rule
  have f0 := hX.thaw 0 (by simp)
  have f1 := hX.thaw 1 (by simp)
  go_wp2_with fail
  have q := ((hX.set (i := 0) (by simp) (.int .i64 hs)).set (i := 1) (by simp) (.int .i64 hi)).rule
  exact bodyPost_ret (v := .tuple #[.agg #[.int .i64 hs, .int .i64 hi], .bool false]) (by simp [results, Tryz.results245, go_sem, q]) rfl ⟨rfl, below_set (below_set hE (by omega) (Nat.le_refl _) _) (by simp; omega) (Nat.le_refl _) _⟩

set_option maxHeartbeats 1600000 in
theorem takeYes_c (hh : hs ≠ 0) (m : Nat) (hE : Env w0 L w) (hm : L[m]? = some (coreI c k s b h l e r hs hi q)) :
    Calls Tryz.prog 245 #[.pointer (some ⟨c, 0, none⟩)] w fun o w' => o = .returned (.tuple #[.agg #[.int .i64 hs, .int .i64 hi], .bool true]) ∧ Env w0 (L.set m (coreI c k s b h l e r 0 0 q)) w' := by
  have hn : (hs != 0) = true := by simpa using hh
  have hml : m < L.length := (List.getElem?_eq_some_iff.1 hm).1
  have hE1 := hE.box w.heap.size rfl [.int .i64 0, .int .i64 0] 136
  have hm1 : (boxI w.heap.size [.int .i64 0, .int .i64 0] :: L)[m + 1]? = some (coreI c k s b h l e r hs hi q) := hm
  clear hE hh
  go_enter Tryz.func245, Tryz.ntmps245
  go_wp2_with fail
  refine (held_c (hE1.get (m + 1) hm1)).mono ?_
  rintro o w1 ⟨rfl, hb⟩
  rw [hn]
  replace hE1 := (hE1.over hb).box w1.heap.size rfl [.int .i64 hs, .int .i64 hi] 136
  clear hb
  generalize w.heap.size = X at *
  go_upto_region 2 with fail
  generalize w1.alloc _ = w2 at *
  generalize w1.heap.size = Y at *
  have hm2 : (boxI Y [.int .i64 hs, .int .i64 hi] :: boxI X [.int .i64 0, .int .i64 0] :: L)[m + 2]? = some (coreI c k s b h l e r hs hi q) := hm
  have rc := hE1.rule (m + 2) hm2
  unfold crv at rc
  have ff := hE1.thaw (m + 2) hm2
  have f7 := ff 7 (by simp [crv])
  have f8 := ff 8 (by simp [crv])
  clear ff
  go_upto_region 4 with fail
  have hE2 := hE1.put (m + 2) hm2 (j := 7) (by simp [crv]) (.int .i64 0)
  have hE3 := hE2.put (m + 2) (by rw [List.getElem?_set_self (by simpa using hml)]) (j := 8) (by simp [crv]) (.int .i64 0)
  rw [List.set_set] at hE3
  generalize World.setCell (World.setCell w2 ⟨c, 7, none⟩ _) ⟨c, 8, none⟩ _ = w3 at *
  replace hE3 : Env w0 (boxI Y [.int .i64 hs, .int .i64 hi] :: boxI X [.int .i64 0, .int .i64 0] :: L.set m (coreI c k s b h l e r 0 0 q)) w3 := hE3
  have r0 := hE3.rule 0 rfl
  have r1 := hE3.rule 1 rfl
  have ff := hE3.thaw 1 rfl
  have f0 := ff 0 (by simp)
  have f1 := ff 1 (by simp)
  clear ff
  clear rc f7 f8
  go_wp2_with fail
  have hE4 := (hE3.put 1 rfl (j := 0) (by simp) (.int .i64 hs)).put 1 rfl (j := 1) (by simp) (.int .i64 hi)
  have q := hE4.rule 1 rfl
  exact bodyPost_ret (v := .tuple #[.agg #[.int .i64 hs, .int .i64 hi], .bool true]) (by simp [results, Tryz.results245, go_sem, q]) rfl ⟨rfl, hE4.sub (.cons _ (.cons _ (List.Sublist.refl _)))⟩

set_option maxHeartbeats 1600000 in
theorem dropNo_c (hh : hs = 0) (hb : Blk 0 w c (crv k s b h l e r hs hi q)) :
    Calls Tryz.prog 207 #[.pointer (some ⟨c, 0, none⟩)] w fun o w' => o = .returned (.tuple #[]) ∧ Below w.heap.size w w' := by
  go_enter Tryz.func207, Tryz.ntmps207
  go_wp2_with fail
  refine (takeNo_c hh hb).mono ?_
  rintro o w1 ⟨rfl, hb1⟩
  clear hh hb
  go_wp2_with fail
  go_end0
  exact ⟨rfl, hb1.alloc hb1.size _⟩

set_option maxHeartbeats 1600000 in
theorem dropYes_c (hh : hs ≠ 0) (m n : Nat) (hnm : n ≠ m) (hE : Env w0 L w) (hm : L[m]? = some (coreI c k s b h l e r hs hi q)) (hn : L[n]? = some (queueI q F ql kq)) (hl : ql.length + 1 ≤ 1048576) :
    Calls Tryz.prog 207 #[.pointer (some ⟨c, 0, none⟩)] w fun o w' => o = .returned (.tuple #[]) ∧ ∃ k' F', Rm kq (ql.length + 1) k' ∧ Env w0 ((L.set m (coreI c k s b h l e r 0 0 q)).set n (queueI q F' (ql ++ [(hs, 0, hi)]) k')) w' := by
  have hml : m < L.length := (List.getElem?_eq_some_iff.1 hm).1
  have hn1 := wset (b := coreI c k s b h l e r 0 0 q) hnm.symm hn
  have hm1 : (L.set m (coreI c k s b h l e r 0 0 q))[m]? = some (coreI c k s b h l e r 0 0 q) := by rw [List.getElem?_set_self hml]
  have HT := Lib.hid (takeYes_c hh m hE hm)
  clear hh hE hm hn
  generalize L.set m (coreI c k s b h l e r 0 0 q) = M at *
  go_enter Tryz.func207, Tryz.ntmps207
  go_wp2_with fail
  refine HT.out.mono ?_
  rintro o w1 ⟨rfl, hE1⟩
  clear HT
  replace hE1 := hE1.box w1.heap.size rfl [.int .i64 hs, .int .i64 hi] 136
  go_wp2_with fail
  generalize w1.alloc _ = w2 at *
  generalize w1.heap.size = Y at *
  have hn2 : (boxI Y [.int .i64 hs, .int .i64 hi] :: M)[n + 1]? = some (queueI q F ql kq) := hn1
  have hm2 : (boxI Y [.int .i64 hs, .int .i64 hi] :: M)[m + 1]? = some (coreI c k s b h l e r 0 0 q) := hm1
  refine Ord3.wp_chain [?_, ?_, ?_, ?_, ?_, ?_, ?_, ?_, ?_, ?_, ?_] [9, 10] (fun w' => Blk 0 w' c [.int .i64 k, .int .i64 s, .int .i64 b, .int .i64 h, .int .i64 l, .int .i64 e, .int .i64 r, .int .i64 0, .int .i64 0, .pointer (some ⟨q, 0, none⟩)] ∧ Blk 0 w' Y [.int .i64 hs, .int .i64 hi]) (Ord3.Stage fun κs => [Env w0 (boxI Y [.int .i64 hs, .int .i64 hi] :: M), fun w' => ∃ z, κs.getD 0 undef = .slice (some ⟨z, 0, none⟩) 1 1 ∧ Env w0 (boxI z [.int .i64 hs, .int .i64 0, .int .i64 hi] :: boxI Y [.int .i64 hs, .int .i64 hi] :: M) w', fun w' => ∃ k', Rm kq (ql.length + 1) k' ∧ ∃ F' z, Env w0 (boxI z [.int .i64 hs, .int .i64 0, .int .i64 hi] :: boxI Y [.int .i64 hs, .int .i64 hi] :: M.set n (queueI q F' (ql ++ [(hs, 0, hi)]) k')) w']) (by kernel_rfl) (by kernel_rfl) (by kernel_rfl) ⟨hE1.drew.get (m + 1) hm2, hE1.drew.get 0 rfl⟩ ⟨_, rfl, hE1.drew⟩ (fun hT => ?_)
  rotate_left 11
  have hT9 := Lib.hid hT
  clear hT
  repeat (first
    | (focus (refine Ord3.in_value (v := ?_) hT9.out (by decide) ?_ (by rfl) ?_ ?_; rotate_left 2; (focus (intro w5 hS; have r1 := Blk.rule hS.1; have r2 := Blk.rule hS.2; go_simp <;> with_reducible rfl)); rotate_right; (focus rfl); (try simp only [Act.put, List.setIfInBounds_toArray, List.set_cons_zero, List.set_cons_succ])))
    | (focus (refine Ord3.in_off hT9.out (by decide) ?_ (by rfl) ?_; (focus rfl); (try simp only [Act.put, List.setIfInBounds_toArray, List.set_cons_zero, List.set_cons_succ]))))
  refine Ord3.in_turn (fun u => ∃ z, u = .slice (some ⟨z, 0, none⟩) 1 1) _ ⟨0, rfl⟩ hT9.out rfl (by decide) (by rfl) ?_ (Or.inl rfl) (by rfl) ?_ ?_
  · rfl
  · rintro w7 hC7 ⟨P7, hP7, hA7⟩
    cases hP7
    go_simp
    simp only [Ord3.Lands]
    have hE8 := hA7.box w7.heap.size rfl [.int .i64 hs, .int .i64 0, .int .i64 hi] 158
    exact ⟨⟨_, rfl⟩, ⟨hE8.get (m + 2) hm1, hE8.get 1 rfl⟩, _, rfl, w7.heap.size, rfl, hE8⟩
  rintro _ ⟨z9, rfl⟩
  (try simp only [Act.put, List.setIfInBounds_toArray, List.set_cons_zero, List.set_cons_succ])
  refine Ord3.in_turn (fun u => u = .int .i64 0) _ rfl hT9.out rfl (by decide) (by rfl) ?_ (Or.inr ⟨_, 9, [], rfl, by kernel_rfl, by kernel_rfl, rfl⟩) (by rfl) ?_ ?_
  · rfl
  · rintro w7 hC7 ⟨P7, hP7, hA7⟩
    cases hP7
    obtain ⟨z8, he, hA7⟩ := hA7
    cases he
    go_simp
    simp only [Ord3.Lands]
    have hA : Row3 w7 (some ⟨z9, 0, none⟩) [(hs, 0, hi)] := Blk.row3 (l := [(hs, 0, hi)]) (hA7.get 0 rfl)
    refine (push_any (l := ql) (xs := [(hs, 0, hi)]) (A := some ⟨z9, 0, none⟩) (cap := 1) (by simp; omega) hA (fun _ b hb hFb => ?_) (hA7.queue (n + 2) hn1)).mono ?_
    · obtain ⟨off, he⟩ := hb
      cases he
      exact (hA7.off (i := 0) (j := n + 2) rfl hn1 (by omega)) z9 rfl hFb
    rintro o w8 ⟨rfl, k8, F8, hrm, hQ8, hs8⟩
    have hE8 := hA7.turnQ (n + 2) hn1 hQ8 hs8
    simp only [List.set_cons_succ, List.set_cons_zero] at hE8
    have hm8 := wset (b := queueI q F8 (ql ++ [(hs, 0, hi)]) k8) hnm hm1
    exact ⟨_, rfl, rfl, ⟨hE8.get (m + 2) hm8, hE8.get 1 rfl⟩, _, rfl, k8, by simpa using hrm, F8, z9, hE8⟩
  rintro _ rfl
  (try simp only [Act.put, List.setIfInBounds_toArray, List.set_cons_zero, List.set_cons_succ])
  refine Ord3.in_nil rfl ?_
  rintro w9 hC9 ⟨P9, hP9, hA9⟩
  cases hP9
  obtain ⟨k8, hrm, F8, z8, hA9⟩ := hA9
  clear hT9 hC9
  go_wp2_with fail
  go_end0
  exact ⟨rfl, k8, F8, hrm, hA9.sub (.cons _ (.cons _ (List.Sublist.refl _)))⟩
theorem takeNil_c (w : World) : Calls Tryz.prog 245 #[.pointer none] w fun o w' => o = .returned (.tuple #[.agg #[.int .i64 0, .int .i64 0], .bool false]) ∧ Below w.heap.size w w' := by
  have hF := (Fr.start w).push w.heap.size rfl [.int .i64 0, .int .i64 0] 136
  go_enter Tryz.func245, Tryz.ntmps245
  go_wp2_with fail
  refine (heldNil_c _).mono ?_
  rintro o w1 ⟨rfl, hb⟩
  replace hF := hF.over hb
  clear hb
  replace hF := hF.push w1.heap.size rfl [.int .i64 0, .int .i64 0] 136
  have hlt := hF.lt 1 rfl
  have hX := hF.blk 1 rfl (by omega)
  have hZ := hF.blk 0 rfl (by have := hF.below.size; have := hF.lt 1 rfl; simp at this; omega)
  have hE := hF.below
  clear hF
  go_upto_region 2 with fail
  generalize w1.alloc _ = w2 at *
  generalize w1.heap.size = Y at *
  have r0 := hX.rule
  have r1 := hZ.rule
  have f0 := hX.thaw 0 (by simp)
  have f1 := hX.thaw 1 (by simp)
  go_wp2_with fail
  have q := ((hX.set (i := 0) (by simp) (.int .i64 0)).set (i := 1) (by simp) (.int .i64 0)).rule
  exact bodyPost_ret (v := .tuple #[.agg #[.int .i64 0, .int .i64 0], .bool false]) (by simp [results, Tryz.results245, go_sem, q]) rfl ⟨rfl, below_set (below_set hE (by omega) (Nat.le_refl _) _) (by simp; omega) (Nat.le_refl _) _⟩
theorem dropNil_c (w : World) : Calls Tryz.prog 207 #[.pointer none] w fun o w' => o = .returned (.tuple #[]) ∧ Below w.heap.size w w' := by
  go_enter Tryz.func207, Tryz.ntmps207
  go_wp2_with fail
  refine (takeNil_c _).mono ?_
  rintro o w1 ⟨rfl, hb1⟩
  go_wp2_with fail
  go_end0
  exact ⟨rfl, hb1.alloc hb1.size _⟩
end
end Go.Proofs.YtdknbegcflldjaaGreatDoor

/- Threads: what they are in memory, of both; their things in two orders. -/
namespace Go.Proofs.YtdknbegcflldjaaGreatDoor
open Go.RowKit Go.Maps
set_option maxRecDepth 100000

/-- Where a thread's things are, and what of them no answer hangs on. -/
structure Tm where
  (thr c q u : Nat)
  (F : Nat → Prop)
  (kq : Nat)
  (A : Option Addr)
  (rc : Nat)
  (N cr ro : Int)
  (dA : Option Addr)
  (dn dc : Nat)
  (pa pb pr pq pg ph : Value)
/-- The world's, and the reference's memory. -/
structure Wm where
  (p cc m : Nat)
  (G FU : Nat → Prop)
  (qc : Cnt)
  (n : Nat)
  (ml : List OneR)
def thv (X : Tm) (T : Th) : List Value := [.pointer (some ⟨X.c, 0, none⟩), .pointer (some ⟨X.u, 0, none⟩), .slice X.dA X.dn X.dc, .int .i64 T.nd, .int .i64 T.pc, X.pa, X.pb, X.pr, X.pq, X.pg, X.ph, .int .i64 T.done, .bool T.full]
def stOf (C : Cf) (X : Tm) (V : Wm) (T : Th) : ST := { c := X.c, q := X.q, p := V.p, cc := V.cc, ck := C.k, cs := C.s, cb := C.b, ch := C.h, cl := C.l, ce := T.e, cr := X.cr, hs := T.hs, F := X.F, ql := T.ql, kq := X.kq, G := V.G, f := getL V.ml, qc := V.qc, m := V.n }
def suOf (C : Cf) (X : Tm) (V : Wm) (T : Th) : SU := { u := X.u, m := V.m, ck := C.k, cs := C.s, cb := C.b, ch := C.h, cl := C.l, ce := T.e, hs := T.hs, ro := X.ro, N := X.N, A := X.A, c := X.rc, ql := T.ql, F := V.FU, ml := V.ml }

section
variable {w0 w : World} {R : List Item} {S : ST} {U : SU} {x y : Item}
/-- From the program's order into the reference's. -/
theorem Env.toRef (h : Env w0 (x :: LT S (LU U (y :: R))) w) : Env w0 (y :: LU U (x :: LT S R)) w :=
  h.perm (((List.perm_middle (l₁ := [_, _, _]) (a := y) (l₂ := R)).append_left [x, _, _, _, _]).trans (List.perm_append_comm_assoc [x, _, _, _, _] [y, _, _, _] R))
/-- And back. -/
theorem Env.toProg (h : Env w0 (y :: LU U (x :: LT S R)) w) : Env w0 (x :: LT S (LU U (y :: R))) w :=
  h.perm ((List.perm_append_comm_assoc [y, _, _, _] [x, _, _, _, _] R).trans ((List.perm_middle (l₁ := [_, _, _]) (a := y) (l₂ := R)).symm.append_left [x, _, _, _, _]))
/-- A thing from behind the reference's to the front, and back. -/
theorem Env.front (h : Env w0 (LT S (LU U (y :: R))) w) : Env w0 (y :: LT S (LU U R)) w :=
  h.perm (List.perm_middle (l₁ := [_, _, _, _, _, _, _]))
theorem Env.unfront (h : Env w0 (y :: LT S (LU U R)) w) : Env w0 (LT S (LU U (y :: R))) w :=
  h.perm (List.perm_middle (l₁ := [_, _, _, _, _, _, _])).symm
/-- The reference's things to the front, and back. -/
theorem Env.refs (h : Env w0 (LT S (LU U R)) w) : Env w0 (LU U (LT S R)) w := h.perm (List.perm_append_comm_assoc [_, _, _, _] [_, _, _] R)
theorem Env.progs (h : Env w0 (LU U (LT S R)) w) : Env w0 (LT S (LU U R)) w := h.perm (List.perm_append_comm_assoc [_, _, _] [_, _, _, _] R)
end
end Go.Proofs.YtdknbegcflldjaaGreatDoor

/- Retires: what they are in memory; contracts of NewRetire, their rows and Step. -/
namespace Go.Proofs.YtdknbegcflldjaaGreatDoor
open Go.RowKit Go.Maps
set_option maxRecDepth 100000

/-- A Retire's cells: of slot s; e is what was loaded. -/
def rtv (c : Nat) (nx : Value × Value) (s e : Int) : List Value := [.pointer (some ⟨c, 0, none⟩), nx.1, nx.2, .int .i64 s, .int .i64 0, .int .u64 e, .int .i64 0, .bool false]
def fnR (pc : Nat) : Nat := if pc = 0 then 331 else 335
def nxR (a pc : Nat) : Value × Value := (mvL (fnR pc) a, .int .i64 0)
theorem enters_fnR (pc : Nat) (ar : Array Value) (v : World) : (callFunc (fnR pc) ar).run Tryz.prog v = .ok (.enter (fnR pc) ar) v := by
  unfold fnR
  split
  all_goals kernel_rfl

section
variable {w0 w : World} {R : List Item} {a : Nat} {S : ST} {nx : Value × Value} {s e : Int}
set_option maxHeartbeats 800000 in
theorem step_r (pc : Nat) (u : Value) (Q : Ending → World → Prop) (hE : Env w0 (boxI a (rtv S.c nx s e) :: LT S R) w) (hnx : nx = nxR a pc)
    (hc : Calls Tryz.prog (fnR pc) #[.pointer (some ⟨a, 0, none⟩), u] w fun e w' => ∃ s, e = .returned (.int .i64 s) ∧ Q (.returned (.int .i64 s)) w') :
    Calls Tryz.prog 322 #[.pointer (some ⟨a, 0, none⟩), u] w Q := by
  have hn : w.cell? ⟨a, 1, none⟩ = some (.func (.func (fnR pc)) #[.pointer (some ⟨a, 0, none⟩)] #[]) := by
    have := hE.rule 0 rfl 1
    rw [this, show (rtv S.c nx s e)[1]? = some nx.1 from rfl, hnx]
    rfl
  have hs0 : w.cell? ⟨a, 1 + 1, none⟩ = some (.int .i64 0) := by
    have := hE.rule 0 rfl 2
    rw [this, show (rtv S.c nx s e)[2]? = some nx.2 from rfl, hnx]
    rfl
  have hst := stepMv_r (o := 1) (fnR pc) (enters_fnR pc) (.pointer (some ⟨a, 0, none⟩)) u (fun o w' => ∃ s, o = .returned (.int .i64 s) ∧ Q (.returned (.int .i64 s)) w') hn hs0 (hc.mono fun e w' ⟨s, he, hq⟩ => ⟨s, he, s, rfl, hq⟩)
  have HST := Lib.hid hst
  clear hst hc
  go_enter Tryz.func322, Tryz.ntmps322
  go_wp2_with fail
  refine HST.out.mono ?_
  rintro o w1 ⟨s, rfl, hQ⟩
  go_wp2_with fail
  exact hQ
theorem step_ry {st : Int} {Y : World → Prop} (pc : Nat) (u : Value) (hE : Env w0 (boxI a (rtv S.c nx s e) :: LT S R) w) (hnx : nx = nxR a pc)
    (hc : Calls Tryz.prog (fnR pc) #[.pointer (some ⟨a, 0, none⟩), u] w fun o w' => o = .returned (.int .i64 st) ∧ Y w') :
    Calls Tryz.prog 322 #[.pointer (some ⟨a, 0, none⟩), u] w fun o w' => o = .returned (.int .i64 st) ∧ Y w' :=
  step_r pc u _ hE hnx (hc.mono fun _ _ h => ⟨st, h.1, rfl, h.2⟩)
theorem stepNil_r (u : Value) (w : World) : Calls Tryz.prog 322 #[.pointer none, u] w fun o w' => o = .returned (.int .i64 1) ∧ w' = w := by
  go_enter Tryz.func322, Tryz.ntmps322
  go_wp2
  go_ret
  exact ⟨rfl, rfl⟩
theorem newNil_r (d i : Int) (w : World) : Calls Tryz.prog 321 #[.pointer none, .agg #[.int .i64 d, .int .i64 i]] w fun o w' => o = .returned (.pointer none) ∧ Below w.heap.size w w' := by
  go_enter Tryz.func321, Tryz.ntmps321
  go_wp2
  go_ret
  exact ⟨rfl, (Below.refl _ _).alloc (Nat.le_refl _) _⟩
set_option maxHeartbeats 1600000 in
theorem new_r (d : Int) {L : List Item} {c : Nat} (hE : Env w0 L w) :
    Calls Tryz.prog 321 #[.pointer (some ⟨c, 0, none⟩), .agg #[.int .i64 d, .int .i64 0]] w fun o w' => ∃ a, o = .returned (.pointer (some ⟨a, 0, none⟩)) ∧ Env w0 (boxI a (rtv c (nxR a 0) d 0) :: L) w' := by
  have hmf := makeF
  have hE0 := hE.box w.heap.size rfl [.int .i64 d, .int .i64 0] 136
  have hE1 := hE0.box (w.heap.size + 1) (by simp) (rtv c (.nilFunc, .int .i64 0) d 0) 358
  have r0 := hE0.rule 0 rfl
  have hgo := goOn_m (fn := .func 331) (fs := #[.pointer (some ⟨w.heap.size + 1, 0, none⟩)]) (cs := #[]) 0 (by simp [rtv]) rfl hE1 rfl
  have HGO := Lib.hid hgo
  clear hE hE0 hE1 hgo
  go_enter Tryz.func321, Tryz.ntmps321
  go_wp2_with fail
  refine HGO.out.mono ?_
  rintro o w1 ⟨rfl, hE2⟩
  go_wp2_with fail
  go_ret
  exact ⟨_, rfl, hE2.sub (.cons_cons _ (.cons _ (List.Sublist.refl _)))⟩
set_option maxHeartbeats 1600000 in
theorem loadEpoch_r (x : Int) (hfx : S.f (1, 0, 0) = x) (hz : Hid (nx.2 = .int .i64 0)) (hE : Env w0 (boxI a (rtv S.c nx s e) :: LT S R) w) :
    Calls Tryz.prog 331 #[.pointer (some ⟨a, 0, none⟩), .iface 26 (.pointer (some ⟨S.p, 0, none⟩))] w fun o w' => o = .returned (.int .i64 0) ∧ Env w0 (boxI a (rtv S.c (nxR a 1) s x) :: LT { S with qc := { S.qc with l := wrap64 (S.qc.l + 1) } } R) w' := by
  have hmf := makeF
  have hah := ahead_load
  have HX := Lib.hid hfx
  clear hfx
  go_enter Tryz.func331, Tryz.ntmps331
  go_wp2_with fail
  refine Ord.wp_chain [7, 10] (fun _ => True) (fun k w' => Env w0 (pick3 (boxI a (rtv S.c nx s e) :: LT S R) (boxI a (rtv S.c nx s e) :: LT { S with qc := { S.qc with l := wrap64 (S.qc.l + 1) } } R) (boxI a (rtv S.c nx s x) :: LT { S with qc := { S.qc with l := wrap64 (S.qc.l + 1) } } R) k) w') (by kernel_rfl) (by kernel_rfl) (by kernel_rfl) trivial hE.drew (fun hT => ?_)
  have hT9 := Lib.hid hT
  clear hT
  repeat (first
    | (refine Ord.ch_value (v := ?_) hT9.out (by decide) (by rfl) ?_ ?_; rotate_left; (focus (intro w5 hS; skip; go_simp <;> with_reducible rfl)); (try simp only [Act.put, List.setIfInBounds_toArray, List.set_cons_zero, List.set_cons_succ]))
    | (refine Ord.ch_off hT9.out (by decide) (by rfl) ?_; (try simp only [Act.put, List.setIfInBounds_toArray, List.set_cons_zero, List.set_cons_succ]))
    | (refine Ord.ch_call (v := ?_) (f := ?_) (args := ?_) hT9.out (by decide) (by rfl) ?_ ?_ ?_; rotate_left 3; (focus (intro w5 hS; skip; go_simp; constructor <;> with_reducible rfl)); (focus (intro w5 hS; (first | (with_reducible refine (epoch_any _).mono ?_; rintro e w6 ⟨rfl, hb6⟩; constructor; with_reducible rfl; exact ⟨trivial, fun k h => h.over hb6⟩) | (with_reducible refine (shared_any _ _ _ _).mono ?_; rintro e w6 ⟨rfl, hb6⟩; constructor; with_reducible rfl; exact ⟨trivial, fun k h => h.over hb6⟩)))); (try simp only [Act.put, List.setIfInBounds_toArray, List.set_cons_zero, List.set_cons_succ])))
  refine Ord.ch_turn (v := .agg #[.int .u64 x, .int .i64 0, .bool false]) 0 hT9.out rfl (by decide) (Or.inl rfl) (by rfl) ?_ ?_
  · rintro w5 hC5 hA5
    replace hA5 : Env w0 (boxI a (rtv S.c nx s e) :: LT S R) w5 := hA5
    go_simp
    rw [method_load]
    simp only [Result.andThen_ok]
    go_simp
    simp only [Ord.LandsIn]
    have hl := load_w 1 0 0 0 (by unfold Wf In64; simp) 3 4 (by decide) hA5 rfl rfl
    rw [HX.out] at hl
    refine hl.mono ?_
    rintro e w6 ⟨rfl, hE6⟩
    exact ⟨rfl, hE6⟩
  (try simp only [Act.put, List.setIfInBounds_toArray, List.set_cons_zero, List.set_cons_succ])
  repeat (first
    | (refine Ord.ch_value (v := ?_) hT9.out (by decide) (by rfl) ?_ ?_; rotate_left; (focus (intro w5 hS; skip; go_simp <;> with_reducible rfl)); (try simp only [Act.put, List.setIfInBounds_toArray, List.set_cons_zero, List.set_cons_succ]))
    | (refine Ord.ch_off hT9.out (by decide) (by rfl) ?_; (try simp only [Act.put, List.setIfInBounds_toArray, List.set_cons_zero, List.set_cons_succ])))
  refine Ord.ch_turn (v := undef) 1 hT9.out rfl (by decide) (Or.inr ⟨_, rfl, by kernel_rfl⟩) (by rfl) ?_ ?_
  · rintro w5 hC5 hA5
    replace hA5 : Env w0 (boxI a (rtv S.c nx s e) :: LT { S with qc := { S.qc with l := wrap64 (S.qc.l + 1) } } R) w5 := hA5
    have r := hA5.rule 0 rfl
    unfold rtv at r
    have f6 := hA5.thaw 0 rfl 5 (by simp [rtv])
    have f7 := hA5.thaw 0 rfl 6 (by simp [rtv])
    have f8 := hA5.thaw 0 rfl 7 (by simp [rtv])
    go_simp
    have h9 := ((hA5.put 0 rfl (j := 5) (by simp [rtv]) (.int .u64 x)).put 0 rfl (j := 6) (by simp [rtv]) (.int .i64 0)).put 0 rfl (j := 7) (by simp [rtv]) (.bool false)
    exact ⟨rfl, h9⟩
  (try simp only [Act.put, List.setIfInBounds_toArray, List.set_cons_zero, List.set_cons_succ])
  repeat (first
    | (refine Ord.ch_value (v := ?_) hT9.out (by decide) (by rfl) ?_ ?_; rotate_left; (focus (intro w5 hS; skip; go_simp <;> with_reducible rfl)); (try simp only [Act.put, List.setIfInBounds_toArray, List.set_cons_zero, List.set_cons_succ]))
    | (refine Ord.ch_off hT9.out (by decide) (by rfl) ?_; (try simp only [Act.put, List.setIfInBounds_toArray, List.set_cons_zero, List.set_cons_succ])))
  refine Ord.InText.nil fun w5 hS => ?_
  clear hT9
  obtain ⟨hC9, hA9⟩ := Ord.chain_end hS
  clear hS
  replace hA9 : Env w0 (boxI a (rtv S.c nx s x) :: LT { S with qc := { S.qc with l := wrap64 (S.qc.l + 1) } } R) w5 := hA9
  have r := hA9.rule 0 rfl
  unfold rtv at r
  go_wp2_with fail
  refine (goOn_m 0 _ _ _ (by simp [rtv]) (by exact congrArg some hz.out) hA9 rfl).mono ?_
  rintro o w7 ⟨rfl, hE7⟩
  go_wp2_with fail
  go_ret
  exact ⟨rfl, hE7⟩

set_option maxHeartbeats 3200000 in
theorem store_r (he : InU e) (hs : In64 s) (hm : S.m < maxLen) (hl : S.ql.length + 1 ≤ 1048576) (hE : Env w0 (boxI a (rtv S.c nx s e) :: LT S R) w) :
    Calls Tryz.prog 335 #[.pointer (some ⟨a, 0, none⟩), .iface 26 (.pointer (some ⟨S.p, 0, none⟩))] w fun o w' => o = .returned (.int .i64 1) ∧ ∃ k' F' G', Rm S.kq (S.ql.length + 1) k' ∧ Env w0 (LT { S with G := G', f := upd S.f (5, s, 1) e, qc := { S.qc with s := wrap64 (S.qc.s + 1) }, m := S.m + 1, ql := S.ql ++ [(s, epI e, 0)], kq := k', F := F' } R) w' := by
  have hmf := makeF
  have hah := ahead_store
  have HWF : Hid (Wf (5, s, 1)) := Lib.hid (by unfold Wf; exact ⟨by unfold In64; simp, hs, by unfold In64; simp⟩)
  have HIE := Lib.hid he
  clear he hs
  go_enter Tryz.func335, Tryz.ntmps335
  go_wp2_with fail
  refine Ord.wp_chain [13] (fun v => Blk 0 v a (rtv S.c nx s e)) (fun k w' => ∃ G5, Env w0 (boxI a (rtv S.c nx s e) :: LT (if k = 0 then S else { S with G := G5, f := upd S.f (5, s, 1) e, qc := { S.qc with s := wrap64 (S.qc.s + 1) }, m := S.m + 1 }) R) w') (by kernel_rfl) (by kernel_rfl) (by kernel_rfl) (hE.drew.get 0 rfl) ⟨S.G, hE.drew⟩ (fun hT => ?_)
  have hT9 := Lib.hid hT
  clear hT
  repeat (first
    | (refine Ord.ch_value (v := ?_) hT9.out (by decide) (by rfl) ?_ ?_; rotate_left; (focus (intro w5 hS; have r := hS.rule; unfold rtv at r; go_simp <;> with_reducible rfl)); (try simp only [Act.put, List.setIfInBounds_toArray, List.set_cons_zero, List.set_cons_succ]))
    | (refine Ord.ch_off hT9.out (by decide) (by rfl) ?_; (try simp only [Act.put, List.setIfInBounds_toArray, List.set_cons_zero, List.set_cons_succ]))
    | (refine Ord.ch_call (v := ?_) (f := ?_) (args := ?_) hT9.out (by decide) (by rfl) ?_ ?_ ?_; rotate_left 3; (focus (intro w5 hS; have r := hS.rule; unfold rtv at r; go_simp; constructor <;> with_reducible rfl)); (focus (intro w5 hS; (first | (with_reducible refine (part_any _ _ _ _).mono ?_; rintro e w6 ⟨rfl, hb6⟩; constructor; with_reducible rfl; exact ⟨hS.under hb6, fun k h => h.elim fun G5 h => ⟨G5, h.over hb6⟩⟩)))); (try simp only [Act.put, List.setIfInBounds_toArray, List.set_cons_zero, List.set_cons_succ])))
  refine Ord.ch_turn (v := .tuple #[]) 0 hT9.out rfl (by decide) (Or.inl rfl) (by rfl) ?_ ?_
  · rintro w5 hC5 ⟨G5, hA5⟩
    simp only [if_true] at hA5
    go_simp
    rw [method_store]
    simp only [Result.andThen_ok]
    go_simp
    simp only [Ord.LandsIn]
    refine (store_w 5 s 1 0 e 0 false HWF.out HIE.out hm 3 4 (by decide) hA5 rfl rfl).mono ?_
    rintro e w6 ⟨rfl, G6, hE6⟩
    exact ⟨rfl, hE6.get 0 rfl, G6, hE6⟩
  (try simp only [Act.put, List.setIfInBounds_toArray, List.set_cons_zero, List.set_cons_succ])
  repeat (first
    | (refine Ord.ch_value (v := ?_) hT9.out (by decide) (by rfl) ?_ ?_; rotate_left; (focus (intro w5 hS; skip; go_simp <;> with_reducible rfl)); (try simp only [Act.put, List.setIfInBounds_toArray, List.set_cons_zero, List.set_cons_succ]))
    | (refine Ord.ch_off hT9.out (by decide) (by rfl) ?_; (try simp only [Act.put, List.setIfInBounds_toArray, List.set_cons_zero, List.set_cons_succ])))
  refine Ord.InText.nil fun w5 hS => ?_
  clear hT9
  obtain ⟨hC9, hA9⟩ := Ord.chain_end hS
  clear hS
  obtain ⟨G9, hA9⟩ := hA9
  simp only [List.length_cons, List.length_nil, Nat.zero_add, Nat.one_ne_zero, if_false] at hA9
  clear hC9 hE
  go_wp2_with fail
  refine Ord3.wp_chain [?_, ?_, ?_, ?_, ?_, ?_, ?_, ?_, ?_, ?_, ?_, ?_, ?_, ?_, ?_, ?_, ?_, ?_, ?_, ?_, ?_, ?_, ?_, ?_] [22, 23] (fun w' => Blk 0 w' a (rtv S.c nx s e) ∧ Blk 0 w' S.c (crv S.ck S.cs S.cb S.ch S.cl S.ce S.cr S.hs 0 S.q)) (Ord3.Stage fun κs => [Env w0 (boxI a (rtv S.c nx s e) :: LT { S with G := G9, f := upd S.f (5, s, 1) e, qc := { S.qc with s := wrap64 (S.qc.s + 1) }, m := S.m + 1 } R), fun w' => ∃ z, κs.getD 0 undef = .slice (some ⟨z, 0, none⟩) 1 1 ∧ Env w0 (boxI z [.int .i64 s, .int .i64 (epI e), .int .i64 0] :: boxI a (rtv S.c nx s e) :: LT { S with G := G9, f := upd S.f (5, s, 1) e, qc := { S.qc with s := wrap64 (S.qc.s + 1) }, m := S.m + 1 } R) w', fun w' => ∃ k', Rm S.kq (S.ql.length + 1) k' ∧ ∃ F' z, Env w0 (boxI z [.int .i64 s, .int .i64 (epI e), .int .i64 0] :: boxI a (rtv S.c nx s e) :: LT { S with G := G9, f := upd S.f (5, s, 1) e, qc := { S.qc with s := wrap64 (S.qc.s + 1) }, m := S.m + 1, ql := S.ql ++ [(s, epI e, 0)], kq := k', F := F' } R) w']) (by kernel_rfl) (by kernel_rfl) (by kernel_rfl) ⟨hA9.drew.get 0 rfl, hA9.drew.get 1 rfl⟩ ⟨_, rfl, hA9.drew⟩ (fun hT => ?_)
  rotate_left 24
  have hT9 := Lib.hid hT
  clear hT
  repeat (first
    | (focus (refine Ord3.in_value (v := ?_) hT9.out (by decide) ?_ (by rfl) ?_ ?_; rotate_left 2; (focus (intro w5 hS; have r1 := Blk.rule hS.1; unfold rtv at r1; go_simp <;> with_reducible rfl)); rotate_right; (focus rfl); (try simp only [Act.put, List.setIfInBounds_toArray, List.set_cons_zero, List.set_cons_succ])))
    | (focus (refine Ord3.in_off hT9.out (by decide) ?_ (by rfl) ?_; (focus rfl); (try simp only [Act.put, List.setIfInBounds_toArray, List.set_cons_zero, List.set_cons_succ])))
    | (focus (refine Ord3.in_call (v := ?_) (f := ?_) (args := ?_) hT9.out (by decide) ?_ (by rfl) ?_ ?_ ?_; rotate_left 4; (focus (intro w5 hS; have r1 := Blk.rule hS.1; unfold rtv at r1; go_simp; constructor <;> with_reducible rfl)); (focus (intro w5 hS; (first | (with_reducible refine (queue_c hS.2).mono ?_; rintro o w6 ⟨rfl, rfl⟩; constructor; with_reducible rfl; exact ⟨hS, fun _ h => h⟩) | (with_reducible refine (epochOf_any _ _ _ HIE.out _).mono ?_; rintro o w6 ⟨rfl, hb6⟩; constructor; with_reducible rfl; exact ⟨⟨hS.1.under hb6, hS.2.under hb6⟩, fun κs h => Ord3.Stage.three h (fun h => h.over hb6) (fun h => h.elim fun z h => ⟨z, h.1, h.2.over hb6⟩) (fun h => h.elim fun k h => ⟨k, h.1, h.2.elim fun F h => ⟨F, h.elim fun z h => ⟨z, h.over hb6⟩⟩⟩)⟩)))); rotate_right; (focus rfl); (try simp only [Act.put, List.setIfInBounds_toArray, List.set_cons_zero, List.set_cons_succ]))))
  refine Ord3.in_turn (fun u => ∃ z, u = .slice (some ⟨z, 0, none⟩) 1 1) _ ⟨0, rfl⟩ hT9.out rfl (by decide) (by rfl) ?_ (Or.inl rfl) (by rfl) ?_ ?_
  · rfl
  · rintro w7 hC7 ⟨P7, hP7, hA7⟩
    cases hP7
    go_simp
    simp only [Ord3.Lands]
    have hE8 := hA7.box w7.heap.size rfl [.int .i64 s, .int .i64 (epI e), .int .i64 0] 158
    exact ⟨⟨_, rfl⟩, ⟨hE8.get 1 rfl, hE8.get 2 rfl⟩, _, rfl, w7.heap.size, rfl, hE8⟩
  rintro _ ⟨z9, rfl⟩
  (try simp only [Act.put, List.setIfInBounds_toArray, List.set_cons_zero, List.set_cons_succ])
  refine Ord3.in_turn (fun u => u = .int .i64 0) _ rfl hT9.out rfl (by decide) (by rfl) ?_ (Or.inr ⟨_, 22, [], rfl, by kernel_rfl, by kernel_rfl, rfl⟩) (by rfl) ?_ ?_
  · rfl
  · rintro w7 hC7 ⟨P7, hP7, hA7⟩
    cases hP7
    obtain ⟨z8, he, hA7⟩ := hA7
    cases he
    go_simp
    simp only [Ord3.Lands]
    have hA : Row3 w7 (some ⟨z9, 0, none⟩) [(s, epI e, 0)] := Blk.row3 (l := [(s, epI e, 0)]) (hA7.get 0 rfl)
    refine (push_any (l := S.ql) (xs := [(s, epI e, 0)]) (A := some ⟨z9, 0, none⟩) (cap := 1) (by simp; omega) hA (fun _ b hb hFb => ?_) (hA7.queue 3 rfl)).mono ?_
    · obtain ⟨off, he⟩ := hb
      cases he
      exact (hA7.off (i := 0) (j := 3) rfl rfl (by omega)) z9 rfl hFb
    rintro o w8 ⟨rfl, k8, F8, hrm, hQ8, hs8⟩
    have hE8 := hA7.turnQ 3 rfl hQ8 hs8
    exact ⟨_, rfl, rfl, ⟨hE8.get 1 rfl, hE8.get 2 rfl⟩, _, rfl, k8, by simpa using hrm, F8, z9, hE8⟩
  rintro _ rfl
  (try simp only [Act.put, List.setIfInBounds_toArray, List.set_cons_zero, List.set_cons_succ])
  refine Ord3.in_nil rfl ?_
  rintro w9 hC9 ⟨P9, hP9, hA8⟩
  cases hP9
  obtain ⟨k8, hrm, F8, z8, hA8⟩ := hA8
  clear hT9 hC9 hA9
  have hE9 := hA8.sub (.cons _ (List.Sublist.refl _))
  have r := hE9.rule 0 rfl
  unfold rtv at r
  go_wp2_with fail
  refine (end_m 0 1 (by simp [rtv]) hE9 rfl).mono ?_
  rintro o w10 ⟨rfl, nx', hE10⟩
  go_wp2_with fail
  go_ret
  exact ⟨rfl, k8, F8, G9, hrm, hE10.sub (.cons _ (List.Sublist.refl _))⟩
end
end Go.Proofs.YtdknbegcflldjaaGreatDoor

/- Threads: the contract of begin. -/
namespace Go.Proofs.YtdknbegcflldjaaGreatDoor
open Go.RowKit Go.Maps
set_option maxRecDepth 100000

instance : Inhabited Dd := ⟨⟨0, 0, 0, 0, 0⟩⟩
def encD (d : Dd) : List Value := [.int .i64 d.kind, .int .i64 d.ok, .int .u64 d.key, .int .u64 d.val, .int .i64 d.lv]
theorem roomN_in {N : Int} {n : Nat} (h : 0 ≤ N ∧ N ≤ 4000000) (hn : n ≤ 1000000) : 0 ≤ roomN (room0 N) n ∧ roomN (room0 N) n ≤ 4000000 := by
  unfold roomN room0
  split <;> split <;> omega
/-- Nothing that was there has turned, and these things are what they are. -/
def KR (w0 : World) (R : List Item) (v : World) : Prop := Below w0.heap.size w0 v ∧ ∀ a ∈ R, a.says v ∧ ∀ k, a.F k → k < v.heap.size
theorem Env.kr {w0 w : World} {L R : List Item} (h : Env w0 L w) (hR : ∀ a ∈ R, a ∈ L) : KR w0 R w := ⟨h.below, fun a ha => ⟨(h.2.2 a (hR a ha)).1, fun k hk => ((h.2.2 a (hR a ha)).2 k hk).2⟩⟩
theorem KR.more {w0 w : World} {R : List Item} (h : KR w0 R w) (o : Obj) : KR w0 R (w.alloc o) := ⟨h.1.alloc h.1.size _, fun a ha => by
  obtain ⟨h1, h2⟩ := h.2 a ha
  have hb : Below w.heap.size w (w.alloc o) := (Below.refl _ _).alloc (Nat.le_refl _) o
  exact ⟨a.loc w _ h1 (fun k hk => hb.block k (h2 k hk)) hb.size, fun k hk => Nat.lt_of_lt_of_le (h2 k hk) hb.size⟩⟩
theorem KR.sub {w0 w : World} {L R : List Item} (h : KR w0 R w) (hR : ∀ a ∈ L, a ∈ R) : KR w0 L w := ⟨h.1, fun a ha => h.2 a (hR a ha)⟩
/-- A row of deeds that is read wherever that holds. -/
def DsAt (w0 : World) (R : List Item) (A : Option Addr) (ds : List Dd) : Prop :=
  ds = [] ∨ ∃ g off, A = some ⟨g, off, none⟩ ∧ ∀ i, i < ds.length → ∀ v, KR w0 R v → CellsAt v g (off + i * 5) (encD (ds.getD i default))
theorem DsAt.of_row {w0 : World} {R : List Item} {A : Option Addr} {ds : List Dd} (hd : RowX encD 5 w0 A ds) : DsAt w0 R A ds := by
  rcases hd with h | ⟨b, off, hA, hl, hc⟩
  · exact .inl h
  · exact .inr ⟨b, off, hA, fun i hi v hv => (hc i hi).below hv.1 hl⟩
theorem DsAt.sub {w0 : World} {L R : List Item} {A : Option Addr} {ds : List Dd} (hd : DsAt w0 L A ds) (hR : ∀ a ∈ L, a ∈ R) : DsAt w0 R A ds := by
  rcases hd with h | ⟨g, off, hA, hc⟩
  · exact .inl h
  · exact .inr ⟨g, off, hA, fun i hi v hv => hc i hi v (hv.sub hR)⟩
theorem rowD {w0 : World} {R : List Item} {A : Option Addr} {ds : List Dd} (hd : DsAt w0 R A ds) (i : Nat) (hi : i < ds.length) :
    ∃ g off, A = some ⟨g, off, none⟩ ∧ ∀ v, KR w0 R v → CellsAt v g (off + i * 5) (encD (ds.getD i default)) := by
  rcases hd with h | ⟨g, off, hA, hc⟩
  · rw [h] at hi; simp at hi
  · exact ⟨g, off, hA, hc i hi⟩
end Go.Proofs.YtdknbegcflldjaaGreatDoor

/- The plain world: a birth. -/
namespace Go.Proofs.YtdknbegcflldjaaGreatDoor
open Go.RowKit
set_option maxRecDepth 100000

theorem born_w (v : Value) (m : Int) (w : World) : Calls Tryz.prog 358 #[v, .int .i64 m] w fun e w' => e = .returned (.int .i64 0) ∧ w' = w := by
  go_enter Tryz.func358, Tryz.ntmps358
  go_wp2
  go_ret
  exact ⟨rfl, rfl⟩
end Go.Proofs.YtdknbegcflldjaaGreatDoor

/- Allocs: the rows of a birth. -/
namespace Go.Proofs.YtdknbegcflldjaaGreatDoor
open Go.RowKit Go.Maps
set_option maxRecDepth 100000

section
variable {w0 w : World} {R : List Item} {a : Nat} {S : ST} {M : MA}
set_option maxHeartbeats 3200000 in
theorem store_a (g o N C : Nat) (part word : Int) (hC : N + 1 ≤ C) (hpt : In64 part) (hwd : InU word) (hms : In64 M.s) (hm : S.m < maxLen) (hleft : M.left = .slice (some ⟨g, o, none⟩) (N + 1) C) {xs : List Value} (h0 : xs[o]? = some (.int .i64 part)) (h1 : xs[o + 1]? = some (.int .u64 word)) (hE : Env w0 (boxI a (av S.c M) :: LT S (lieI g xs :: R)) w) :
    Calls Tryz.prog 315 #[.pointer (some ⟨a, 0, none⟩), .iface 26 (.pointer (some ⟨S.p, 0, none⟩))] w fun u w' => u = .returned (.int .i64 (if N = 0 then 1 else 0)) ∧ ∃ nx left G', (N ≠ 0 → nx = M.nx ∧ left = .slice (some ⟨g, o + 2, none⟩) N (C - 1)) ∧ Env w0 (boxI a (av S.c { M with nx := nx, left := left }) :: LT { S with G := G', f := upd S.f (5, M.s, part) word, qc := { S.qc with s := wrap64 (S.qc.s + 1) }, m := S.m + 1 } (lieI g xs :: R)) w' := by
  have hmf := makeF
  have hah := ahead_store
  have HWF : Hid (Wf (5, M.s, part)) := Lib.hid (by unfold Wf; exact ⟨by unfold In64; omega, hms, hpt⟩)
  have HWD := Lib.hid hwd
  have r := hE.rule 0 rfl
  unfold av at r
  simp only [hleft] at r
  have c0 := hE.lies 5 rfl o _ h0
  have c1 := hE.lies 5 rfl (o + 1) _ h1
  have hlt : (0 : Int) < ((N + 1 : Nat) : Int) := by omega
  clear hpt hwd hms
  go_enter Tryz.func315, Tryz.ntmps315
  go_wp2_with fail
  have hE1 := (hE.box w.heap.size rfl [.int .i64 part, .int .u64 word] 356).perm (L' := boxI a (av S.c M) :: LT S (boxI w.heap.size [.int .i64 part, .int .u64 word] :: lieI g xs :: R)) (List.perm_middle (l₁ := [boxI a (av S.c M), _, _, _, _])).symm
  clear r c0 c1 hE
  generalize w.alloc _ = w1 at *
  generalize w.heap.size = Y at *
  refine Ord.wp_chain [14] (fun v => Blk 0 v a (av S.c M) ∧ Blk 0 v Y [.int .i64 part, .int .u64 word]) (fun k w' => ∃ G5, Env w0 (boxI a (av S.c M) :: LT (if k = 0 then S else { S with G := G5, f := upd S.f (5, M.s, part) word, qc := { S.qc with s := wrap64 (S.qc.s + 1) }, m := S.m + 1 }) (boxI Y [.int .i64 part, .int .u64 word] :: lieI g xs :: R)) w') (by kernel_rfl) (by kernel_rfl) (by kernel_rfl) ⟨hE1.drew.get 0 rfl, hE1.drew.get 5 rfl⟩ ⟨S.G, hE1.drew⟩ (fun hT => ?_)
  have hT9 := Lib.hid hT
  clear hT
  repeat (first
    | (refine Ord.ch_value (v := ?_) hT9.out (by decide) (by rfl) ?_ ?_; rotate_left; (focus (intro w5 hS; have r := hS.1.rule; have r1 := hS.2.rule; unfold av at r; go_simp <;> with_reducible rfl)); (try simp only [Act.put, List.setIfInBounds_toArray, List.set_cons_zero, List.set_cons_succ]))
    | (refine Ord.ch_off hT9.out (by decide) (by rfl) ?_; (try simp only [Act.put, List.setIfInBounds_toArray, List.set_cons_zero, List.set_cons_succ]))
    | (refine Ord.ch_call (v := ?_) (f := ?_) (args := ?_) hT9.out (by decide) (by rfl) ?_ ?_ ?_; rotate_left 3; (focus (intro w5 hS; have r := hS.1.rule; have r1 := hS.2.rule; unfold av at r; go_simp; constructor <;> with_reducible rfl)); (focus (intro w5 hS; (first | (with_reducible refine (part_any _ _ _ _).mono ?_; rintro e w6 ⟨rfl, hb6⟩; constructor; with_reducible rfl; exact ⟨⟨hS.1.under hb6, hS.2.under hb6⟩, fun k h => h.elim fun G5 h => ⟨G5, h.over hb6⟩⟩)))); (try simp only [Act.put, List.setIfInBounds_toArray, List.set_cons_zero, List.set_cons_succ])))
  refine Ord.ch_turn (v := .tuple #[]) 0 hT9.out rfl (by decide) (Or.inl rfl) (by rfl) ?_ ?_
  · rintro w5 hC5 ⟨G5, hA5⟩
    simp only [if_true] at hA5
    go_simp
    rw [method_store]
    simp only [Result.andThen_ok]
    go_simp
    simp only [Ord.LandsIn]
    refine (store_w 5 M.s part 0 word 0 false HWF.out HWD.out hm 3 4 (by decide) hA5 rfl rfl).mono ?_
    rintro e w6 ⟨rfl, G6, hE6⟩
    exact ⟨rfl, ⟨hE6.get 0 rfl, hE6.get 5 rfl⟩, G6, hE6⟩
  (try simp only [Act.put, List.setIfInBounds_toArray, List.set_cons_zero, List.set_cons_succ])
  repeat (first
    | (refine Ord.ch_value (v := ?_) hT9.out (by decide) (by rfl) ?_ ?_; rotate_left; (focus (intro w5 hS; skip; go_simp <;> with_reducible rfl)); (try simp only [Act.put, List.setIfInBounds_toArray, List.set_cons_zero, List.set_cons_succ]))
    | (refine Ord.ch_off hT9.out (by decide) (by rfl) ?_; (try simp only [Act.put, List.setIfInBounds_toArray, List.set_cons_zero, List.set_cons_succ])))
  refine Ord.InText.nil fun w5 hS => ?_
  clear hT9
  obtain ⟨hC9, hA9⟩ := Ord.chain_end hS
  clear hS
  obtain ⟨G9, hA9⟩ := hA9
  simp only [List.length_cons, List.length_nil, Nat.zero_add, Nat.one_ne_zero, if_false] at hA9
  replace hA9 := hA9.sub (L' := boxI a (av S.c M) :: LT { S with G := G9, f := upd S.f (5, M.s, part) word, qc := { S.qc with s := wrap64 (S.qc.s + 1) }, m := S.m + 1 } (lieI g xs :: R)) (.cons_cons _ (.cons_cons _ (.cons_cons _ (.cons_cons _ (.cons_cons _ (.cons _ (List.Sublist.refl _)))))))
  clear hC9 hE1
  have r := hA9.rule 0 rfl
  unfold av at r
  simp only [hleft] at r
  have f := hA9.thaw 0 rfl 18 (by simp [av])
  have hP := fun v => hA9.put 0 rfl (j := 18) (by simp [av]) v
  obtain _ | C := C
  · omega
  obtain _ | N := N
  · obtain _ | C := C
    · go_wp2_with fail
      refine (end_m 0 1 (by simp [av]) (hP _) rfl).mono ?_
      rintro o w7 ⟨rfl, nx, hE7⟩
      go_wp2_with fail
      go_ret
      first | exact ⟨rfl, nx, _, G9, fun h => absurd rfl h, hE7⟩ | exact ⟨rfl, nx, _, G9, hE7⟩ | exact ⟨rfl, nx.1, nx.2, _, G9, hE7⟩ | exact ⟨rfl, nx.1, nx.2, _, G9, fun h => absurd rfl h, hE7⟩
    · go_wp2_with fail
      refine (end_m 0 1 (by simp [av]) (hP _) rfl).mono ?_
      rintro o w7 ⟨rfl, nx, hE7⟩
      go_wp2_with fail
      go_ret
      first | exact ⟨rfl, nx, _, G9, fun h => absurd rfl h, hE7⟩ | exact ⟨rfl, nx, _, G9, hE7⟩ | exact ⟨rfl, nx.1, nx.2, _, G9, hE7⟩ | exact ⟨rfl, nx.1, nx.2, _, G9, fun h => absurd rfl h, hE7⟩
  · obtain _ | C := C
    · omega
    · go_wp2_with fail
      go_ret
      first | exact ⟨rfl, M.nx, _, ⟨rfl, rfl⟩, G9, hP _⟩ | exact ⟨rfl, M.nx.1, M.nx.2, _, ⟨rfl, rfl⟩, G9, hP _⟩
theorem method_born (k p : Nat) (w : World) : (method (k + 1) 26 (.pointer (some ⟨p, 0, none⟩)) "Born").run Tryz.prog w = .ok (358, .pointer (some ⟨p, 0, none⟩)) w := by kernel_rfl
set_option maxHeartbeats 3200000 in
theorem birth_a (x y : Int) (t : List Trip) (hql : S.ql = (x, y, 0) :: t) (hx : 1 ≤ x ∧ x ≤ S.cs) (hcs : S.cs ≤ 9223372036854775806) (hhs : S.hs = 0) (he : 0 ≤ S.ce ∧ S.ce ≤ 9223372036854775807) (hm : S.m < maxLen) (hz : Hid (M.nx.2 = .int .i64 0)) (hE : Env w0 (boxI a (av S.c M) :: LT S R) w) :
    Calls Tryz.prog 297 #[.pointer (some ⟨a, 0, none⟩), .iface 26 (.pointer (some ⟨S.p, 0, none⟩))] w fun u w' => u = .returned (.int .i64 0) ∧ ∃ g c G', (wordsA S.ck S.ce M.key M.val (IntKind.u64.wrap M.lv)).length ≤ c ∧ Env w0 (boxI a (av S.c { M with nx := nxA a 11, s := x, left := .slice (some ⟨g, 2, none⟩) ((wordsA S.ck S.ce M.key M.val (IntKind.u64.wrap M.lv)).length - 1) (c - 1) }) :: LT { S with ql := t, hs := x, G := G', f := upd S.f (5, x, 0) S.ce, qc := { S.qc with s := wrap64 (S.qc.s + 1) }, m := S.m + 1 } (lieI g (flat2 (wordsA S.ck S.ce M.key M.val (IntKind.u64.wrap M.lv))) :: R)) w' := by
  have hmf := makeF
  have hmb := method_born
  have r := hE.rule 0 rfl
  unfold av at r
  have hQ := hE.queue 2 rfl
  rw [hql] at hQ
  go_enter Tryz.func297, Tryz.ntmps297
  go_wp2_with fail
  refine (queue_c (hE.get 1 rfl)).mono ?_
  rintro o w1 ⟨rfl, rfl⟩
  go_wp2_with fail
  refine (head_any x y 0 hQ).mono ?_
  rintro o w2 ⟨rfl, hb⟩
  have hE1 := ((hE.over hb).box w2.heap.size rfl [.int .i64 x, .int .i64 y, .int .i64 0] 158).perm (L' := boxI a (av S.c M) :: LT S (boxI w2.heap.size [.int .i64 x, .int .i64 y, .int .i64 0] :: R)) (List.perm_middle (l₁ := [boxI a (av S.c M), _, _, _, _])).symm
  clear r hb hQ hE
  simp only [tv]
  go_wp2_with fail
  generalize w2.alloc _ = w3 at *
  generalize w2.heap.size = Y at *
  refine Ord.wp_chain [10] (fun v => Blk 0 v Y [.int .i64 x, .int .i64 y, .int .i64 0]) (fun k w' => Env w0 (boxI a (av S.c (if k = 0 then M else { M with s := x })) :: LT S (boxI Y [.int .i64 x, .int .i64 y, .int .i64 0] :: R)) w') (by kernel_rfl) (by kernel_rfl) (by kernel_rfl) (hE1.drew.get 5 rfl) hE1.drew (fun hT => ?_)
  have hT9 := Lib.hid hT
  clear hT
  repeat (first
    | (refine Ord.ch_value (v := ?_) hT9.out (by decide) (by rfl) ?_ ?_; rotate_left; (focus (intro w5 hS; have r := hS.rule; go_simp <;> with_reducible rfl)); (try simp only [Act.put, List.setIfInBounds_toArray, List.set_cons_zero, List.set_cons_succ]))
    | (refine Ord.ch_off hT9.out (by decide) (by rfl) ?_; (try simp only [Act.put, List.setIfInBounds_toArray, List.set_cons_zero, List.set_cons_succ]))
    | (refine Ord.ch_call (v := ?_) (f := ?_) (args := ?_) hT9.out (by decide) (by rfl) ?_ ?_ ?_; rotate_left 3; (focus (intro w5 hS; have r := hS.rule; go_simp; constructor <;> with_reducible rfl)); (focus (intro w5 hS; (first | (with_reducible refine (born_w _ _ _).mono ?_; rintro e w6 ⟨rfl, rfl⟩; constructor; with_reducible rfl; exact ⟨hS, fun k h => h⟩)))); (try simp only [Act.put, List.setIfInBounds_toArray, List.set_cons_zero, List.set_cons_succ])))
  refine Ord.ch_turn (v := undef) 0 hT9.out rfl (by decide) (Or.inl rfl) (by rfl) ?_ ?_
  · rintro w5 hC5 hA5
    simp only [if_true] at hA5
    have r := hA5.rule 0 rfl
    unfold av at r
    have f6 := hA5.thaw 0 rfl 16 (by simp [av])
    have f7 := hA5.thaw 0 rfl 17 (by simp [av])
    go_simp
    have h9 := (hA5.put 0 rfl (j := 16) (by simp [av]) (.int .i64 x)).put 0 rfl (j := 17) (by simp [av]) (.int .i64 0)
    replace h9 : Env w0 (boxI a (av S.c { M with s := x }) :: LT S (boxI Y [.int .i64 x, .int .i64 y, .int .i64 0] :: R)) _ := h9
    exact ⟨rfl, h9.get 5 rfl, h9⟩
  (try simp only [Act.put, List.setIfInBounds_toArray, List.set_cons_zero, List.set_cons_succ])
  repeat (first
    | (refine Ord.ch_value (v := ?_) hT9.out (by decide) (by rfl) ?_ ?_; rotate_left; (focus (intro w5 hS; skip; go_simp <;> with_reducible rfl)); (try simp only [Act.put, List.setIfInBounds_toArray, List.set_cons_zero, List.set_cons_succ]))
    | (refine Ord.ch_off hT9.out (by decide) (by rfl) ?_; (try simp only [Act.put, List.setIfInBounds_toArray, List.set_cons_zero, List.set_cons_succ])))
  refine Ord.InText.nil fun w5 hS => ?_
  clear hT9
  obtain ⟨hC9, hA9⟩ := Ord.chain_end hS
  clear hS
  simp only [List.length_cons, List.length_nil, Nat.zero_add, Nat.one_ne_zero, if_false] at hA9
  clear hC9 hE1
  replace hA9 := hA9.sub (L' := boxI a (av S.c { M with s := x }) :: LT S R) (.cons_cons _ (.cons_cons _ (.cons_cons _ (.cons_cons _ (.cons_cons _ (.cons _ (List.Sublist.refl _)))))))
  have hQ := hA9.queue 2 rfl
  rw [hql] at hQ
  go_wp2_with fail
  refine (pop_any x y 0 hQ).mono ?_
  rintro o w6 ⟨rfl, hQ6, hs6⟩
  have hE6 : Env w0 (boxI a (av S.c { M with s := x }) :: LT { S with ql := t } R) w6 := hA9.turnQ 2 rfl hQ6 hs6
  clear hQ hQ6 hs6 hA9
  go_wp2_with fail
  refine Ord.wp_chain [9] (fun v => Blk 0 v a (av S.c { M with s := x })) (fun k w' => Env w0 (boxI a (av S.c { M with s := x }) :: LT (if k = 0 then { S with ql := t } else { S with ql := t, hs := x }) R) w') (by kernel_rfl) (by kernel_rfl) (by kernel_rfl) (hE6.drew.get 0 rfl) hE6.drew (fun hT => ?_)
  have hT9 := Lib.hid hT
  clear hT
  repeat (first
    | (refine Ord.ch_value (v := ?_) hT9.out (by decide) (by rfl) ?_ ?_; rotate_left; (focus (intro w5 hS; have r := hS.rule; unfold av at r; go_simp <;> with_reducible rfl)); (try simp only [Act.put, List.setIfInBounds_toArray, List.set_cons_zero, List.set_cons_succ]))
    | (refine Ord.ch_off hT9.out (by decide) (by rfl) ?_; (try simp only [Act.put, List.setIfInBounds_toArray, List.set_cons_zero, List.set_cons_succ]))
    | (refine Ord.ch_call (v := ?_) (f := ?_) (args := ?_) hT9.out (by decide) (by rfl) ?_ ?_ ?_; rotate_left 3; (focus (intro w5 hS; have r := hS.rule; unfold av at r; go_simp; constructor <;> with_reducible rfl)); (focus (intro w5 hS; (first | fail))); (try simp only [Act.put, List.setIfInBounds_toArray, List.set_cons_zero, List.set_cons_succ])))
  refine Ord.ch_turn (v := .int .i64 0) 0 hT9.out rfl (by decide) (Or.inl rfl) (by rfl) ?_ ?_
  · rintro w5 hC5 hA5
    simp only [if_true] at hA5
    go_simp
    simp only [Ord.LandsIn]
    refine (holdYes_c x 0 hhs hx 1 hA5 rfl).mono ?_
    rintro e w6 ⟨rfl, hE7⟩
    exact ⟨rfl, hE7.get 0 rfl, hE7⟩
  (try simp only [Act.put, List.setIfInBounds_toArray, List.set_cons_zero, List.set_cons_succ])
  repeat (first
    | (refine Ord.ch_value (v := ?_) hT9.out (by decide) (by rfl) ?_ ?_; rotate_left; (focus (intro w5 hS; skip; go_simp <;> with_reducible rfl)); (try simp only [Act.put, List.setIfInBounds_toArray, List.set_cons_zero, List.set_cons_succ]))
    | (refine Ord.ch_off hT9.out (by decide) (by rfl) ?_; (try simp only [Act.put, List.setIfInBounds_toArray, List.set_cons_zero, List.set_cons_succ])))
  refine Ord.InText.nil fun w5 hS => ?_
  clear hT9
  obtain ⟨hC9, hA9⟩ := Ord.chain_end hS
  clear hS
  simp only [List.length_cons, List.length_nil, Nat.zero_add, Nat.one_ne_zero, if_false] at hA9
  clear hC9 hE6
  have r := hA9.rule 0 rfl
  unfold av at r
  go_wp2_with fail
  refine (words_a (S := { S with ql := t, hs := x }) (M := { M with s := x }) he hA9).mono ?_
  rintro o w7 ⟨g, c, rfl, hgc, hE7⟩
  replace hE7 := hE7.perm (L' := boxI a (av S.c { M with s := x }) :: LT { S with ql := t, hs := x } (lieI g (flat2 (wordsA S.ck S.ce M.key M.val (IntKind.u64.wrap M.lv))) :: R)) (List.perm_middle (l₁ := [boxI a (av S.c { M with s := x }), _, _, _, _])).symm
  clear r hA9
  have hle : 3 ≤ (wordsA S.ck S.ce M.key M.val (IntKind.u64.wrap M.lv)).length := by unfold wordsA; simp
  have h0 : (flat2 (wordsA S.ck S.ce M.key M.val (IntKind.u64.wrap M.lv)))[0]? = some (.int .i64 0) := by simp [wordsA, flat2]
  have h1 : (flat2 (wordsA S.ck S.ce M.key M.val (IntKind.u64.wrap M.lv)))[0 + 1]? = some (.int .u64 S.ce) := by simp [wordsA, flat2]
  generalize hWW : wordsA S.ck S.ce M.key M.val (IntKind.u64.wrap M.lv) = W at *
  have HWW := Lib.hid hWW
  clear hWW
  obtain ⟨N, hN⟩ : ∃ N, W.length = N + 1 := ⟨W.length - 1, by omega⟩
  have HN := Lib.hid hN
  rw [hN] at hgc hle ⊢
  simp only [hN]
  have hN0 : N ≠ 0 := by omega
  clear hN hle
  have r := hE7.rule 0 rfl
  unfold av at r
  have f6 := hE7.thaw 0 rfl 18 (by simp [av])
  have h7 := hE7.put 0 rfl (j := 18) (by simp [av]) (.slice (some ⟨g, 0, none⟩) (N + 1) c)
  have hgo := goOn_m (fn := .func 315) (fs := #[.pointer (some ⟨a, 0, none⟩)]) (cs := #[]) 0 (by simp [av]) (by exact congrArg some hz.out) h7 rfl
  have HGO := Lib.hid hgo
  clear hgo h7
  go_wp2_with fail
  refine HGO.out.mono ?_
  rintro o w9 ⟨rfl, h8⟩
  replace h8 : Env w0 (boxI a (av S.c { M with nx := nxA a 11, s := x, left := .slice (some ⟨g, 0, none⟩) (N + 1) c }) :: LT { S with ql := t, hs := x } (lieI g (flat2 W) :: R)) _ := h8
  clear HGO f6 r hE7
  have hst := store_a (S := { S with ql := t, hs := x }) (M := { M with nx := nxA a 11, s := x, left := .slice (some ⟨g, 0, none⟩) (N + 1) c }) g 0 N c 0 S.ce hgc (by unfold In64; omega) (by unfold InU; omega) (by unfold In64; dsimp only; omega) hm rfl h0 h1 h8
  have HST := Lib.hid hst
  clear hst h8 he hx hcs
  go_wp2_with fail
  refine HST.out.mono ?_
  rintro o w8 ⟨rfl, nx, left, G', hnl, hE8⟩
  obtain ⟨rfl, rfl⟩ := hnl hN0
  rw [if_neg hN0]
  go_wp2_with fail
  go_ret
  rw [HWW.out, HN.out]
  exact ⟨rfl, g, c, G', hgc, hE8⟩
end
end Go.Proofs.YtdknbegcflldjaaGreatDoor

/- Allocs: contracts of New and Step. -/
namespace Go.Proofs.YtdknbegcflldjaaGreatDoor
open Go.RowKit Go.Maps
set_option maxRecDepth 100000

theorem enters_fn (pc : Nat) (ar : Array Value) (v : World) : (callFunc (fnA pc) ar).run Tryz.prog v = .ok (.enter (fnA pc) ar) v := by
  unfold fnA
  repeat' split
  all_goals kernel_rfl

section
variable {w0 w : World} {R : List Item} {a : Nat} {S : ST} {M : MA}
set_option maxHeartbeats 800000 in
theorem step_a (pc : Nat) (u : Value) (Q : Ending → World → Prop) (hE : Env w0 (boxI a (av S.c M) :: LT S R) w) (hnx : M.nx = nxA a pc)
    (hc : Calls Tryz.prog (fnA pc) #[.pointer (some ⟨a, 0, none⟩), u] w fun e w' => ∃ s, e = .returned (.int .i64 s) ∧ Q (.returned (.int .i64 s)) w') :
    Calls Tryz.prog 251 #[.pointer (some ⟨a, 0, none⟩), u] w Q := by
  have hn : w.cell? ⟨a, 1, none⟩ = some (.func (.func (fnA pc)) #[.pointer (some ⟨a, 0, none⟩)] #[]) := by
    have := hE.rule 0 rfl 1
    rw [this, show (av S.c M)[1]? = some M.nx.1 from rfl, hnx]
    rfl
  have hs0 : w.cell? ⟨a, 1 + 1, none⟩ = some (.int .i64 0) := by
    have := hE.rule 0 rfl 2
    rw [this, show (av S.c M)[2]? = some M.nx.2 from rfl, hnx]
    rfl
  have hst := stepMv_r (o := 1) (fnA pc) (enters_fn pc) (.pointer (some ⟨a, 0, none⟩)) u (fun o w' => ∃ s, o = .returned (.int .i64 s) ∧ Q (.returned (.int .i64 s)) w') hn hs0 (hc.mono fun e w' ⟨s, he, hq⟩ => ⟨s, he, s, rfl, hq⟩)
  have HST := Lib.hid hst
  clear hst hc
  go_enter Tryz.func251, Tryz.ntmps251
  go_wp2_with fail
  refine HST.out.mono ?_
  rintro o w1 ⟨s, rfl, hQ⟩
  go_wp2_with fail
  exact hQ
theorem step_ay {st : Int} {Y : World → Prop} (pc : Nat) (u : Value) (hE : Env w0 (boxI a (av S.c M) :: LT S R) w) (hnx : M.nx = nxA a pc)
    (hc : Calls Tryz.prog (fnA pc) #[.pointer (some ⟨a, 0, none⟩), u] w fun o w' => o = .returned (.int .i64 st) ∧ Y w') :
    Calls Tryz.prog 251 #[.pointer (some ⟨a, 0, none⟩), u] w fun o w' => o = .returned (.int .i64 st) ∧ Y w' :=
  step_a pc u _ hE hnx (hc.mono fun _ _ h => ⟨st, h.1, rfl, h.2⟩)
theorem stepNil_a (u : Value) (w : World) : Calls Tryz.prog 251 #[.pointer none, u] w fun o w' => o = .returned (.int .i64 1) ∧ w' = w := by
  go_enter Tryz.func251, Tryz.ntmps251
  go_wp2
  go_ret
  exact ⟨rfl, rfl⟩
theorem newNil_a (k key val lv : Int) (w : World) : Calls Tryz.prog 249 #[.pointer none, .agg #[.int .i64 k, .int .u64 key, .int .u64 val, .int .i64 lv]] w fun o w' => o = .returned (.tuple #[.pointer none, .int .i64 1]) ∧ Below w.heap.size w w' := by
  go_enter Tryz.func249, Tryz.ntmps249
  go_wp2
  go_ret2
  exact ⟨rfl, (Below.refl _ _).alloc (Nat.le_refl _) _⟩
set_option maxHeartbeats 1600000 in
theorem newHeld_a (k key val lv : Int) (hh : S.hs ≠ 0) (hE : Env w0 (LT S R) w) :
    Calls Tryz.prog 249 #[.pointer (some ⟨S.c, 0, none⟩), .agg #[.int .i64 k, .int .u64 key, .int .u64 val, .int .i64 lv]] w fun o w' => o = .returned (.tuple #[.pointer none, .int .i64 1]) ∧ Env w0 (LT S R) w' := by
  have hE1 := hE.box w.heap.size rfl [.int .i64 k, .int .u64 key, .int .u64 val, .int .i64 lv] 50
  have hb : (S.hs != 0) = true := by simpa using hh
  clear hE
  go_enter Tryz.func249, Tryz.ntmps249
  go_wp2_with fail
  refine (held_c (hE1.get 1 rfl)).mono ?_
  rintro o w1 ⟨rfl, hb1⟩
  rw [hb]
  have hE2 := (hE1.over hb1).more (.cells [.int .i64 S.hs, .int .i64 0].toArray 136)
  go_wp2_with fail
  go_ret2
  exact ⟨rfl, hE2.sub (.cons _ (List.Sublist.refl _))⟩
set_option maxHeartbeats 1600000 in
theorem new_a (k key val lv : Int) (hh : S.hs = 0) (hE : Env w0 (LT S R) w) :
    Calls Tryz.prog 249 #[.pointer (some ⟨S.c, 0, none⟩), .agg #[.int .i64 k, .int .u64 key, .int .u64 val, .int .i64 lv]] w fun o w' => (decP S.ql S.ce S.cl = 0 ∧ o = .returned (.tuple #[.pointer none, .int .i64 4]) ∧ Env w0 (LT S R) w') ∨ (decP S.ql S.ce S.cl ≠ 0 ∧ ∃ a, o = .returned (.tuple #[.pointer (some ⟨a, 0, none⟩), .int .i64 0]) ∧ Env w0 (boxI a (av S.c { nx := nxA a (decP S.ql S.ce S.cl), left := .slice none 0 0, k := k, key := key, val := val, lv := lv, h := 0, n := 0, r := 0, s := 0 }) :: LT S R) w') := by
  have hE1 := hE.box w.heap.size rfl [.int .i64 k, .int .u64 key, .int .u64 val, .int .i64 lv] 50
  have hb : (S.hs != 0) = false := by simpa using hh
  clear hE
  go_enter Tryz.func249, Tryz.ntmps249
  go_wp2_with fail
  refine (held_c (hE1.get 1 rfl)).mono ?_
  rintro o w1 ⟨rfl, hb1⟩
  rw [hb]
  have hE2 := (hE1.over hb1).more (.cells [.int .i64 0, .int .i64 0].toArray 136)
  clear hb1 hE1
  have r0 := hE2.rule 0 rfl
  go_wp2_with fail
  have hE3 := (hE2.box (w1.heap.size + 1) (by simp) (av S.c { nx := (.nilFunc, .int .i64 0), left := .slice none 0 0, k := k, key := key, val := val, lv := lv, h := 0, n := 0, r := 0, s := 0 }) 332).sub (L' := boxI (w1.heap.size + 1) (av S.c { nx := (.nilFunc, .int .i64 0), left := .slice none 0 0, k := k, key := key, val := val, lv := lv, h := 0, n := 0, r := 0, s := 0 }) :: LT S R) (.cons_cons _ (.cons _ (List.Sublist.refl _)))
  refine (decide_a (Lib.hid rfl) hE3).mono ?_
  rintro o w2 ⟨rfl, nx, hnx, hE4⟩
  clear r0 hE2 hE3
  by_cases hd : decP S.ql S.ce S.cl = 0
  · have hds : decS S.ql S.ce S.cl = 4 := by unfold decS; rw [if_pos hd]
    rw [hds]
    have HD := Lib.hid hd
    clear hd hds hnx
    go_wp2_with fail
    go_ret2
    exact .inl ⟨HD.out, rfl, hE4.sub (.cons _ (List.Sublist.refl _))⟩
  · have hds : decS S.ql S.ce S.cl = 0 := by unfold decS; rw [if_neg hd]
    rw [hds]
    have HD := Lib.hid hd
    have HNX := Lib.hid (hnx hd)
    clear hd hds hnx
    go_wp2_with fail
    go_ret2
    rw [HNX.out] at hE4
    exact .inr ⟨HD.out, _, rfl, hE4⟩
end
end Go.Proofs.YtdknbegcflldjaaGreatDoor
