/- What is proved on the way to the statement, part 5 of 17: contracts of the functions, among other things in memory. -/
import Derived.Test.YtdknbegcflldjaaGreatDoorE4
import Derived.Laws.OwnMore

/- Allocs: what they are in memory, among a thread's things and the world's; how they decide. -/
namespace Go.Proofs.YtdknbegcflldjaaGreatDoor
open Go.RowKit Go.Maps
set_option maxRecDepth 100000

/-- An Alloc's things. -/
structure MA where
  (nx : Value × Value)
  (left : Value)
  (k key val lv h n r s : Int)
def av (c : Nat) (M : MA) : List Value := [.pointer (some ⟨c, 0, none⟩), M.nx.1, M.nx.2, .int .i64 M.k, .int .u64 M.key, .int .u64 M.val, .int .i64 M.lv, .int .u64 M.h, .int .i64 0, .bool false, .int .u64 M.n, .int .i64 0, .bool false, .int .u64 M.r, .int .i64 0, .bool false, .int .i64 M.s, .int .i64 0, M.left]
/-- Which function is the next row. -/
def fnA (pc : Nat) : Nat := if pc = 1 then 298 else if pc = 2 then 296 else if pc = 3 then 311 else if pc = 4 then 327 else if pc = 5 then 334 else if pc = 6 then 338 else if pc = 10 then 297 else 315
def nxA (a pc : Nat) : Value × Value := (mvL (fnA pc) a, .int .i64 0)
/-- Where an Alloc goes on, by the thread's queue, epoch and limit; 0: it is too late. -/
def decP : List Trip → Int → Int → Nat
  | [], _, _ => 2
  | (_, y, _) :: _, e, l => if y < e then 10 else if l ≤ e then 0 else 1
def decS (ql : List Trip) (e l : Int) : Int := if decP ql e l = 0 then 4 else 0

theorem limit_of (v : World) (a b c d e : Int) : (Instr.field 58 (.agg #[.int .i64 a, .int .i64 b, .int .i64 c, .int .i64 d, .int .i64 e]) 4).run Tryz.prog v = .ok (.int .i64 e) v := by kernel_rfl
theorem slots_of (v : World) (a b c d e : Int) : (Instr.field 58 (.agg #[.int .i64 a, .int .i64 b, .int .i64 c, .int .i64 d, .int .i64 e]) 1).run Tryz.prog v = .ok (.int .i64 b) v := by kernel_rfl
theorem kind_of (v : World) (a b c d e : Int) : (Instr.field 58 (.agg #[.int .i64 a, .int .i64 b, .int .i64 c, .int .i64 d, .int .i64 e]) 0).run Tryz.prog v = .ok (.int .i64 a) v := by kernel_rfl
section
variable {w0 w : World} {R : List Item} {a : Nat} {S : ST} {M : MA}
set_option maxHeartbeats 1600000 in
theorem decide_a (hz : Hid (M.nx.2 = .int .i64 0)) (hE : Env w0 (boxI a (av S.c M) :: LT S R) w) :
    Calls Tryz.prog 279 #[.pointer (some ⟨a, 0, none⟩)] w fun o w' => o = .returned (.int .i64 (decS S.ql S.ce S.cl)) ∧ ∃ nx, (decP S.ql S.ce S.cl ≠ 0 → nx = nxA a (decP S.ql S.ce S.cl)) ∧ Env w0 (boxI a (av S.c { M with nx := nx }) :: LT S R) w' := by
  have hmf := makeF
  have r := hE.rule 0 rfl
  unfold av at r
  have hlo := limit_of
  have HA := Lib.hid (show 298 = fnA 1 from rfl)
  go_enter Tryz.func279, Tryz.ntmps279
  go_wp2_with fail
  refine (queue_c (hE.get 1 rfl)).mono ?_
  rintro o w1 ⟨rfl, rfl⟩
  go_wp2_with fail
  have hQ := hE.queue 2 rfl
  rcases hq : S.ql with _ | ⟨⟨x, y, z⟩, t⟩
  · rw [hq] at hQ
    refine (headNone_any hQ).mono ?_
    rintro o w2 ⟨rfl, hb⟩
    replace hE := (hE.over hb).box w2.heap.size rfl [.int .i64 0, .int .i64 0, .int .i64 0] 158
    clear hb r hQ
    simp only [tv, t0]
    have r := hE.rule 1 rfl
    unfold av at r
    go_wp2_with fail
    refine (epoch_c (hE.get 2 rfl)).mono ?_
    rintro o w3 ⟨rfl, rfl⟩
    go_wp2_with fail
    refine (goOn_m 1 _ _ _ (by simp [av]) (by exact congrArg some hz.out) hE rfl).mono ?_
    rintro o w4 ⟨rfl, hE4⟩
    go_wp2_with fail
    go_ret
    have hp : decP S.ql S.ce S.cl = 2 := by rw [hq]; rfl
    unfold decS
    rw [hp]
    exact ⟨rfl, nxA a 2, fun _ => rfl, hE4.sub (.cons _ (List.Sublist.refl _))⟩
  · rw [hq] at hQ
    refine (head_any x y z hQ).mono ?_
    rintro o w2 ⟨rfl, hb⟩
    replace hE := (hE.over hb).box w2.heap.size rfl [.int .i64 x, .int .i64 y, .int .i64 z] 158
    clear hb r hQ
    simp only [tv]
    have r := hE.rule 1 rfl
    have rX := hE.rule 0 rfl
    unfold av at r
    by_cases hy : y < S.ce
    · have hyb : decide (y < S.ce) = true := by simpa using hy
      go_wp2_with fail
      refine (epoch_c (hE.get 2 rfl)).mono ?_
      rintro o w3 ⟨rfl, rfl⟩
      go_wp2_with fail
      refine (goOn_m 1 _ _ _ (by simp [av]) (by exact congrArg some hz.out) hE rfl).mono ?_
      rintro o w4 ⟨rfl, hE4⟩
      go_wp2_with fail
      go_ret
      have hp : decP S.ql S.ce S.cl = 10 := by rw [hq]; simp [decP, hy]
      unfold decS
      rw [hp]
      exact ⟨rfl, nxA a 10, fun _ => rfl, hE4.sub (.cons _ (List.Sublist.refl _))⟩
    · have hyb : decide (y < S.ce) = false := by simpa using hy
      by_cases hl : S.cl ≤ S.ce
      · have hlb : decide (S.cl ≤ S.ce) = true := by simpa using hl
        go_wp2_with fail
        refine (epoch_c (hE.get 2 rfl)).mono ?_
        rintro o w3 ⟨rfl, rfl⟩
        go_wp2_with fail
        refine (conf_c (hE.get 2 rfl)).mono ?_
        rintro o w4 ⟨rfl, hb⟩
        replace hE := hE.over hb
        clear hb r rX
        have r := hE.rule 1 rfl
        unfold av at r
        go_wp2_with fail
        refine (end_m 1 4 (by simp [av]) hE rfl).mono ?_
        rintro o w5 ⟨rfl, nx, hE5⟩
        go_wp2_with fail
        go_ret
        have hp : decP S.ql S.ce S.cl = 0 := by rw [hq]; simp [decP, hy, hl]
        unfold decS
        rw [hp]
        exact ⟨rfl, nx, fun h => absurd rfl h, hE5.sub (.cons _ (List.Sublist.refl _))⟩
      · have hlb : decide (S.cl ≤ S.ce) = false := by simpa using hl
        go_wp2_with fail
        refine (epoch_c (hE.get 2 rfl)).mono ?_
        rintro o w3 ⟨rfl, rfl⟩
        go_wp2_with fail
        refine (conf_c (hE.get 2 rfl)).mono ?_
        rintro o w4 ⟨rfl, hb⟩
        replace hE := hE.over hb
        clear hb r rX
        have r := hE.rule 1 rfl
        unfold av at r
        go_wp2_with fail
        refine (goOn_m 1 _ _ _ (by simp [av]) (by exact congrArg some hz.out) hE rfl).mono ?_
        rintro o w5 ⟨rfl, hE5⟩
        go_wp2_with fail
        go_ret
        have hp : decP S.ql S.ce S.cl = 1 := by rw [hq]; simp only [decP]; rw [if_neg (by omega), if_neg (by omega)]
        unfold decS
        rw [hp]
        exact ⟨rfl, nxA a 1, fun _ => rfl, hE5.sub (.cons _ (List.Sublist.refl _))⟩

set_option maxHeartbeats 1600000 in
theorem came_a (x y : Int) (hl : S.ql.length + 1 ≤ 1048576) (hz : Hid (M.nx.2 = .int .i64 0)) (hE : Env w0 (boxI a (av S.c M) :: LT S R) w) :
    Calls Tryz.prog 312 #[.pointer (some ⟨a, 0, none⟩), .agg #[.int .i64 x, .int .i64 y, .int .i64 0]] w fun o w' => o = .returned (.int .i64 (decS (S.ql ++ [(x, y, 0)]) S.ce S.cl)) ∧ ∃ nx k' F', (decP (S.ql ++ [(x, y, 0)]) S.ce S.cl ≠ 0 → nx = nxA a (decP (S.ql ++ [(x, y, 0)]) S.ce S.cl)) ∧ Rm S.kq (S.ql.length + 1) k' ∧ Env w0 (boxI a (av S.c { M with nx := nx }) :: LT { S with ql := S.ql ++ [(x, y, 0)], kq := k', F := F' } R) w' := by
  replace hE := hE.box w.heap.size rfl [.int .i64 x, .int .i64 y, .int .i64 0] 158
  go_enter Tryz.func312, Tryz.ntmps312
  go_wp2_with fail
  generalize w.alloc _ = w2 at *
  generalize w.heap.size = Y at *
  refine Ord3.wp_chain [?_, ?_, ?_, ?_, ?_, ?_, ?_, ?_, ?_] [7, 8] (fun w' => Blk 0 w' a (av S.c M) ∧ Blk 0 w' S.c (crv S.ck S.cs S.cb S.ch S.cl S.ce S.cr S.hs 0 S.q) ∧ Blk 0 w' Y [.int .i64 x, .int .i64 y, .int .i64 0]) (Ord3.Stage fun κs => [Env w0 (boxI Y [.int .i64 x, .int .i64 y, .int .i64 0] :: boxI a (av S.c M) :: LT S R), fun w' => ∃ z, κs.getD 0 undef = .slice (some ⟨z, 0, none⟩) 1 1 ∧ Env w0 (boxI z [.int .i64 x, .int .i64 y, .int .i64 0] :: boxI Y [.int .i64 x, .int .i64 y, .int .i64 0] :: boxI a (av S.c M) :: LT S R) w', fun w' => ∃ k', Rm S.kq (S.ql.length + 1) k' ∧ ∃ F' z, Env w0 (boxI z [.int .i64 x, .int .i64 y, .int .i64 0] :: boxI Y [.int .i64 x, .int .i64 y, .int .i64 0] :: boxI a (av S.c M) :: LT { S with ql := S.ql ++ [(x, y, 0)], kq := k', F := F' } R) w']) (by kernel_rfl) (by kernel_rfl) (by kernel_rfl) ⟨hE.drew.get 1 rfl, hE.drew.get 2 rfl, hE.drew.get 0 rfl⟩ ⟨_, rfl, hE.drew⟩ (fun hT => ?_)
  rotate_left 9
  have hT9 := Lib.hid hT
  clear hT
  repeat (first
    | (focus (refine Ord3.in_value (v := ?_) hT9.out (by decide) ?_ (by rfl) ?_ ?_; rotate_left 2; (focus (intro w5 hS; have r1 := Blk.rule hS.1; have r2 := Blk.rule hS.2.2; unfold av at r1; go_simp <;> with_reducible rfl)); rotate_right; (focus rfl); (try simp only [Act.put, List.setIfInBounds_toArray, List.set_cons_zero, List.set_cons_succ])))
    | (focus (refine Ord3.in_off hT9.out (by decide) ?_ (by rfl) ?_; (focus rfl); (try simp only [Act.put, List.setIfInBounds_toArray, List.set_cons_zero, List.set_cons_succ])))
    | (focus (refine Ord3.in_call (v := ?_) (f := ?_) (args := ?_) hT9.out (by decide) ?_ (by rfl) ?_ ?_ ?_; rotate_left 4; (focus (intro w5 hS; have r1 := Blk.rule hS.1; have r2 := Blk.rule hS.2.2; unfold av at r1; go_simp; constructor <;> with_reducible rfl)); (focus (intro w5 hS; (first | (with_reducible refine (queue_c hS.2.1).mono ?_; rintro o w6 ⟨rfl, rfl⟩; constructor; with_reducible rfl; exact ⟨hS, fun _ h => h⟩)))); rotate_right; (focus rfl); (try simp only [Act.put, List.setIfInBounds_toArray, List.set_cons_zero, List.set_cons_succ]))))
  refine Ord3.in_turn (fun u => ∃ z, u = .slice (some ⟨z, 0, none⟩) 1 1) _ ⟨0, rfl⟩ hT9.out rfl (by decide) (by rfl) ?_ (Or.inl rfl) (by rfl) ?_ ?_
  · rfl
  · rintro w7 hC7 ⟨P7, hP7, hA7⟩
    cases hP7
    go_simp
    simp only [Ord3.Lands]
    have hE8 := hA7.box w7.heap.size rfl [.int .i64 x, .int .i64 y, .int .i64 0] 158
    exact ⟨⟨_, rfl⟩, ⟨hE8.get 2 rfl, hE8.get 3 rfl, hE8.get 1 rfl⟩, _, rfl, w7.heap.size, rfl, hE8⟩
  rintro _ ⟨z9, rfl⟩
  (try simp only [Act.put, List.setIfInBounds_toArray, List.set_cons_zero, List.set_cons_succ])
  refine Ord3.in_turn (fun u => u = .int .i64 0) _ rfl hT9.out rfl (by decide) (by rfl) ?_ (Or.inr ⟨_, 7, [], rfl, by kernel_rfl, by kernel_rfl, rfl⟩) (by rfl) ?_ ?_
  · rfl
  · rintro w7 hC7 ⟨P7, hP7, hA7⟩
    cases hP7
    obtain ⟨z8, he, hA7⟩ := hA7
    cases he
    go_simp
    simp only [Ord3.Lands]
    have hA : Row3 w7 (some ⟨z9, 0, none⟩) [(x, y, 0)] := Blk.row3 (l := [(x, y, 0)]) (hA7.get 0 rfl)
    refine (push_any (l := S.ql) (xs := [(x, y, 0)]) (A := some ⟨z9, 0, none⟩) (cap := 1) (by simp; omega) hA (fun _ b hb hFb => ?_) (hA7.queue 4 rfl)).mono ?_
    · obtain ⟨off, he⟩ := hb
      cases he
      exact (hA7.off (i := 0) (j := 4) rfl rfl (by omega)) z9 rfl hFb
    rintro o w8 ⟨rfl, k8, F8, hrm, hQ8, hs8⟩
    have hE8 := hA7.turnQ 4 rfl hQ8 hs8
    exact ⟨_, rfl, rfl, ⟨hE8.get 2 rfl, hE8.get 3 rfl, hE8.get 1 rfl⟩, _, rfl, k8, by simpa using hrm, F8, z9, hE8⟩
  rintro _ rfl
  (try simp only [Act.put, List.setIfInBounds_toArray, List.set_cons_zero, List.set_cons_succ])
  refine Ord3.in_nil rfl ?_
  rintro w9 hC9 ⟨P9, hP9, hA9⟩
  cases hP9
  obtain ⟨k8, hrm, F8, z8, hA9⟩ := hA9
  clear hT9 hC9
  have hE9 := hA9.sub (.cons _ (.cons _ (List.Sublist.refl _)))
  go_wp2_with fail
  refine (decide_a (S := { S with ql := S.ql ++ [(x, y, 0)], kq := k8, F := F8 }) hz hE9).mono ?_
  rintro o w10 ⟨rfl, nx, hnx, hE10⟩
  go_wp2_with fail
  go_ret
  exact ⟨rfl, nx, k8, F8, hnx, hrm, hE10⟩
end
end Go.Proofs.YtdknbegcflldjaaGreatDoor

/- The plain world behind its interface: which methods. General. -/
namespace Go.Proofs.YtdknbegcflldjaaGreatDoor
open Go.RowKit Go.Maps
set_option maxRecDepth 100000

theorem method_swap (k p : Nat) (w : World) : (method (k + 1) 26 (.pointer (some ⟨p, 0, none⟩)) "Swap").run Tryz.prog w = .ok (361, .pointer (some ⟨p, 0, none⟩)) w := by kernel_rfl

theorem ahead_swap (k p : Nat) (w : World) : (nilAhead (k + 1) 26 (.pointer (some ⟨p, 0, none⟩)) "Swap").run Tryz.prog w = .ok (some false) w := by kernel_rfl
theorem ahead_load (k p : Nat) (w : World) : (nilAhead (k + 1) 26 (.pointer (some ⟨p, 0, none⟩)) "Load").run Tryz.prog w = .ok (some false) w := by kernel_rfl
/-- One of three. -/
def pick3 {α : Type _} (a b c : α) : Nat → α
  | 0 => a
  | 1 => b
  | _ => c
theorem wrapU (x : Int) (h0 : 0 ≤ x) (h1 : x ≤ 18446744073709551615) : IntKind.u64.wrap x = x := by
  rw [IntKind.wrap_u64]
  exact Int.emod_eq_of_lt h0 (by omega)
end Go.Proofs.YtdknbegcflldjaaGreatDoor

/- Allocs: contracts of the rows a1, f1, p1 to p4. -/
namespace Go.Proofs.YtdknbegcflldjaaGreatDoor
open Go.RowKit Go.Maps
set_option maxRecDepth 100000

theorem method_add (k p : Nat) (w : World) : (method (k + 1) 26 (.pointer (some ⟨p, 0, none⟩)) "Add").run Tryz.prog w = .ok (357, .pointer (some ⟨p, 0, none⟩)) w := by kernel_rfl
theorem ahead_add (k p : Nat) (w : World) : (nilAhead (k + 1) 26 (.pointer (some ⟨p, 0, none⟩)) "Add").run Tryz.prog w = .ok (some false) w := by kernel_rfl
theorem ahead_store (k p : Nat) (w : World) : (nilAhead (k + 1) 26 (.pointer (some ⟨p, 0, none⟩)) "Store").run Tryz.prog w = .ok (some false) w := by kernel_rfl
section
variable {w0 w : World} {R : List Item} {a : Nat} {S : ST} {M : MA}
set_option maxHeartbeats 1600000 in
theorem advance_a (he : 0 ≤ S.ce ∧ S.ce ≤ 9223372036854775807) (hm : S.m < maxLen) (hE : Env w0 (boxI a (av S.c M) :: LT S R) w) :
    Calls Tryz.prog 298 #[.pointer (some ⟨a, 0, none⟩), .iface 26 (.pointer (some ⟨S.p, 0, none⟩))] w fun o w' => o = .returned (.int .i64 2) ∧ ∃ nx G', Env w0 (boxI a (av S.c { M with nx := nx }) :: LT { S with G := G', f := swf S.f (1, 0, 0) S.ce (S.ce + 1), qc := swq S.qc (decide (S.f (1, 0, 0) = S.ce)), m := S.m + 1 } R) w' := by
  have hmf := makeF
  have hah := ahead_swap
  have hw1 : IntKind.u64.wrap S.ce = S.ce := wrapU _ (by omega) (by omega)
  have hw2 : IntKind.u64.wrap (S.ce + 1) = S.ce + 1 := wrapU _ (by omega) (by omega)
  have HW2 := Lib.hid hw2
  clear hw2
  have hiv : InU (S.ce + 1) := by unfold InU; omega
  have HIV := Lib.hid hiv
  clear hiv he
  have r := hE.rule 0 rfl
  unfold av at r
  go_enter Tryz.func298, Tryz.ntmps298
  go_wp2_with (first | (refine (epoch_c (hE.get 1 rfl)).mono ?_; rintro o w1 ⟨rfl, rfl⟩))
  clear r
  refine Ord.wp_chain [11] (fun _ => True) (fun k w' => ∃ G', Env w0 (if k = 0 then (boxI a (av S.c M) :: LT S R) else (boxI a (av S.c M) :: LT { S with G := G', f := swf S.f (1, 0, 0) S.ce (S.ce + 1), qc := swq S.qc (decide (S.f (1, 0, 0) = S.ce)), m := S.m + 1 } R)) w') (by kernel_rfl) (by kernel_rfl) (by kernel_rfl) trivial ⟨S.G, hE.drew⟩ (fun hT => ?_)
  have hT9 := Lib.hid hT
  clear hT
  repeat (first
    | (refine Ord.ch_value (v := ?_) hT9.out (by decide) (by rfl) ?_ ?_; rotate_left; (focus (intro w5 hS; skip; go_simp <;> with_reducible rfl)); (try simp only [Act.put, List.setIfInBounds_toArray, List.set_cons_zero, List.set_cons_succ]))
    | (refine Ord.ch_off hT9.out (by decide) (by rfl) ?_; (try simp only [Act.put, List.setIfInBounds_toArray, List.set_cons_zero, List.set_cons_succ]))
    | (refine Ord.ch_call (v := ?_) (f := ?_) (args := ?_) hT9.out (by decide) (by rfl) ?_ ?_ ?_; rotate_left 3; (focus (intro w5 hS; skip; go_simp; constructor <;> with_reducible rfl)); (focus (intro w5 hS; (first | (with_reducible refine (epoch_any _).mono ?_; rintro e w6 ⟨rfl, hb6⟩; constructor; with_reducible rfl; exact ⟨trivial, fun k h => h.elim fun G' h => ⟨G', h.over hb6⟩⟩) | (with_reducible refine (shared_any _ _ _ _).mono ?_; rintro e w6 ⟨rfl, hb6⟩; constructor; with_reducible rfl; exact ⟨trivial, fun k h => h.elim fun G' h => ⟨G', h.over hb6⟩⟩)))); (try simp only [Act.put, List.setIfInBounds_toArray, List.set_cons_zero, List.set_cons_succ])))
  refine Ord.ch_turn (v := .bool (decide (S.f (1, 0, 0) = S.ce))) 0 hT9.out rfl (by decide) (Or.inl rfl) (by rfl) ?_ ?_
  · rintro w5 hC5 ⟨G5, hA5⟩
    simp only [if_true] at hA5
    go_simp
    rw [method_swap]
    simp only [Result.andThen_ok]
    go_simp
    simp only [Ord.LandsIn]
    rw [HW2.out]
    refine (swap_w 1 0 0 0 S.ce 0 (S.ce + 1) 0 false false (by unfold Wf In64; simp) HIV.out hm 3 4 (by decide) hA5 rfl rfl).mono ?_
    rintro e w6 ⟨rfl, G6, hE6⟩
    exact ⟨rfl, G6, hE6⟩
  (try simp only [Act.put, List.setIfInBounds_toArray, List.set_cons_zero, List.set_cons_succ])
  repeat (first
    | (refine Ord.ch_value (v := ?_) hT9.out (by decide) (by rfl) ?_ ?_; rotate_left; (focus (intro w5 hS; skip; go_simp <;> with_reducible rfl)); (try simp only [Act.put, List.setIfInBounds_toArray, List.set_cons_zero, List.set_cons_succ]))
    | (refine Ord.ch_off hT9.out (by decide) (by rfl) ?_; (try simp only [Act.put, List.setIfInBounds_toArray, List.set_cons_zero, List.set_cons_succ])))
  refine Ord.InText.nil fun w5 hS => ?_
  clear hT9
  obtain ⟨hC9, hA9⟩ := Ord.chain_end hS
  clear hS
  obtain ⟨G9, hA9⟩ := hA9
  simp only [List.length_cons, List.length_nil, Nat.zero_add, Nat.one_ne_zero, if_false] at hA9
  go_wp2_with fail
  refine (end_m 0 2 (by simp [av]) hA9 rfl).mono ?_
  rintro o w5 ⟨rfl, nx, hE5⟩
  go_wp2_with fail
  go_ret
  exact ⟨rfl, nx, G9, hE5⟩
end
end Go.Proofs.YtdknbegcflldjaaGreatDoor

/- Allocs: whether a version is the last; the rows f1, p1, p2, p3. -/
namespace Go.Proofs.YtdknbegcflldjaaGreatDoor
open Go.RowKit Go.Maps
set_option maxRecDepth 100000

/-- How p1 ends. -/
def poolS (x l : Int) : Int := if slotI x = 0 then 3 else if l ≤ verI x then 4 else 0
section
variable {w0 w : World} {R : List Item} {a : Nat} {S : ST} {M : MA}
set_option maxHeartbeats 1600000 in
theorem isLast_m {vs : List Value} (x d : Int) (t : Bool) (hx : InU x) (hg : Glo w0) (hv : vs[0]? = some (.pointer (some ⟨S.c, 0, none⟩))) (hE : Env w0 (boxI a vs :: LT S R) w) :
    Calls Tryz.prog 229 #[.pointer (some ⟨a, 0, none⟩), .agg #[.int .u64 x, .int .i64 d, .bool t]] w fun o w' => o = .returned (.bool (decide (S.cl ≤ verI x))) ∧ Below w.heap.size w w' := by
  have hb0 := (Below.refl w.heap.size w).alloc (Nat.le_refl _) (.cells [.int .u64 x, .int .i64 d, .bool t].toArray 180)
  have hE1 := hE.box w.heap.size rfl [.int .u64 x, .int .i64 d, .bool t] 180
  have HV : Hid (∀ v, Env w0 (boxI w.heap.size [.int .u64 x, .int .i64 d, .bool t] :: boxI a vs :: LT S R) v → v.cell? ⟨a, 0, none⟩ = some (.pointer (some ⟨S.c, 0, none⟩))) := Lib.hid fun v h => (h.rule 1 rfl 0).trans hv
  have HG : Hid (∀ v, Env w0 (boxI w.heap.size [.int .u64 x, .int .i64 d, .bool t] :: boxI a vs :: LT S R) v → Calls Tryz.prog 261 #[.int .u64 x] v fun e w' => e = .returned (.int .i64 (verI x)) ∧ Below v.heap.size v w') := Lib.hid fun v h => version_any x v (hg.keep' h.below) hx.1 hx.2
  have hlo := limit_of
  generalize verI x = y at *
  clear hv hx hg hE
  go_enter Tryz.func229, Tryz.ntmps229
  go_wp2_with fail
  refine wp_text (S := (fun v => Env w0 (boxI w.heap.size [.int .u64 x, .int .i64 d, .bool t] :: boxI a vs :: LT S R) v ∧ Below w.heap.size w v)) (by kernel_rfl) (by kernel_rfl) (⟨hE1.drew, hb0.drew⟩) (fun hT => ?_)
  have hT9 := Lib.hid hT
  clear hT
  repeat (first
    | (refine text_value (v := ?_) hT9.out (by rfl) ?_ ?_; rotate_left; (focus (intro w5 hS; have r0 := HV.out _ hS.1; have r1 := hS.1.rule 0 rfl; go_simp <;> with_reducible rfl)); (try simp only [Act.put, List.setIfInBounds_toArray, List.set_cons_zero, List.set_cons_succ]))
    | (refine text_off hT9.out (by rfl) ?_; (try simp only [Act.put, List.setIfInBounds_toArray, List.set_cons_zero, List.set_cons_succ]))
    | (refine text_call (v := ?_) (f := ?_) (args := ?_) hT9.out (by rfl) ?_ ?_ ?_; rotate_left 3; (focus (intro w5 hS; have r0 := HV.out _ hS.1; have r1 := hS.1.rule 0 rfl; go_simp; constructor <;> with_reducible rfl)); (focus (intro w5 hS; (first | (with_reducible refine (HG.out _ hS.1).mono ?_; rintro o w6 ⟨rfl, hb6⟩; constructor; with_reducible rfl; exact ⟨hS.1.over hb6, hS.2.trans (hb6.mono hS.2.size)⟩) | (with_reducible refine (conf_c (hS.1.get 2 rfl)).mono ?_; rintro o w6 ⟨rfl, hb6⟩; constructor; with_reducible rfl; exact ⟨hS.1.over hb6, hS.2.trans (hb6.mono hS.2.size)⟩)))); (try simp only [Act.put, List.setIfInBounds_toArray, List.set_cons_zero, List.set_cons_succ])))
  refine InText.nil fun w5 hS5 => ?_
  clear hT9
  go_wp2_with fail
  go_ret
  exact ⟨rfl, hS5.2⟩

set_option maxHeartbeats 1600000 in
theorem freshNo_a (x : Int) (hfx : S.f (3, 0, 0) = x) (h0 : 0 ≤ x) (ht : S.cs ≤ x) (hcs : 0 ≤ S.cs ∧ S.cs ≤ 9223372036854775806) (hm : S.m < maxLen) (hz : Hid (M.nx.2 = .int .i64 0)) (hE : Env w0 (boxI a (av S.c M) :: LT S R) w) :
    Calls Tryz.prog 296 #[.pointer (some ⟨a, 0, none⟩), .iface 26 (.pointer (some ⟨S.p, 0, none⟩))] w fun o w' => o = .returned (.int .i64 0) ∧ ∃ G', Env w0 (boxI a (av S.c { M with nx := nxA a 3 }) :: LT { S with G := G', f := upd S.f (3, 0, 0) (IntKind.u64.wrap (x + 1)), qc := { S.qc with a := wrap64 (S.qc.a + 1) }, m := S.m + 1 } R) w' := by
  have hmf := makeF
  have hah := ahead_add
  have hso := slots_of
  have HT := Lib.hid hfx
  have hw1 : IntKind.u64.wrap S.cs = S.cs := wrapU _ (by omega) (by omega)
  have hd : decide (S.cs ≤ x) = true := by simpa using ht
  clear h0 ht hcs hfx
  go_enter Tryz.func296, Tryz.ntmps296
  go_wp2_with fail
  refine Ord.wp_chain [6] (fun _ => True) (fun k w' => ∃ G5, Env w0 (if k = 0 then (boxI a (av S.c M) :: LT S R) else (boxI a (av S.c M) :: LT { S with G := G5, f := upd S.f (3, 0, 0) (IntKind.u64.wrap (x + 1)), qc := { S.qc with a := wrap64 (S.qc.a + 1) }, m := S.m + 1 } R)) w') (by kernel_rfl) (by kernel_rfl) (by kernel_rfl) trivial ⟨S.G, hE.drew⟩ (fun hT => ?_)
  have hT9 := Lib.hid hT
  clear hT
  repeat (first
    | (refine Ord.ch_value (v := ?_) hT9.out (by decide) (by rfl) ?_ ?_; rotate_left; (focus (intro w5 hS; skip; go_simp <;> with_reducible rfl)); (try simp only [Act.put, List.setIfInBounds_toArray, List.set_cons_zero, List.set_cons_succ]))
    | (refine Ord.ch_off hT9.out (by decide) (by rfl) ?_; (try simp only [Act.put, List.setIfInBounds_toArray, List.set_cons_zero, List.set_cons_succ]))
    | (refine Ord.ch_call (v := ?_) (f := ?_) (args := ?_) hT9.out (by decide) (by rfl) ?_ ?_ ?_; rotate_left 3; (focus (intro w5 hS; skip; go_simp; constructor <;> with_reducible rfl)); (focus (intro w5 hS; (first | (with_reducible refine (fresh_any _).mono ?_; rintro e w6 ⟨rfl, hb6⟩; constructor; with_reducible rfl; exact ⟨trivial, fun k h => h.elim fun G5 h => ⟨G5, h.over hb6⟩⟩) | (with_reducible refine (shared_any _ _ _ _).mono ?_; rintro e w6 ⟨rfl, hb6⟩; constructor; with_reducible rfl; exact ⟨trivial, fun k h => h.elim fun G5 h => ⟨G5, h.over hb6⟩⟩)))); (try simp only [Act.put, List.setIfInBounds_toArray, List.set_cons_zero, List.set_cons_succ])))
  refine Ord.ch_turn (v := .int .u64 x) 0 hT9.out rfl (by decide) (Or.inl rfl) (by rfl) ?_ ?_
  · rintro w5 hC5 ⟨G5, hA5⟩
    simp only [if_true] at hA5
    go_simp
    rw [method_add]
    simp only [Result.andThen_ok]
    go_simp
    simp only [Ord.LandsIn]
    have h7 := add_w 3 0 0 0 1 (by unfold Wf In64; simp) hm 3 4 (by decide) hA5 rfl rfl
    rw [HT.out] at h7
    refine h7.mono ?_
    rintro e w6 ⟨rfl, G6, hE6⟩
    exact ⟨rfl, G6, hE6⟩
  (try simp only [Act.put, List.setIfInBounds_toArray, List.set_cons_zero, List.set_cons_succ])
  repeat (first
    | (refine Ord.ch_value (v := ?_) hT9.out (by decide) (by rfl) ?_ ?_; rotate_left; (focus (intro w5 hS; skip; go_simp <;> with_reducible rfl)); (try simp only [Act.put, List.setIfInBounds_toArray, List.set_cons_zero, List.set_cons_succ]))
    | (refine Ord.ch_off hT9.out (by decide) (by rfl) ?_; (try simp only [Act.put, List.setIfInBounds_toArray, List.set_cons_zero, List.set_cons_succ])))
  refine Ord.InText.nil fun w5 hS => ?_
  clear hT9
  obtain ⟨hC9, hA9⟩ := Ord.chain_end hS
  clear hS
  obtain ⟨G9, hA9⟩ := hA9
  simp only [List.length_cons, List.length_nil, Nat.zero_add, Nat.one_ne_zero, if_false] at hA9
  have r := hA9.rule 0 rfl
  unfold av at r
  go_wp2_with fail
  refine (conf_c (hA9.get 1 rfl)).mono ?_
  rintro o w6 ⟨rfl, hb⟩
  replace hA9 := hA9.over hb
  clear hb r
  have r := hA9.rule 0 rfl
  unfold av at r
  go_wp2_with fail
  refine (goOn_m 0 _ _ _ (by simp [av]) (by exact congrArg some hz.out) hA9 rfl).mono ?_
  rintro o w7 ⟨rfl, hE7⟩
  go_wp2_with fail
  go_ret
  exact ⟨rfl, G9, hE7⟩

set_option maxHeartbeats 1600000 in
theorem freshYes_a (x : Int) (hfx : S.f (3, 0, 0) = x) (hl : S.ql.length + 1 ≤ 1048576) (h0 : 0 ≤ x) (ht : x < S.cs) (hcs : S.cs ≤ 9223372036854775806) (hm : S.m < maxLen) (hz : Hid (M.nx.2 = .int .i64 0)) (hE : Env w0 (boxI a (av S.c M) :: LT S R) w) :
    Calls Tryz.prog 296 #[.pointer (some ⟨a, 0, none⟩), .iface 26 (.pointer (some ⟨S.p, 0, none⟩))] w fun o w' => o = .returned (.int .i64 (decS (S.ql ++ [(x + 1, 0, 0)]) S.ce S.cl)) ∧ ∃ nx k' F' G', (decP (S.ql ++ [(x + 1, 0, 0)]) S.ce S.cl ≠ 0 → nx = nxA a (decP (S.ql ++ [(x + 1, 0, 0)]) S.ce S.cl)) ∧ Rm S.kq (S.ql.length + 1) k' ∧ Env w0 (boxI a (av S.c { M with nx := nx }) :: LT { S with G := G', f := upd S.f (3, 0, 0) (IntKind.u64.wrap (x + 1)), qc := { S.qc with a := wrap64 (S.qc.a + 1) }, m := S.m + 1, ql := S.ql ++ [(x + 1, 0, 0)], kq := k', F := F' } R) w' := by
  have hmf := makeF
  have hah := ahead_add
  have hso := slots_of
  have HT := Lib.hid hfx
  have hw1 : IntKind.u64.wrap S.cs = S.cs := wrapU _ (by omega) (by omega)
  have hd : decide (S.cs ≤ x) = false := by simp; omega
  have hw2 : wrap64 x = x := w64 _ (by omega)
  have hw3 : wrap64 (x + 1) = x + 1 := w64 _ (by omega)
  clear h0 ht hcs hfx
  go_enter Tryz.func296, Tryz.ntmps296
  go_wp2_with fail
  refine Ord.wp_chain [6] (fun _ => True) (fun k w' => ∃ G5, Env w0 (if k = 0 then (boxI a (av S.c M) :: LT S R) else (boxI a (av S.c M) :: LT { S with G := G5, f := upd S.f (3, 0, 0) (IntKind.u64.wrap (x + 1)), qc := { S.qc with a := wrap64 (S.qc.a + 1) }, m := S.m + 1 } R)) w') (by kernel_rfl) (by kernel_rfl) (by kernel_rfl) trivial ⟨S.G, hE.drew⟩ (fun hT => ?_)
  have hT9 := Lib.hid hT
  clear hT
  repeat (first
    | (refine Ord.ch_value (v := ?_) hT9.out (by decide) (by rfl) ?_ ?_; rotate_left; (focus (intro w5 hS; skip; go_simp <;> with_reducible rfl)); (try simp only [Act.put, List.setIfInBounds_toArray, List.set_cons_zero, List.set_cons_succ]))
    | (refine Ord.ch_off hT9.out (by decide) (by rfl) ?_; (try simp only [Act.put, List.setIfInBounds_toArray, List.set_cons_zero, List.set_cons_succ]))
    | (refine Ord.ch_call (v := ?_) (f := ?_) (args := ?_) hT9.out (by decide) (by rfl) ?_ ?_ ?_; rotate_left 3; (focus (intro w5 hS; skip; go_simp; constructor <;> with_reducible rfl)); (focus (intro w5 hS; (first | (with_reducible refine (fresh_any _).mono ?_; rintro e w6 ⟨rfl, hb6⟩; constructor; with_reducible rfl; exact ⟨trivial, fun k h => h.elim fun G5 h => ⟨G5, h.over hb6⟩⟩) | (with_reducible refine (shared_any _ _ _ _).mono ?_; rintro e w6 ⟨rfl, hb6⟩; constructor; with_reducible rfl; exact ⟨trivial, fun k h => h.elim fun G5 h => ⟨G5, h.over hb6⟩⟩)))); (try simp only [Act.put, List.setIfInBounds_toArray, List.set_cons_zero, List.set_cons_succ])))
  refine Ord.ch_turn (v := .int .u64 x) 0 hT9.out rfl (by decide) (Or.inl rfl) (by rfl) ?_ ?_
  · rintro w5 hC5 ⟨G5, hA5⟩
    simp only [if_true] at hA5
    go_simp
    rw [method_add]
    simp only [Result.andThen_ok]
    go_simp
    simp only [Ord.LandsIn]
    have h7 := add_w 3 0 0 0 1 (by unfold Wf In64; simp) hm 3 4 (by decide) hA5 rfl rfl
    rw [HT.out] at h7
    refine h7.mono ?_
    rintro e w6 ⟨rfl, G6, hE6⟩
    exact ⟨rfl, G6, hE6⟩
  (try simp only [Act.put, List.setIfInBounds_toArray, List.set_cons_zero, List.set_cons_succ])
  repeat (first
    | (refine Ord.ch_value (v := ?_) hT9.out (by decide) (by rfl) ?_ ?_; rotate_left; (focus (intro w5 hS; skip; go_simp <;> with_reducible rfl)); (try simp only [Act.put, List.setIfInBounds_toArray, List.set_cons_zero, List.set_cons_succ]))
    | (refine Ord.ch_off hT9.out (by decide) (by rfl) ?_; (try simp only [Act.put, List.setIfInBounds_toArray, List.set_cons_zero, List.set_cons_succ])))
  refine Ord.InText.nil fun w5 hS => ?_
  clear hT9
  obtain ⟨hC9, hA9⟩ := Ord.chain_end hS
  clear hS
  obtain ⟨G9, hA9⟩ := hA9
  simp only [List.length_cons, List.length_nil, Nat.zero_add, Nat.one_ne_zero, if_false] at hA9
  have r := hA9.rule 0 rfl
  unfold av at r
  go_wp2_with fail
  refine (conf_c (hA9.get 1 rfl)).mono ?_
  rintro o w6 ⟨rfl, hb⟩
  replace hA9 := hA9.over hb
  clear hb r
  have r := hA9.rule 0 rfl
  unfold av at r
  go_wp2_with fail
  refine (came_a (S := { S with G := G9, f := upd S.f (3, 0, 0) (IntKind.u64.wrap (x + 1)), qc := { S.qc with a := wrap64 (S.qc.a + 1) }, m := S.m + 1 }) (x + 1) 0 hl hz hA9).mono ?_
  rintro o w7 ⟨rfl, nx, k', F', hnx, hrm, hE7⟩
  go_wp2_with fail
  go_ret
  exact ⟨rfl, nx, k', F', G9, hnx, hrm, hE7⟩

set_option maxHeartbeats 1600000 in
theorem loadPool_a (x : Int) (hfx : S.f (2, 0, 0) = x) (hg : Glo w0) (hz : Hid (M.nx.2 = .int .i64 0)) (hE : Env w0 (boxI a (av S.c M) :: LT S R) w) :
    Calls Tryz.prog 311 #[.pointer (some ⟨a, 0, none⟩), .iface 26 (.pointer (some ⟨S.p, 0, none⟩))] w fun o w' => o = .returned (.int .i64 (poolS x S.cl)) ∧ ∃ nx, (poolS x S.cl = 0 → nx = nxA a 4) ∧ Env w0 (boxI a (av S.c { M with nx := nx, h := x }) :: LT { S with qc := { S.qc with l := wrap64 (S.qc.l + 1) } } R) w' := by
  have hmf := makeF
  have hah := ahead_load
  have hso := slot_of
  have hxu : InU x := by rw [← hfx]; exact (hE.cell 4 rfl).words.1 _
  have HX := Lib.hid hfx
  have HXU := Lib.hid hxu
  clear hfx hxu
  go_enter Tryz.func311, Tryz.ntmps311
  go_wp2_with fail
  refine Ord.wp_chain [7, 10] (fun _ => True) (fun k w' => Env w0 (pick3 (boxI a (av S.c M) :: LT S R) (boxI a (av S.c M) :: LT { S with qc := { S.qc with l := wrap64 (S.qc.l + 1) } } R) (boxI a (av S.c { M with h := x }) :: LT { S with qc := { S.qc with l := wrap64 (S.qc.l + 1) } } R) k) w') (by kernel_rfl) (by kernel_rfl) (by kernel_rfl) trivial hE.drew (fun hT => ?_)
  have hT9 := Lib.hid hT
  clear hT
  repeat (first
    | (refine Ord.ch_value (v := ?_) hT9.out (by decide) (by rfl) ?_ ?_; rotate_left; (focus (intro w5 hS; skip; go_simp <;> with_reducible rfl)); (try simp only [Act.put, List.setIfInBounds_toArray, List.set_cons_zero, List.set_cons_succ]))
    | (refine Ord.ch_off hT9.out (by decide) (by rfl) ?_; (try simp only [Act.put, List.setIfInBounds_toArray, List.set_cons_zero, List.set_cons_succ]))
    | (refine Ord.ch_call (v := ?_) (f := ?_) (args := ?_) hT9.out (by decide) (by rfl) ?_ ?_ ?_; rotate_left 3; (focus (intro w5 hS; skip; go_simp; constructor <;> with_reducible rfl)); (focus (intro w5 hS; (first | (with_reducible refine (pool_any _).mono ?_; rintro e w6 ⟨rfl, hb6⟩; constructor; with_reducible rfl; exact ⟨trivial, fun k h => h.over hb6⟩) | (with_reducible refine (shared_any _ _ _ _).mono ?_; rintro e w6 ⟨rfl, hb6⟩; constructor; with_reducible rfl; exact ⟨trivial, fun k h => h.over hb6⟩)))); (try simp only [Act.put, List.setIfInBounds_toArray, List.set_cons_zero, List.set_cons_succ])))
  refine Ord.ch_turn (v := .agg #[.int .u64 x, .int .i64 0, .bool false]) 0 hT9.out rfl (by decide) (Or.inl rfl) (by rfl) ?_ ?_
  · rintro w5 hC5 hA5
    replace hA5 : Env w0 (boxI a (av S.c M) :: LT S R) w5 := hA5
    go_simp
    rw [method_load]
    simp only [Result.andThen_ok]
    go_simp
    simp only [Ord.LandsIn]
    have hl := load_w 2 0 0 0 (by unfold Wf In64; simp) 3 4 (by decide) hA5 rfl rfl
    rw [HX.out] at hl
    refine hl.mono ?_
    rintro e w6 ⟨rfl, hE6⟩
    exact ⟨rfl, hE6⟩
  (try simp only [Act.put, List.setIfInBounds_toArray, List.set_cons_zero, List.set_cons_succ])
  repeat (first
    | (refine Ord.ch_value (v := ?_) hT9.out (by decide) (by rfl) ?_ ?_; rotate_left; (focus (intro w5 hS; skip; go_simp <;> with_reducible rfl)); (try simp only [Act.put, List.setIfInBounds_toArray, List.set_cons_zero, List.set_cons_succ]))
    | (refine Ord.ch_off hT9.out (by decide) (by rfl) ?_; (try simp only [Act.put, List.setIfInBounds_toArray, List.set_cons_zero, List.set_cons_succ])))
  refine Ord.ch_turn (v := undef) 1 hT9.out rfl (by decide) (Or.inr ⟨_, rfl, by kernel_rfl⟩) (by rfl) ?_ ?_
  · rintro w5 hC5 hA5
    replace hA5 : Env w0 (boxI a (av S.c M) :: LT { S with qc := { S.qc with l := wrap64 (S.qc.l + 1) } } R) w5 := hA5
    have r := hA5.rule 0 rfl
    unfold av at r
    have f6 := hA5.thaw 0 rfl 7 (by simp [av])
    have f7 := hA5.thaw 0 rfl 8 (by simp [av])
    have f8 := hA5.thaw 0 rfl 9 (by simp [av])
    go_simp
    have h9 := ((hA5.put 0 rfl (j := 7) (by simp [av]) (.int .u64 x)).put 0 rfl (j := 8) (by simp [av]) (.int .i64 0)).put 0 rfl (j := 9) (by simp [av]) (.bool false)
    first | exact ⟨rfl, trivial, h9⟩ | exact ⟨rfl, h9⟩ | exact h9
  (try simp only [Act.put, List.setIfInBounds_toArray, List.set_cons_zero, List.set_cons_succ])
  repeat (first
    | (refine Ord.ch_value (v := ?_) hT9.out (by decide) (by rfl) ?_ ?_; rotate_left; (focus (intro w5 hS; skip; go_simp <;> with_reducible rfl)); (try simp only [Act.put, List.setIfInBounds_toArray, List.set_cons_zero, List.set_cons_succ]))
    | (refine Ord.ch_off hT9.out (by decide) (by rfl) ?_; (try simp only [Act.put, List.setIfInBounds_toArray, List.set_cons_zero, List.set_cons_succ])))
  refine Ord.InText.nil fun w5 hS => ?_
  clear hT9
  obtain ⟨hC9, hA9⟩ := Ord.chain_end hS
  clear hS
  replace hA9 : Env w0 (boxI a (av S.c { M with h := x }) :: LT { S with qc := { S.qc with l := wrap64 (S.qc.l + 1) } } R) w5 := hA9
  have r := hA9.rule 0 rfl
  unfold av at r
  go_wp2_with fail
  refine (lead_c x 0 false _ HXU.out (hg.keep' hA9.below)).mono ?_
  rintro o w6 ⟨rfl, hb⟩
  replace hA9 := hA9.over hb
  clear hb r
  have r := hA9.rule 0 rfl
  unfold av at r
  by_cases hs : slotI x = 0
  · have hp : poolS x S.cl = 3 := if_pos hs
    have HP := Lib.hid hp
    have hsb : (slotI x == 0) = true := by simpa using hs
    have HS := Lib.hid hs
    clear hp hs
    go_wp2_with fail
    refine (end_m 0 3 (by simp [av]) hA9 rfl).mono ?_
    rintro o w7 ⟨rfl, nx, hE7⟩
    go_wp2_with fail
    go_ret
    rw [HP.out]
    exact ⟨rfl, nx, fun h => absurd h (by decide), hE7⟩
  · have hsb : (slotI x == 0) = false := by simpa using hs
    have HIL : Hid (∀ v, Env w0 (boxI a (av S.c { M with h := x }) :: LT { S with qc := { S.qc with l := wrap64 (S.qc.l + 1) } } R) v → Calls Tryz.prog 229 #[.pointer (some ⟨a, 0, none⟩), .agg #[.int .u64 x, .int .i64 0, .bool false]] v fun o w' => o = .returned (.bool (decide (S.cl ≤ verI x))) ∧ Below v.heap.size v w') := Lib.hid fun v hv => isLast_m (S := { S with qc := { S.qc with l := wrap64 (S.qc.l + 1) } }) x 0 false HXU.out hg rfl hv
    obtain ⟨b, hb⟩ : ∃ b, decide (S.cl ≤ verI x) = b := ⟨_, rfl⟩
    rw [hb] at HIL
    have HB := Lib.hid hb
    have HS := Lib.hid hs
    clear hb hs
    go_wp2_with fail
    refine wp_text (S := (Env w0 (boxI a (av S.c { M with h := x }) :: LT { S with qc := { S.qc with l := wrap64 (S.qc.l + 1) } } R))) (by kernel_rfl) (by kernel_rfl) hA9.drew (fun hT => ?_)
    have hT9 := Lib.hid hT
    clear hT
    repeat (first
      | (refine text_value (v := ?_) hT9.out (by rfl) ?_ ?_; rotate_left; (focus (intro w5 hS; have r := hS.rule 0 rfl; unfold av at r; go_simp <;> with_reducible rfl)); (try simp only [Act.put, List.setIfInBounds_toArray, List.set_cons_zero, List.set_cons_succ]))
      | (refine text_off hT9.out (by rfl) ?_; (try simp only [Act.put, List.setIfInBounds_toArray, List.set_cons_zero, List.set_cons_succ]))
      | (refine text_call (v := ?_) (f := ?_) (args := ?_) hT9.out (by rfl) ?_ ?_ ?_; rotate_left 3; (focus (intro w5 hS; have r := hS.rule 0 rfl; unfold av at r; go_simp; constructor <;> with_reducible rfl)); (focus (intro w5 hS; (first | (with_reducible refine (HIL.out _ hS).mono ?_; rintro o w6 ⟨rfl, hb6⟩; constructor; with_reducible rfl; exact hS.over hb6)))); (try simp only [Act.put, List.setIfInBounds_toArray, List.set_cons_zero, List.set_cons_succ])))
    refine InText.nil fun w5 hS5 => ?_
    clear hT9
    clear hA9 r HIL
    cases b
    · have hv : ¬ S.cl ≤ verI x := by simpa using HB.out
      have hp : poolS x S.cl = 0 := by unfold poolS; rw [if_neg HS.out, if_neg hv]
      have HP := Lib.hid hp
      clear hp hv
      go_wp2_with fail
      refine (goOn_m 0 _ _ _ (by simp [av]) (by exact congrArg some hz.out) hS5 rfl).mono ?_
      rintro o w7 ⟨rfl, hE7⟩
      go_wp2_with fail
      go_ret
      rw [HP.out]
      exact ⟨rfl, _, fun _ => rfl, hE7⟩
    · have hv : S.cl ≤ verI x := by simpa using HB.out
      have hp : poolS x S.cl = 4 := by unfold poolS; rw [if_neg HS.out, if_pos hv]
      have HP := Lib.hid hp
      clear hp hv
      go_wp2_with fail
      refine (end_m 0 4 (by simp [av]) hS5 rfl).mono ?_
      rintro o w7 ⟨rfl, nx, hE7⟩
      go_wp2_with fail
      go_ret
      rw [HP.out]
      exact ⟨rfl, nx, fun h => absurd h (by decide), hE7⟩

set_option maxHeartbeats 1600000 in
theorem loadChain_a (x : Int) (hfx : S.f (5, slotI M.h, 2) = x) (hh : InU M.h) (hg : Glo w0) (hz : Hid (M.nx.2 = .int .i64 0)) (hE : Env w0 (boxI a (av S.c M) :: LT S R) w) :
    Calls Tryz.prog 327 #[.pointer (some ⟨a, 0, none⟩), .iface 26 (.pointer (some ⟨S.p, 0, none⟩))] w fun o w' => o = .returned (.int .i64 0) ∧ Env w0 (boxI a (av S.c { M with nx := nxA a 5, n := x }) :: LT { S with qc := { S.qc with l := wrap64 (S.qc.l + 1) } } R) w' := by
  have hmf := makeF
  have hah := ahead_load
  have HX := Lib.hid hfx
  have HGL := Lib.hid fun (v : World) (hv : Below w0.heap.size w0 v) => lead_c M.h 0 false v hh (hg.keep' hv)
  have HWF : Hid (Wf (5, slotI M.h, 2)) := Lib.hid (by have := slotI_in M.h; unfold Wf In64; simp; omega)
  clear hfx hh
  go_enter Tryz.func327, Tryz.ntmps327
  go_wp2_with fail
  refine Ord.wp_chain [11, 14] (fun v => Below w0.heap.size w0 v ∧ ∃ n9 r9, Blk 0 v a (av S.c { M with n := n9, r := r9 })) (fun k w' => Env w0 (pick3 (boxI a (av S.c M) :: LT S R) (boxI a (av S.c M) :: LT { S with qc := { S.qc with l := wrap64 (S.qc.l + 1) } } R) (boxI a (av S.c { M with n := x }) :: LT { S with qc := { S.qc with l := wrap64 (S.qc.l + 1) } } R) k) w') (by kernel_rfl) (by kernel_rfl) (by kernel_rfl) ⟨hE.drew.below, M.n, M.r, hE.drew.get 0 rfl⟩ hE.drew (fun hT => ?_)
  have hT9 := Lib.hid hT
  clear hT
  repeat (first
    | (refine Ord.ch_value (v := ?_) hT9.out (by decide) (by rfl) ?_ ?_; rotate_left; (focus (intro w5 hS; obtain ⟨hS0, n9, r9, hS1⟩ := hS; have r := Blk.rule hS1; unfold av at r; go_simp <;> with_reducible rfl)); (try simp only [Act.put, List.setIfInBounds_toArray, List.set_cons_zero, List.set_cons_succ]))
    | (refine Ord.ch_off hT9.out (by decide) (by rfl) ?_; (try simp only [Act.put, List.setIfInBounds_toArray, List.set_cons_zero, List.set_cons_succ]))
    | (refine Ord.ch_call (v := ?_) (f := ?_) (args := ?_) hT9.out (by decide) (by rfl) ?_ ?_ ?_; rotate_left 3; (focus (intro w5 hS; obtain ⟨hS0, n9, r9, hS1⟩ := hS; have r := Blk.rule hS1; unfold av at r; go_simp; constructor <;> with_reducible rfl)); (focus (intro w5 hS; (first | (with_reducible refine (HGL.out _ hS.1).mono ?_; rintro e w6 ⟨rfl, hb6⟩; constructor; with_reducible rfl; exact ⟨⟨hS.1.trans (hb6.mono hS.1.size), Exists.elim hS.2 fun n9 h => Exists.elim h fun r9 h => ⟨n9, r9, h.under hb6⟩⟩, fun k h => h.over hb6⟩) | (with_reducible refine (part_any _ _ _ _).mono ?_; rintro e w6 ⟨rfl, hb6⟩; constructor; with_reducible rfl; exact ⟨⟨hS.1.trans (hb6.mono hS.1.size), Exists.elim hS.2 fun n9 h => Exists.elim h fun r9 h => ⟨n9, r9, h.under hb6⟩⟩, fun k h => h.over hb6⟩)))); (try simp only [Act.put, List.setIfInBounds_toArray, List.set_cons_zero, List.set_cons_succ])))
  refine Ord.ch_turn (v := .agg #[.int .u64 x, .int .i64 0, .bool false]) 0 hT9.out rfl (by decide) (Or.inl rfl) (by rfl) ?_ ?_
  · rintro w5 hC5 hA5
    replace hA5 : Env w0 (boxI a (av S.c M) :: LT S R) w5 := hA5
    go_simp
    rw [method_load]
    simp only [Result.andThen_ok]
    go_simp
    simp only [Ord.LandsIn]
    have hl := load_w 5 (slotI M.h) 2 0 HWF.out 3 4 (by decide) hA5 rfl rfl
    rw [HX.out] at hl
    refine hl.mono ?_
    rintro e w6 ⟨rfl, hE6⟩
    exact ⟨rfl, ⟨hE6.below, M.n, M.r, hE6.get 0 rfl⟩, hE6⟩
  (try simp only [Act.put, List.setIfInBounds_toArray, List.set_cons_zero, List.set_cons_succ])
  repeat (first
    | (refine Ord.ch_value (v := ?_) hT9.out (by decide) (by rfl) ?_ ?_; rotate_left; (focus (intro w5 hS; skip; go_simp <;> with_reducible rfl)); (try simp only [Act.put, List.setIfInBounds_toArray, List.set_cons_zero, List.set_cons_succ]))
    | (refine Ord.ch_off hT9.out (by decide) (by rfl) ?_; (try simp only [Act.put, List.setIfInBounds_toArray, List.set_cons_zero, List.set_cons_succ])))
  refine Ord.ch_turn (v := undef) 1 hT9.out rfl (by decide) (Or.inr ⟨_, rfl, by kernel_rfl⟩) (by rfl) ?_ ?_
  · rintro w5 hC5 hA5
    replace hA5 : Env w0 (boxI a (av S.c M) :: LT { S with qc := { S.qc with l := wrap64 (S.qc.l + 1) } } R) w5 := hA5
    have r := hA5.rule 0 rfl
    unfold av at r
    have f6 := hA5.thaw 0 rfl 10 (by simp [av])
    have f7 := hA5.thaw 0 rfl 11 (by simp [av])
    have f8 := hA5.thaw 0 rfl 12 (by simp [av])
    go_simp
    have h9 := ((hA5.put 0 rfl (j := 10) (by simp [av]) (.int .u64 x)).put 0 rfl (j := 11) (by simp [av]) (.int .i64 0)).put 0 rfl (j := 12) (by simp [av]) (.bool false)
    replace h9 : Env w0 (boxI a (av S.c { M with n := x }) :: LT { S with qc := { S.qc with l := wrap64 (S.qc.l + 1) } } R) _ := h9
    exact ⟨rfl, ⟨h9.below, _, _, h9.get 0 rfl⟩, h9⟩
  (try simp only [Act.put, List.setIfInBounds_toArray, List.set_cons_zero, List.set_cons_succ])
  repeat (first
    | (refine Ord.ch_value (v := ?_) hT9.out (by decide) (by rfl) ?_ ?_; rotate_left; (focus (intro w5 hS; skip; go_simp <;> with_reducible rfl)); (try simp only [Act.put, List.setIfInBounds_toArray, List.set_cons_zero, List.set_cons_succ]))
    | (refine Ord.ch_off hT9.out (by decide) (by rfl) ?_; (try simp only [Act.put, List.setIfInBounds_toArray, List.set_cons_zero, List.set_cons_succ])))
  refine Ord.InText.nil fun w5 hS => ?_
  clear hT9
  obtain ⟨hC9, hA9⟩ := Ord.chain_end hS
  clear hS
  replace hA9 : Env w0 (boxI a (av S.c { M with n := x }) :: LT { S with qc := { S.qc with l := wrap64 (S.qc.l + 1) } } R) w5 := hA9
  have r := hA9.rule 0 rfl
  unfold av at r
  go_wp2_with fail
  refine (goOn_m 0 _ _ _ (by simp [av]) (by exact congrArg some hz.out) hA9 rfl).mono ?_
  rintro o w7 ⟨rfl, hE7⟩
  go_wp2_with fail
  go_ret
  exact ⟨rfl, hE7⟩

set_option maxHeartbeats 1600000 in
theorem loadRetired_a (x : Int) (hfx : S.f (5, slotI M.h, 1) = x) (hh : InU M.h) (hg : Glo w0) (hz : Hid (M.nx.2 = .int .i64 0)) (hE : Env w0 (boxI a (av S.c M) :: LT S R) w) :
    Calls Tryz.prog 334 #[.pointer (some ⟨a, 0, none⟩), .iface 26 (.pointer (some ⟨S.p, 0, none⟩))] w fun o w' => o = .returned (.int .i64 0) ∧ Env w0 (boxI a (av S.c { M with nx := nxA a 6, r := x }) :: LT { S with qc := { S.qc with l := wrap64 (S.qc.l + 1) } } R) w' := by
  have hmf := makeF
  have hah := ahead_load
  have HX := Lib.hid hfx
  have HGL := Lib.hid fun (v : World) (hv : Below w0.heap.size w0 v) => lead_c M.h 0 false v hh (hg.keep' hv)
  have HWF : Hid (Wf (5, slotI M.h, 1)) := Lib.hid (by have := slotI_in M.h; unfold Wf In64; simp; omega)
  clear hfx hh
  go_enter Tryz.func334, Tryz.ntmps334
  go_wp2_with fail
  refine Ord.wp_chain [11, 14] (fun v => Below w0.heap.size w0 v ∧ ∃ n9 r9, Blk 0 v a (av S.c { M with n := n9, r := r9 })) (fun k w' => Env w0 (pick3 (boxI a (av S.c M) :: LT S R) (boxI a (av S.c M) :: LT { S with qc := { S.qc with l := wrap64 (S.qc.l + 1) } } R) (boxI a (av S.c { M with r := x }) :: LT { S with qc := { S.qc with l := wrap64 (S.qc.l + 1) } } R) k) w') (by kernel_rfl) (by kernel_rfl) (by kernel_rfl) ⟨hE.drew.below, M.n, M.r, hE.drew.get 0 rfl⟩ hE.drew (fun hT => ?_)
  have hT9 := Lib.hid hT
  clear hT
  repeat (first
    | (refine Ord.ch_value (v := ?_) hT9.out (by decide) (by rfl) ?_ ?_; rotate_left; (focus (intro w5 hS; obtain ⟨hS0, n9, r9, hS1⟩ := hS; have r := Blk.rule hS1; unfold av at r; go_simp <;> with_reducible rfl)); (try simp only [Act.put, List.setIfInBounds_toArray, List.set_cons_zero, List.set_cons_succ]))
    | (refine Ord.ch_off hT9.out (by decide) (by rfl) ?_; (try simp only [Act.put, List.setIfInBounds_toArray, List.set_cons_zero, List.set_cons_succ]))
    | (refine Ord.ch_call (v := ?_) (f := ?_) (args := ?_) hT9.out (by decide) (by rfl) ?_ ?_ ?_; rotate_left 3; (focus (intro w5 hS; obtain ⟨hS0, n9, r9, hS1⟩ := hS; have r := Blk.rule hS1; unfold av at r; go_simp; constructor <;> with_reducible rfl)); (focus (intro w5 hS; (first | (with_reducible refine (HGL.out _ hS.1).mono ?_; rintro e w6 ⟨rfl, hb6⟩; constructor; with_reducible rfl; exact ⟨⟨hS.1.trans (hb6.mono hS.1.size), Exists.elim hS.2 fun n9 h => Exists.elim h fun r9 h => ⟨n9, r9, h.under hb6⟩⟩, fun k h => h.over hb6⟩) | (with_reducible refine (part_any _ _ _ _).mono ?_; rintro e w6 ⟨rfl, hb6⟩; constructor; with_reducible rfl; exact ⟨⟨hS.1.trans (hb6.mono hS.1.size), Exists.elim hS.2 fun n9 h => Exists.elim h fun r9 h => ⟨n9, r9, h.under hb6⟩⟩, fun k h => h.over hb6⟩)))); (try simp only [Act.put, List.setIfInBounds_toArray, List.set_cons_zero, List.set_cons_succ])))
  refine Ord.ch_turn (v := .agg #[.int .u64 x, .int .i64 0, .bool false]) 0 hT9.out rfl (by decide) (Or.inl rfl) (by rfl) ?_ ?_
  · rintro w5 hC5 hA5
    replace hA5 : Env w0 (boxI a (av S.c M) :: LT S R) w5 := hA5
    go_simp
    rw [method_load]
    simp only [Result.andThen_ok]
    go_simp
    simp only [Ord.LandsIn]
    have hl := load_w 5 (slotI M.h) 1 0 HWF.out 3 4 (by decide) hA5 rfl rfl
    rw [HX.out] at hl
    refine hl.mono ?_
    rintro e w6 ⟨rfl, hE6⟩
    exact ⟨rfl, ⟨hE6.below, M.n, M.r, hE6.get 0 rfl⟩, hE6⟩
  (try simp only [Act.put, List.setIfInBounds_toArray, List.set_cons_zero, List.set_cons_succ])
  repeat (first
    | (refine Ord.ch_value (v := ?_) hT9.out (by decide) (by rfl) ?_ ?_; rotate_left; (focus (intro w5 hS; skip; go_simp <;> with_reducible rfl)); (try simp only [Act.put, List.setIfInBounds_toArray, List.set_cons_zero, List.set_cons_succ]))
    | (refine Ord.ch_off hT9.out (by decide) (by rfl) ?_; (try simp only [Act.put, List.setIfInBounds_toArray, List.set_cons_zero, List.set_cons_succ])))
  refine Ord.ch_turn (v := undef) 1 hT9.out rfl (by decide) (Or.inr ⟨_, rfl, by kernel_rfl⟩) (by rfl) ?_ ?_
  · rintro w5 hC5 hA5
    replace hA5 : Env w0 (boxI a (av S.c M) :: LT { S with qc := { S.qc with l := wrap64 (S.qc.l + 1) } } R) w5 := hA5
    have r := hA5.rule 0 rfl
    unfold av at r
    have f6 := hA5.thaw 0 rfl 13 (by simp [av])
    have f7 := hA5.thaw 0 rfl 14 (by simp [av])
    have f8 := hA5.thaw 0 rfl 15 (by simp [av])
    go_simp
    have h9 := ((hA5.put 0 rfl (j := 13) (by simp [av]) (.int .u64 x)).put 0 rfl (j := 14) (by simp [av]) (.int .i64 0)).put 0 rfl (j := 15) (by simp [av]) (.bool false)
    replace h9 : Env w0 (boxI a (av S.c { M with r := x }) :: LT { S with qc := { S.qc with l := wrap64 (S.qc.l + 1) } } R) _ := h9
    exact ⟨rfl, ⟨h9.below, _, _, h9.get 0 rfl⟩, h9⟩
  (try simp only [Act.put, List.setIfInBounds_toArray, List.set_cons_zero, List.set_cons_succ])
  repeat (first
    | (refine Ord.ch_value (v := ?_) hT9.out (by decide) (by rfl) ?_ ?_; rotate_left; (focus (intro w5 hS; skip; go_simp <;> with_reducible rfl)); (try simp only [Act.put, List.setIfInBounds_toArray, List.set_cons_zero, List.set_cons_succ]))
    | (refine Ord.ch_off hT9.out (by decide) (by rfl) ?_; (try simp only [Act.put, List.setIfInBounds_toArray, List.set_cons_zero, List.set_cons_succ])))
  refine Ord.InText.nil fun w5 hS => ?_
  clear hT9
  obtain ⟨hC9, hA9⟩ := Ord.chain_end hS
  clear hS
  replace hA9 : Env w0 (boxI a (av S.c { M with r := x }) :: LT { S with qc := { S.qc with l := wrap64 (S.qc.l + 1) } } R) w5 := hA9
  have r := hA9.rule 0 rfl
  unfold av at r
  go_wp2_with fail
  refine (goOn_m 0 _ _ _ (by simp [av]) (by exact congrArg some hz.out) hA9 rfl).mono ?_
  rintro o w7 ⟨rfl, hE7⟩
  go_wp2_with fail
  go_ret
  exact ⟨rfl, hE7⟩

end
end Go.Proofs.YtdknbegcflldjaaGreatDoor

/- Allocs: the link behind what was loaded; the row p4. -/
namespace Go.Proofs.YtdknbegcflldjaaGreatDoor
open Go.RowKit Go.Maps
set_option maxRecDepth 100000

theorem AF_over {w0 w w' : World} {z0 : List Value} {St : List Value → List Item → List Value → Prop} {κs : List Value} {fo : Option Value} (h : OrdF.AF w0 z0 St κs fo w) (hb : Below w.heap.size w w') : OrdF.AF w0 z0 St κs fo w' := by
  obtain ⟨L, zs, hst, ⟨h1, h2, hE⟩ | ⟨n, hn, hE⟩⟩ := h
  · exact ⟨L, zs, hst, .inl ⟨h1, h2, hE.over hb⟩⟩
  · exact ⟨L, zs, hst, .inr ⟨n, hn, hE.over hb⟩⟩
end Go.Proofs.YtdknbegcflldjaaGreatDoor

/- Allocs: the link behind what was loaded; the row p4. -/
namespace Go.Proofs.YtdknbegcflldjaaGreatDoor
open Go.RowKit Go.Maps
set_option maxRecDepth 100000

theorem nextW_in (x s : Int) (hx : InU x) : InU (nextW x s) := by
  have h1 := verI_in x
  unfold nextW InU
  cases hs : isS s
  · simp
  · have h2 : 0 ≤ s ∧ s ≤ 8388607 := by simpa [isS] using hs
    by_cases h : verI x = 1099511627775
    · simp [h]
    · rw [if_pos rfl, if_neg h]
      unfold wordI
      split
      · simp only [bitI, Bool.false_eq_true, if_false]
        omega
      · omega
set_option maxHeartbeats 800000 in
theorem behind_any (x d s i : Int) (t : Bool) (hx : InU x) (w : World) (hg : Glo w) : Calls Tryz.prog 290 #[.agg #[.int .u64 x, .int .i64 d, .bool t], .agg #[.int .i64 s, .int .i64 i]] w fun e w' => e = .returned (.agg #[.int .u64 (nextW x s), .int .i64 i, .bool false]) ∧ Below w.heap.size w w' := by
  have hE := (((Env.start w).box w.heap.size rfl [.int .u64 x, .int .i64 d, .bool t] 180).box (w.heap.size + 1) (by simp) [.int .i64 s, .int .i64 i] 136).box (w.heap.size + 1 + 1) (by simp) [.int .u64 0, .int .i64 0, .bool false] 180
  have r0 := hE.rule 2 rfl
  have r1 := hE.rule 1 rfl
  have hn := fun (v : World) (hv : Below w.heap.size w v) => next_any x s v (hg.keep' hv) hx.1 hx.2
  obtain ⟨y, hy⟩ : ∃ y, nextW x s = y := ⟨_, rfl⟩
  simp only [hy] at hn ⊢
  have HN := Lib.hid hn
  clear hx hg hn hy
  go_enter Tryz.func290, Tryz.ntmps290
  go_wp2_with fail
  refine (HN.out _ hE.below).mono ?_
  rintro o w1 ⟨rfl, hb⟩
  replace hE := hE.over hb
  clear hb r0 r1
  have r1 := hE.rule 1 rfl
  have r2 := hE.rule 0 rfl
  have f := hE.thaw 0 rfl
  have f0 := f 0 (by simp)
  have f1 := f 1 (by simp)
  have f2 := f 2 (by simp)
  have hP := hE.put3 0 rfl (.int .u64 y) (.int .i64 i) (.bool false)
  have q := hP.rule 0 rfl
  clear f HN hE
  go_wp2_with fail
  exact bodyPost_ret (v := .agg #[.int .u64 y, .int .i64 i, .bool false]) (by simp [results, Tryz.results290, go_sem, q]) rfl ⟨rfl, hP.below⟩

section
variable {w0 w : World} {R : List Item} {a : Nat} {S : ST} {M : MA}
set_option maxHeartbeats 3200000 in
theorem takeNo_a (x : Int) (hfx : S.f (2, 0, 0) = x) (hxh : x ≠ M.h) (hh : InU M.h) (hn : InU M.n) (hg : Glo w0) (hm : S.m < maxLen) (hz : Hid (M.nx.2 = .int .i64 0)) (hE : Env w0 (boxI a (av S.c M) :: LT S R) w) :
    Calls Tryz.prog 338 #[.pointer (some ⟨a, 0, none⟩), .iface 26 (.pointer (some ⟨S.p, 0, none⟩))] w fun o w' => o = .returned (.int .i64 0) ∧ ∃ G', Env w0 (boxI a (av S.c { M with nx := nxA a 3 }) :: LT { S with G := G', f := swf S.f (2, 0, 0) M.h (nextW M.h (slotI M.n)), qc := swq S.qc (decide (S.f (2, 0, 0) = M.h)), m := S.m + 1 } R) w' := by
  have hmf := makeF
  have hah := ahead_swap
  have HD : Hid (decide (S.f (2, 0, 0) = M.h) = false) := Lib.hid (by rw [hfx]; simpa using hxh)
  have hbh := fun (v : World) (hv : Below w0.heap.size w0 v) => behind_any M.h 0 (slotI M.n) 0 false hh v (hg.keep' hv)
  have hni := nextW_in M.h (slotI M.n) hh
  obtain ⟨y, hy⟩ : ∃ y, nextW M.h (slotI M.n) = y := ⟨_, rfl⟩
  rw [hy] at hni ⊢
  simp only [hy] at hbh
  have HNI := Lib.hid hni
  have HBH := Lib.hid hbh
  clear hy hni hbh
  have HLE := Lib.hid fun (v : World) (hv : Below w0.heap.size w0 v) => lead_c M.n 0 false v hn (hg.keep' hv)
  clear hfx hxh
  go_enter Tryz.func338, Tryz.ntmps338
  go_wp2_with fail
  refine OrdF.wp_float [?_, ?_, ?_, ?_, ?_, ?_, ?_, ?_, ?_, ?_, OrdF.Ptr, ?_] [11] 10 (fun v => Below w0.heap.size w0 v ∧ Blk 0 v a (av S.c M)) (OrdF.AF w0 [.int .u64 0, .int .i64 0, .bool false] (OrdF.Sta [fun N zs => N = boxI a (av S.c M) :: LT S R ∧ zs = [.int .u64 0, .int .i64 0, .bool false], fun N zs => N = boxI a (av S.c M) :: LT S R ∧ zs = [.int .u64 y, .int .i64 0, .bool false]])) (by kernel_rfl) (by kernel_rfl) (by kernel_rfl) ⟨hE.drew.below, hE.drew.get 0 rfl⟩ ⟨_, _, ⟨_, rfl, rfl, rfl⟩, .inl ⟨rfl, rfl, hE.drew⟩⟩ (fun hT => ?_)
  rotate_left 11
  have hT9 := Lib.hid hT
  clear hT
  repeat (first
    | (focus (refine OrdF.in_value (v := ?_) hT9.out (by decide) (by decide) ?_ (by rfl) ?_ ?_; rotate_left 2; (focus (intro w5 hS; have r := hS.2.rule; unfold av at r; go_simp <;> with_reducible rfl)); rotate_right; (focus rfl); (try simp only [Act.put, List.setIfInBounds_toArray, List.set_cons_zero, List.set_cons_succ])))
    | (focus (refine OrdF.in_off hT9.out (by decide) (by decide) ?_ (by rfl) ?_; (focus rfl); (try simp only [Act.put, List.setIfInBounds_toArray, List.set_cons_zero, List.set_cons_succ]))))
  focus (refine OrdF.in_call (v := .agg #[.int .i64 (slotI M.n), .int .i64 0]) (f := ?_) (args := ?_) hT9.out (by decide) (by decide) ?_ (by rfl) ?_ ?_ ?_; rotate_left 2; (focus rfl); (focus (intro w5 hS; skip; go_simp; constructor <;> with_reducible rfl)); (focus (intro w5 hS; refine (HLE.out _ hS.1).mono ?_; rintro e w6 ⟨rfl, hb6⟩; exact ⟨rfl, ⟨hS.1.trans (hb6.mono hS.1.size), hS.2.under hb6⟩, fun _ _ h => AF_over h hb6⟩)); (try simp only [Act.put, List.setIfInBounds_toArray, List.set_cons_zero, List.set_cons_succ]))
  focus (refine OrdF.in_call (v := .agg #[.int .u64 y, .int .i64 0, .bool false]) (f := ?_) (args := ?_) hT9.out (by decide) (by decide) ?_ (by rfl) ?_ ?_ ?_; rotate_left 2; (focus rfl); (focus (intro w5 hS; skip; go_simp; constructor <;> with_reducible rfl)); (focus (intro w5 hS; refine (HBH.out _ hS.1).mono ?_; rintro e w6 ⟨rfl, hb6⟩; exact ⟨rfl, ⟨hS.1.trans (hb6.mono hS.1.size), hS.2.under hb6⟩, fun _ _ h => AF_over h hb6⟩)); (try simp only [Act.put, List.setIfInBounds_toArray, List.set_cons_zero, List.set_cons_succ]))
  refine OrdF.in_float OrdF.Ptr (.pointer (some ⟨0, 0, none⟩)) ⟨0, rfl⟩ hT9.out rfl (by decide) ?_ (by rfl) ?_ ?_
  · rfl
  · intro w5 κs5 hC5 hA5
    go_simp
    simp only [Ord3.Lands]
    exact ⟨⟨_, rfl⟩, ⟨hC5.1.alloc hC5.1.size _, hC5.2.more _⟩, hA5.up _⟩
  rintro _ ⟨V, rfl⟩
  (try simp only [Act.put, List.setIfInBounds_toArray, List.set_cons_zero, List.set_cons_succ])
  refine OrdF.in_turn_late (by kernel_rfl) (by decide) (by decide) (fun u => u = undef) (undef) rfl hT9.out rfl (by decide) (by rfl) ?_ (.inl rfl) (by rfl) ?_ ?_
  · rfl
  · rintro w5 hC5 ⟨M5, z5, ⟨P5, hP5, hM5⟩, ⟨hn5, _⟩ | ⟨n5, hn5, hE5⟩⟩
    · cases hn5
    cases hn5
    cases hP5
    obtain ⟨rfl, rfl⟩ := hM5
    have r := hE5.rule 0 rfl; have ff := hE5.thaw 0 rfl; have f0 := ff 0 (by simp); have f1 := ff 1 (by simp); have f2 := ff 2 (by simp); clear ff
    go_simp
    have hE6 := hE5.put3 0 rfl (.int .u64 y) (.int .i64 0) (.bool false); exact ⟨rfl, ⟨hE6.below, hE6.get 1 rfl⟩, _, _, ⟨_, rfl, rfl, rfl⟩, .inr ⟨_, rfl, hE6⟩⟩
  rintro _ rfl
  (try simp only [Act.put, List.setIfInBounds_toArray, List.set_cons_zero, List.set_cons_succ])
  refine OrdF.in_nil rfl (by decide) (by decide) ?_
  rintro w5 hC5 ⟨M5, z5, ⟨P5, hP5, hM5⟩, ⟨hn5, _⟩ | ⟨n5, hn5, hE5⟩⟩
  · cases hn5
  cases hn5
  cases hP5
  obtain ⟨rfl, rfl⟩ := hM5
  clear hT9
  clear HBH HLE
  have rV := hE5.rule 0 rfl
  have r := hE5.rule 1 rfl
  unfold av at r
  have f := hE5.thaw 0 rfl 2 (by simp)
  go_wp2_with fail
  have hE6 := hE5.put 0 rfl (j := 2) (by simp) (.bool false)
  clear r rV f hE5 hE
  generalize w5.setCell _ _ = w6 at *
  replace hE6 : Env w0 (boxI V [.int .u64 y, .int .i64 0, .bool false] :: boxI a (av S.c M) :: LT S R) w6 := hE6
  refine Ord.wp_chain [11] (fun v => Blk 0 v a (av S.c M) ∧ Blk 0 v V [.int .u64 y, .int .i64 0, .bool false]) (fun k w' => ∃ G5, Env w0 (boxI V [.int .u64 y, .int .i64 0, .bool false] :: boxI a (av S.c M) :: LT (if k = 0 then S else { S with G := G5, f := swf S.f (2, 0, 0) M.h y, qc := swq S.qc (decide (S.f (2, 0, 0) = M.h)), m := S.m + 1 }) R) w') (by kernel_rfl) (by kernel_rfl) (by kernel_rfl) ⟨hE6.drew.get 1 rfl, hE6.drew.get 0 rfl⟩ ⟨S.G, hE6.drew⟩ (fun hT => ?_)
  have hT9 := Lib.hid hT
  clear hT
  repeat (first
    | (refine Ord.ch_value (v := ?_) hT9.out (by decide) (by rfl) ?_ ?_; rotate_left; (focus (intro w5 hS; have r := hS.1.rule; have r1 := hS.2.rule; unfold av at r; go_simp <;> with_reducible rfl)); (try simp only [Act.put, List.setIfInBounds_toArray, List.set_cons_zero, List.set_cons_succ]))
    | (refine Ord.ch_off hT9.out (by decide) (by rfl) ?_; (try simp only [Act.put, List.setIfInBounds_toArray, List.set_cons_zero, List.set_cons_succ]))
    | (refine Ord.ch_call (v := ?_) (f := ?_) (args := ?_) hT9.out (by decide) (by rfl) ?_ ?_ ?_; rotate_left 3; (focus (intro w5 hS; have r := hS.1.rule; have r1 := hS.2.rule; unfold av at r; go_simp; constructor <;> with_reducible rfl)); (focus (intro w5 hS; (first | (with_reducible refine (pool_any _).mono ?_; rintro e w6 ⟨rfl, hb6⟩; constructor; with_reducible rfl; exact ⟨⟨hS.1.under hb6, hS.2.under hb6⟩, fun k h => h.elim fun G5 h => ⟨G5, h.over hb6⟩⟩) | (with_reducible refine (shared_any _ _ _ _).mono ?_; rintro e w6 ⟨rfl, hb6⟩; constructor; with_reducible rfl; exact ⟨⟨hS.1.under hb6, hS.2.under hb6⟩, fun k h => h.elim fun G5 h => ⟨G5, h.over hb6⟩⟩)))); (try simp only [Act.put, List.setIfInBounds_toArray, List.set_cons_zero, List.set_cons_succ])))
  refine Ord.ch_turn (v := .bool false) 0 hT9.out rfl (by decide) (Or.inl rfl) (by rfl) ?_ ?_
  · rintro w5 hC5 ⟨G5, hA5⟩
    simp only [if_true] at hA5
    go_simp
    rw [method_swap]
    simp only [Result.andThen_ok]
    go_simp
    simp only [Ord.LandsIn]
    have hsw := swap_w 2 0 0 0 M.h 0 y 0 false false (by unfold Wf In64; simp) HNI.out hm 4 5 (by decide) hA5 rfl rfl
    rw [HD.out] at hsw
    refine hsw.mono ?_
    rintro e w6 ⟨rfl, G6, hE6⟩
    rw [HD.out]
    exact ⟨rfl, ⟨hE6.get 1 rfl, hE6.get 0 rfl⟩, G6, hE6⟩
  (try simp only [Act.put, List.setIfInBounds_toArray, List.set_cons_zero, List.set_cons_succ])
  repeat (first
    | (refine Ord.ch_value (v := ?_) hT9.out (by decide) (by rfl) ?_ ?_; rotate_left; (focus (intro w5 hS; skip; go_simp <;> with_reducible rfl)); (try simp only [Act.put, List.setIfInBounds_toArray, List.set_cons_zero, List.set_cons_succ]))
    | (refine Ord.ch_off hT9.out (by decide) (by rfl) ?_; (try simp only [Act.put, List.setIfInBounds_toArray, List.set_cons_zero, List.set_cons_succ])))
  refine Ord.InText.nil fun w5 hS => ?_
  clear hT9
  obtain ⟨hC9, hA9⟩ := Ord.chain_end hS
  clear hS
  obtain ⟨G9, hA9⟩ := hA9
  clear hC9
  simp only [List.length_cons, List.length_nil, Nat.zero_add, Nat.one_ne_zero, if_false] at hA9
  have r := hA9.rule 1 rfl
  unfold av at r
  go_wp2_with fail
  refine (goOn_m 1 _ _ _ (by simp [av]) (by exact congrArg some hz.out) hA9 rfl).mono ?_
  rintro o w7 ⟨rfl, hE7⟩
  go_wp2_with fail
  go_ret
  exact ⟨rfl, G9, hE7.sub (.cons _ (List.Sublist.refl _))⟩
set_option maxHeartbeats 3200000 in
theorem takeYes_a (hfx : S.f (2, 0, 0) = M.h) (hr : InU M.r) (hl : S.ql.length + 1 ≤ 1048576) (hh : InU M.h) (hn : InU M.n) (hg : Glo w0) (hm : S.m < maxLen) (hz : Hid (M.nx.2 = .int .i64 0)) (hE : Env w0 (boxI a (av S.c M) :: LT S R) w) :
    Calls Tryz.prog 338 #[.pointer (some ⟨a, 0, none⟩), .iface 26 (.pointer (some ⟨S.p, 0, none⟩))] w fun o w' => o = .returned (.int .i64 (decS (S.ql ++ [(slotI M.h, epI M.r, 0)]) S.ce S.cl)) ∧ ∃ nx k' F' G', (decP (S.ql ++ [(slotI M.h, epI M.r, 0)]) S.ce S.cl ≠ 0 → nx = nxA a (decP (S.ql ++ [(slotI M.h, epI M.r, 0)]) S.ce S.cl)) ∧ Rm S.kq (S.ql.length + 1) k' ∧ Env w0 (boxI a (av S.c { M with nx := nx }) :: LT { S with G := G', f := swf S.f (2, 0, 0) M.h (nextW M.h (slotI M.n)), qc := swq S.qc (decide (S.f (2, 0, 0) = M.h)), m := S.m + 1, ql := S.ql ++ [(slotI M.h, epI M.r, 0)], kq := k', F := F' } R) w' := by
  have hmf := makeF
  have hah := ahead_swap
  have HD : Hid (decide (S.f (2, 0, 0) = M.h) = true) := Lib.hid (by rw [hfx]; simp)
  have hlh := fun (v : World) (hv : Below w0.heap.size w0 v) => lead_c M.h 0 false v hh (hg.keep' hv)
  have hbh := fun (v : World) (hv : Below w0.heap.size w0 v) => behind_any M.h 0 (slotI M.n) 0 false hh v (hg.keep' hv)
  have hni := nextW_in M.h (slotI M.n) hh
  obtain ⟨y, hy⟩ : ∃ y, nextW M.h (slotI M.n) = y := ⟨_, rfl⟩
  rw [hy] at hni ⊢
  simp only [hy] at hbh
  have HNI := Lib.hid hni
  have HBH := Lib.hid hbh
  clear hy hni hbh
  obtain ⟨sl, hsl⟩ : ∃ sl, slotI M.h = sl := ⟨_, rfl⟩
  rw [hsl]
  simp only [hsl] at hlh
  have HLH := Lib.hid hlh
  have HRR := Lib.hid hr
  clear hsl hlh hr
  have HLE := Lib.hid fun (v : World) (hv : Below w0.heap.size w0 v) => lead_c M.n 0 false v hn (hg.keep' hv)
  clear hfx
  go_enter Tryz.func338, Tryz.ntmps338
  go_wp2_with fail
  refine OrdF.wp_float [?_, ?_, ?_, ?_, ?_, ?_, ?_, ?_, ?_, ?_, OrdF.Ptr, ?_] [11] 10 (fun v => Below w0.heap.size w0 v ∧ Blk 0 v a (av S.c M)) (OrdF.AF w0 [.int .u64 0, .int .i64 0, .bool false] (OrdF.Sta [fun N zs => N = boxI a (av S.c M) :: LT S R ∧ zs = [.int .u64 0, .int .i64 0, .bool false], fun N zs => N = boxI a (av S.c M) :: LT S R ∧ zs = [.int .u64 y, .int .i64 0, .bool false]])) (by kernel_rfl) (by kernel_rfl) (by kernel_rfl) ⟨hE.drew.below, hE.drew.get 0 rfl⟩ ⟨_, _, ⟨_, rfl, rfl, rfl⟩, .inl ⟨rfl, rfl, hE.drew⟩⟩ (fun hT => ?_)
  rotate_left 11
  have hT9 := Lib.hid hT
  clear hT
  repeat (first
    | (focus (refine OrdF.in_value (v := ?_) hT9.out (by decide) (by decide) ?_ (by rfl) ?_ ?_; rotate_left 2; (focus (intro w5 hS; have r := hS.2.rule; unfold av at r; go_simp <;> with_reducible rfl)); rotate_right; (focus rfl); (try simp only [Act.put, List.setIfInBounds_toArray, List.set_cons_zero, List.set_cons_succ])))
    | (focus (refine OrdF.in_off hT9.out (by decide) (by decide) ?_ (by rfl) ?_; (focus rfl); (try simp only [Act.put, List.setIfInBounds_toArray, List.set_cons_zero, List.set_cons_succ]))))
  focus (refine OrdF.in_call (v := .agg #[.int .i64 (slotI M.n), .int .i64 0]) (f := ?_) (args := ?_) hT9.out (by decide) (by decide) ?_ (by rfl) ?_ ?_ ?_; rotate_left 2; (focus rfl); (focus (intro w5 hS; skip; go_simp; constructor <;> with_reducible rfl)); (focus (intro w5 hS; refine (HLE.out _ hS.1).mono ?_; rintro e w6 ⟨rfl, hb6⟩; exact ⟨rfl, ⟨hS.1.trans (hb6.mono hS.1.size), hS.2.under hb6⟩, fun _ _ h => AF_over h hb6⟩)); (try simp only [Act.put, List.setIfInBounds_toArray, List.set_cons_zero, List.set_cons_succ]))
  focus (refine OrdF.in_call (v := .agg #[.int .u64 y, .int .i64 0, .bool false]) (f := ?_) (args := ?_) hT9.out (by decide) (by decide) ?_ (by rfl) ?_ ?_ ?_; rotate_left 2; (focus rfl); (focus (intro w5 hS; skip; go_simp; constructor <;> with_reducible rfl)); (focus (intro w5 hS; refine (HBH.out _ hS.1).mono ?_; rintro e w6 ⟨rfl, hb6⟩; exact ⟨rfl, ⟨hS.1.trans (hb6.mono hS.1.size), hS.2.under hb6⟩, fun _ _ h => AF_over h hb6⟩)); (try simp only [Act.put, List.setIfInBounds_toArray, List.set_cons_zero, List.set_cons_succ]))
  refine OrdF.in_float OrdF.Ptr (.pointer (some ⟨0, 0, none⟩)) ⟨0, rfl⟩ hT9.out rfl (by decide) ?_ (by rfl) ?_ ?_
  · rfl
  · intro w5 κs5 hC5 hA5
    go_simp
    simp only [Ord3.Lands]
    exact ⟨⟨_, rfl⟩, ⟨hC5.1.alloc hC5.1.size _, hC5.2.more _⟩, hA5.up _⟩
  rintro _ ⟨V, rfl⟩
  (try simp only [Act.put, List.setIfInBounds_toArray, List.set_cons_zero, List.set_cons_succ])
  refine OrdF.in_turn_late (by kernel_rfl) (by decide) (by decide) (fun u => u = undef) (undef) rfl hT9.out rfl (by decide) (by rfl) ?_ (.inl rfl) (by rfl) ?_ ?_
  · rfl
  · rintro w5 hC5 ⟨M5, z5, ⟨P5, hP5, hM5⟩, ⟨hn5, _⟩ | ⟨n5, hn5, hE5⟩⟩
    · cases hn5
    cases hn5
    cases hP5
    obtain ⟨rfl, rfl⟩ := hM5
    have r := hE5.rule 0 rfl; have ff := hE5.thaw 0 rfl; have f0 := ff 0 (by simp); have f1 := ff 1 (by simp); have f2 := ff 2 (by simp); clear ff
    go_simp
    have hE6 := hE5.put3 0 rfl (.int .u64 y) (.int .i64 0) (.bool false); exact ⟨rfl, ⟨hE6.below, hE6.get 1 rfl⟩, _, _, ⟨_, rfl, rfl, rfl⟩, .inr ⟨_, rfl, hE6⟩⟩
  rintro _ rfl
  (try simp only [Act.put, List.setIfInBounds_toArray, List.set_cons_zero, List.set_cons_succ])
  refine OrdF.in_nil rfl (by decide) (by decide) ?_
  rintro w5 hC5 ⟨M5, z5, ⟨P5, hP5, hM5⟩, ⟨hn5, _⟩ | ⟨n5, hn5, hE5⟩⟩
  · cases hn5
  cases hn5
  cases hP5
  obtain ⟨rfl, rfl⟩ := hM5
  clear hT9
  clear HBH HLE
  have rV := hE5.rule 0 rfl
  have r := hE5.rule 1 rfl
  unfold av at r
  have f := hE5.thaw 0 rfl 2 (by simp)
  go_wp2_with fail
  have hE6 := hE5.put 0 rfl (j := 2) (by simp) (.bool false)
  clear r rV f hE5 hE
  generalize w5.setCell _ _ = w6 at *
  replace hE6 : Env w0 (boxI V [.int .u64 y, .int .i64 0, .bool false] :: boxI a (av S.c M) :: LT S R) w6 := hE6
  refine Ord.wp_chain [11] (fun v => Blk 0 v a (av S.c M) ∧ Blk 0 v V [.int .u64 y, .int .i64 0, .bool false]) (fun k w' => ∃ G5, Env w0 (boxI V [.int .u64 y, .int .i64 0, .bool false] :: boxI a (av S.c M) :: LT (if k = 0 then S else { S with G := G5, f := swf S.f (2, 0, 0) M.h y, qc := swq S.qc (decide (S.f (2, 0, 0) = M.h)), m := S.m + 1 }) R) w') (by kernel_rfl) (by kernel_rfl) (by kernel_rfl) ⟨hE6.drew.get 1 rfl, hE6.drew.get 0 rfl⟩ ⟨S.G, hE6.drew⟩ (fun hT => ?_)
  have hT9 := Lib.hid hT
  clear hT
  repeat (first
    | (refine Ord.ch_value (v := ?_) hT9.out (by decide) (by rfl) ?_ ?_; rotate_left; (focus (intro w5 hS; have r := hS.1.rule; have r1 := hS.2.rule; unfold av at r; go_simp <;> with_reducible rfl)); (try simp only [Act.put, List.setIfInBounds_toArray, List.set_cons_zero, List.set_cons_succ]))
    | (refine Ord.ch_off hT9.out (by decide) (by rfl) ?_; (try simp only [Act.put, List.setIfInBounds_toArray, List.set_cons_zero, List.set_cons_succ]))
    | (refine Ord.ch_call (v := ?_) (f := ?_) (args := ?_) hT9.out (by decide) (by rfl) ?_ ?_ ?_; rotate_left 3; (focus (intro w5 hS; have r := hS.1.rule; have r1 := hS.2.rule; unfold av at r; go_simp; constructor <;> with_reducible rfl)); (focus (intro w5 hS; (first | (with_reducible refine (pool_any _).mono ?_; rintro e w6 ⟨rfl, hb6⟩; constructor; with_reducible rfl; exact ⟨⟨hS.1.under hb6, hS.2.under hb6⟩, fun k h => h.elim fun G5 h => ⟨G5, h.over hb6⟩⟩) | (with_reducible refine (shared_any _ _ _ _).mono ?_; rintro e w6 ⟨rfl, hb6⟩; constructor; with_reducible rfl; exact ⟨⟨hS.1.under hb6, hS.2.under hb6⟩, fun k h => h.elim fun G5 h => ⟨G5, h.over hb6⟩⟩)))); (try simp only [Act.put, List.setIfInBounds_toArray, List.set_cons_zero, List.set_cons_succ])))
  refine Ord.ch_turn (v := .bool true) 0 hT9.out rfl (by decide) (Or.inl rfl) (by rfl) ?_ ?_
  · rintro w5 hC5 ⟨G5, hA5⟩
    simp only [if_true] at hA5
    go_simp
    rw [method_swap]
    simp only [Result.andThen_ok]
    go_simp
    simp only [Ord.LandsIn]
    have hsw := swap_w 2 0 0 0 M.h 0 y 0 false false (by unfold Wf In64; simp) HNI.out hm 4 5 (by decide) hA5 rfl rfl
    rw [HD.out] at hsw
    refine hsw.mono ?_
    rintro e w6 ⟨rfl, G6, hE6⟩
    rw [HD.out]
    exact ⟨rfl, ⟨hE6.get 1 rfl, hE6.get 0 rfl⟩, G6, hE6⟩
  (try simp only [Act.put, List.setIfInBounds_toArray, List.set_cons_zero, List.set_cons_succ])
  repeat (first
    | (refine Ord.ch_value (v := ?_) hT9.out (by decide) (by rfl) ?_ ?_; rotate_left; (focus (intro w5 hS; skip; go_simp <;> with_reducible rfl)); (try simp only [Act.put, List.setIfInBounds_toArray, List.set_cons_zero, List.set_cons_succ]))
    | (refine Ord.ch_off hT9.out (by decide) (by rfl) ?_; (try simp only [Act.put, List.setIfInBounds_toArray, List.set_cons_zero, List.set_cons_succ])))
  refine Ord.InText.nil fun w5 hS => ?_
  clear hT9
  obtain ⟨hC9, hA9⟩ := Ord.chain_end hS
  clear hS
  obtain ⟨G9, hA9⟩ := hA9
  clear hC9
  simp only [List.length_cons, List.length_nil, Nat.zero_add, Nat.one_ne_zero, if_false] at hA9
  have r := hA9.rule 1 rfl
  unfold av at r
  go_wp2_with fail
  refine (HLH.out _ hA9.below).mono ?_
  rintro o w7 ⟨rfl, hb⟩
  replace hA9 := hA9.over hb
  have hE8 := (hA9.sub (.cons _ (List.Sublist.refl _))).box w7.heap.size rfl [.int .i64 sl, .int .i64 0] 136
  clear hb r hA9 HLH
  go_wp2_with fail
  generalize w7.alloc _ = w8 at *
  generalize w7.heap.size = Y at *
  have hE9 := hE8.perm (L' := boxI a (av S.c M) :: LT ({ S with G := G9, f := swf S.f (2, 0, 0) M.h y, qc := swq S.qc (decide (S.f (2, 0, 0) = M.h)), m := S.m + 1 } : ST) (boxI Y [.int .i64 sl, .int .i64 0] :: R)) (List.perm_middle (l₁ := [boxI a (av S.c M), _, _, _, _])).symm
  clear hE8
  refine Ord.wp_chain [11] (fun v => (∃ nx, Blk 0 v a (av S.c { M with nx := nx })) ∧ Blk 0 v Y [.int .i64 sl, .int .i64 0]) (fun k w' => ∃ nx k' F', (k ≠ 0 → (decP (S.ql ++ [(sl, epI M.r, 0)]) S.ce S.cl ≠ 0 → nx = nxA a (decP (S.ql ++ [(sl, epI M.r, 0)]) S.ce S.cl)) ∧ Rm S.kq (S.ql.length + 1) k') ∧ (k = 0 → Hid (nx.2 = .int .i64 0)) ∧ Env w0 (boxI a (av S.c { M with nx := nx }) :: LT (if k = 0 then ({ S with G := G9, f := swf S.f (2, 0, 0) M.h y, qc := swq S.qc (decide (S.f (2, 0, 0) = M.h)), m := S.m + 1 } : ST) else { S with G := G9, f := swf S.f (2, 0, 0) M.h y, qc := swq S.qc (decide (S.f (2, 0, 0) = M.h)), m := S.m + 1, ql := S.ql ++ [(sl, epI M.r, 0)], kq := k', F := F' }) (boxI Y [.int .i64 sl, .int .i64 0] :: R)) w') (by kernel_rfl) (by kernel_rfl) (by kernel_rfl) ⟨⟨M.nx, hE9.drew.get 0 rfl⟩, hE9.drew.get 5 rfl⟩ ⟨M.nx, 0, S.F, fun h => absurd rfl h, fun _ => hz, hE9.drew⟩ (fun hT => ?_)
  have hT9 := Lib.hid hT
  clear hT
  repeat (first
    | (refine Ord.ch_value (v := ?_) hT9.out (by decide) (by rfl) ?_ ?_; rotate_left; (focus (intro w5 hS; obtain ⟨⟨nx9, hS1⟩, hS2⟩ := hS; have r := hS1.rule; have r1 := hS2.rule; unfold av at r; go_simp <;> with_reducible rfl)); (try simp only [Act.put, List.setIfInBounds_toArray, List.set_cons_zero, List.set_cons_succ]))
    | (refine Ord.ch_off hT9.out (by decide) (by rfl) ?_; (try simp only [Act.put, List.setIfInBounds_toArray, List.set_cons_zero, List.set_cons_succ]))
    | (refine Ord.ch_call (v := ?_) (f := ?_) (args := ?_) hT9.out (by decide) (by rfl) ?_ ?_ ?_; rotate_left 3; (focus (intro w5 hS; obtain ⟨⟨nx9, hS1⟩, hS2⟩ := hS; have r := hS1.rule; have r1 := hS2.rule; unfold av at r; go_simp; constructor <;> with_reducible rfl)); (focus (intro w5 hS; (first | (with_reducible refine (epochOf_any _ _ _ HRR.out _).mono ?_; rintro e w6 ⟨rfl, hb6⟩; constructor; with_reducible rfl; exact ⟨⟨hS.1.elim fun nx9 h => ⟨nx9, h.under hb6⟩, hS.2.under hb6⟩, fun k h => h.elim fun nx8 h => h.elim fun k8 h => h.elim fun F8 h => ⟨nx8, k8, F8, h.1, h.2.1, h.2.2.over hb6⟩⟩)))); (try simp only [Act.put, List.setIfInBounds_toArray, List.set_cons_zero, List.set_cons_succ])))
  refine Ord.ch_turn (v := .int .i64 (decS (S.ql ++ [(sl, epI M.r, 0)]) S.ce S.cl)) 0 hT9.out rfl (by decide) (Or.inl rfl) (by rfl) ?_ ?_
  · rintro w5 hC5 ⟨nx5, k5, F5, -, hz5, hA5⟩
    obtain ⟨⟨nx9, hS1⟩, hS2⟩ := hC5
    simp only [if_true] at hA5
    go_simp
    simp only [Ord.LandsIn]
    refine (came_a (S := ({ S with G := G9, f := swf S.f (2, 0, 0) M.h y, qc := swq S.qc (decide (S.f (2, 0, 0) = M.h)), m := S.m + 1 } : ST)) sl (epI M.r) hl (hz5 rfl) hA5).mono ?_
    rintro e w6 ⟨rfl, nx, k', F', hnx, hrm, hE6⟩
    first | exact ⟨rfl, ⟨⟨_, hE6.get 0 rfl⟩, hE6.get 5 rfl⟩, nx, k', ⟨hnx, hrm⟩, F', hE6⟩ | exact ⟨rfl, ⟨⟨nx.1, nx.2, hE6.get 0 rfl⟩, hE6.get 5 rfl⟩, nx.1, nx.2, k', ⟨hnx, hrm⟩, F', hE6⟩ | exact ⟨rfl, ⟨⟨nx.1, nx.2, hE6.get 0 rfl⟩, hE6.get 5 rfl⟩, nx, k', ⟨hnx, hrm⟩, F', hE6⟩
  (try simp only [Act.put, List.setIfInBounds_toArray, List.set_cons_zero, List.set_cons_succ])
  repeat (first
    | (refine Ord.ch_value (v := ?_) hT9.out (by decide) (by rfl) ?_ ?_; rotate_left; (focus (intro w5 hS; skip; go_simp <;> with_reducible rfl)); (try simp only [Act.put, List.setIfInBounds_toArray, List.set_cons_zero, List.set_cons_succ]))
    | (refine Ord.ch_off hT9.out (by decide) (by rfl) ?_; (try simp only [Act.put, List.setIfInBounds_toArray, List.set_cons_zero, List.set_cons_succ])))
  refine Ord.InText.nil fun w5 hS => ?_
  clear hT9
  obtain ⟨hC9, hA9⟩ := Ord.chain_end hS
  clear hS
  obtain ⟨nx, k', F', hc9, -, hA9⟩ := hA9
  obtain ⟨hnx, hrm⟩ := hc9 (by decide)
  simp only [List.length_cons, List.length_nil, Nat.zero_add, Nat.one_ne_zero, if_false] at hA9
  clear hC9 hc9
  go_wp2_with fail
  go_ret
  exact ⟨rfl, nx, k', F', G9, hnx, hrm, hA9.sub (.cons_cons _ (.cons_cons _ (.cons_cons _ (.cons_cons _ (.cons_cons _ (.cons _ (List.Sublist.refl _)))))))⟩
end
end Go.Proofs.YtdknbegcflldjaaGreatDoor

/- Allocs: what is stored of a birth; its rows, one of the words each. -/
namespace Go.Proofs.YtdknbegcflldjaaGreatDoor
open Go.RowKit Go.Maps
set_option maxRecDepth 100000

/-- Cells that are read. -/
def lieI (g : Nat) (xs : List Value) : Item where
  F := fun k => k = g
  says := fun w => ∀ j u, xs[j]? = some u → w.cell? ⟨g, j, none⟩ = some u
  loc := fun w1 w2 h hk _ j u hu => by
    have e := hk g rfl
    have e2 := h j u hu
    unfold World.cell? at e2 ⊢
    rw [e]
    exact e2
theorem Env.lies {w0 w : World} {L : List Item} (h : Env w0 L w) (i : Nat) {g : Nat} {xs : List Value} (hi : L[i]? = some (lieI g xs)) : ∀ j u, xs[j]? = some u → w.cell? ⟨g, j, none⟩ = some u := h.get i hi
/-- A row of the call's own, as cells that are read. -/
theorem Env.rowLies {w0 w : World} {L : List Item} {e : TypeId} {s n : Nat} {v : Value} {xs : List Value} (h : Env w0 (rowI v e s n xs :: L) w) (hn : n ≠ 0) :
    ∃ g c, v = .slice (some ⟨g, 0, none⟩) n c ∧ n ≤ c ∧ Env w0 (lieI g xs :: L) w := by
  have ho : w.ownsRow 0 e s v n xs := h.get 0 rfl
  rcases ho.2 with ⟨-, h0⟩ | ⟨g, cap, cur, hv, -, hg, hnc, -⟩
  · exact absurd h0 hn
  · refine ⟨g, cap, hv, hnc, ?_⟩
    have h2 := h.step 0 (lieI g xs) rfl (w' := w) ⟨Turn.refl _ w, fun k hk => .inl (by
      show v.ownBlock = some k
      rw [hv]
      show some g = some k
      rw [show k = g from hk])⟩ (fun j u hu => by
        have this := ho.cells (g := g) (by rw [hv]; rfl) j u hu
        have e2 : (⟨g, 0, none⟩ : Addr).add j = ⟨g, j, none⟩ := by unfold Addr.add; split <;> simp_all
        rw [e2] at this
        exact this) (fun k hk => h.lt 0 rfl k (by
      show v.ownBlock = some k
      rw [hv]
      show some g = some k
      rw [show k = g from hk]))
    exact h2
/-- A row appended to a row of the call's own. -/
theorem Env.appendRow {P : Program} {w0 w : World} {L : List Item} (h : Env w0 L w) (i : Nat) {v : Value} {e : TypeId} {s n b : Nat} {xs : List Value} (hi : L[i]? = some (rowI v e s n xs)) (t ty : TypeId) (ht : P.underlying t = some (.slice e)) (z : Value) (hinfo : (P.info? e).map (fun i => (i.zero, i.size, i.bytes)) = some (some z, s, b)) (hzs : z.cells.size = s) (hsz : 0 < s)
    (A : Option Addr) (m c : Nat) (news : List Value) (hl : news.length = m * s) (hnews : (A = none ∧ m = 0) ∨ ∃ ad, A = some ad ∧ ∀ j u, news[j]? = some u → w.cell? (ad.add j) = some u) (h1 : ∀ u ∈ news, u.oneCell' = true) (h63 : n + m ≤ maxLen) (hbytes : (n + m) * b ≤ 140737488355328) :
    ∃ A' c' w', (Builtin.append_ #[t, t] ty #[v, .slice A m c]).run P w = .ok (.slice A' (n + m) c') w' ∧ Env w0 (L.set i (rowI (.slice A' (n + m) c') e s (n + m) (xs ++ news))) w' := by
  obtain ⟨i0, hi0, hzz⟩ := Option.map_eq_some_iff.1 hinfo
  simp only [Prod.mk.injEq] at hzz
  obtain ⟨hz0, hs, hb⟩ := hzz
  have hown : w.ownsRow 0 e s v n xs := h.get i hi
  obtain ⟨v', w', hrun, ho, hg, hv⟩ := run_append_rows (P := P) t ty 0 e i0 z s b ht hi0 hz0 hs hb hzs hsz w v n xs hown A m c news hl hnews h1 h63 hbytes (Nat.zero_le _)
  obtain ⟨A', c', rfl⟩ := ownsRow_slice ho
  refine ⟨A', c', w', hrun, h.step i (rowI _ e s (n + m) (xs ++ news)) hi ⟨(Turn.refl _ w).grown hg fun k _ e => e, fun k hk => ?_⟩ ho (ownsRow_lt ho)⟩
  rcases hv with e | e
  · exact .inl (by show v.ownBlock = some k; rw [← e]; exact hk)
  · right
    have : some w.heap.size = some k := e.symm.trans hk
    cases this
    exact Nat.le_refl _
def flat2 (l : List (Int × Int)) : List Value := l.flatMap fun p => [.int .i64 p.1, .int .u64 p.2]
def wordsA (ck e key val lv : Int) : List (Int × Int) := [(0, e), (1, 0), (3, key)] ++ (if ck = 2 then [(4, val)] else if ck = 3 then [(5, lv), (6, 0)] else [])
theorem infoWrite : (Tryz.prog.info? 356).map (fun i => (i.zero, i.size, i.bytes)) = some (some (.agg #[.int .i64 0, .int .u64 0]), 2, 16) := by kernel_rfl

section
variable {w0 w : World} {R : List Item} {a : Nat} {S : ST} {M : MA}
set_option maxHeartbeats 3200000 in
theorem words_a (he : 0 ≤ S.ce ∧ S.ce ≤ 9223372036854775807) (hE : Env w0 (boxI a (av S.c M) :: LT S R) w) :
    Calls Tryz.prog 314 #[.pointer (some ⟨a, 0, none⟩)] w fun o w' => ∃ g c, o = .returned (.slice (some ⟨g, 0, none⟩) (wordsA S.ck S.ce M.key M.val (IntKind.u64.wrap M.lv)).length c) ∧ (wordsA S.ck S.ce M.key M.val (IntKind.u64.wrap M.lv)).length ≤ c ∧ Env w0 (lieI g (flat2 (wordsA S.ck S.ce M.key M.val (IntKind.u64.wrap M.lv))) :: boxI a (av S.c M) :: LT S R) w' := by
  have hw1 : IntKind.u64.wrap S.ce = S.ce := wrapU _ (by omega) (by omega)
  have hki := kind_of
  clear he
  go_enter Tryz.func314, Tryz.ntmps314
  go_wp2_with fail
  refine Ord3.wp_chain [?_, ?_, ?_, ?_, ?_, ?_, ?_, ?_, ?_, ?_, ?_, ?_, ?_, ?_, ?_, ?_, ?_] [15, 16] (fun w' => Blk 0 w' a (av S.c M) ∧ Blk 0 w' S.c (crv S.ck S.cs S.cb S.ch S.cl S.ce S.cr S.hs 0 S.q)) (Ord3.Stage fun κs => [Env w0 (boxI a (av S.c M) :: LT S R), Env w0 (rowI (κs.getD 0 undef) 356 2 3 (flat2 [(0, S.ce), (1, 0), (3, M.key)]) :: boxI a (av S.c M) :: LT S R), Env w0 (rowI (κs.getD 1 undef) 356 2 3 (flat2 [(0, S.ce), (1, 0), (3, M.key)]) :: boxI a (av S.c M) :: LT S R)]) (by kernel_rfl) (by kernel_rfl) (by kernel_rfl) ⟨hE.drew.get 0 rfl, hE.drew.get 1 rfl⟩ ⟨_, rfl, hE.drew⟩ (fun hT => ?_)
  rotate_left 17
  have hT9 := Lib.hid hT
  clear hT
  repeat (first
    | (focus (refine Ord3.in_value (v := ?_) hT9.out (by decide) ?_ (by rfl) ?_ ?_; rotate_left 2; (focus (intro w5 hS; have r1 := Blk.rule hS.1; unfold av at r1; go_simp <;> with_reducible rfl)); rotate_right; (focus rfl); (try simp only [Act.put, List.setIfInBounds_toArray, List.set_cons_zero, List.set_cons_succ])))
    | (focus (refine Ord3.in_off hT9.out (by decide) ?_ (by rfl) ?_; (focus rfl); (try simp only [Act.put, List.setIfInBounds_toArray, List.set_cons_zero, List.set_cons_succ])))
    | (focus (refine Ord3.in_call (v := ?_) (f := ?_) (args := ?_) hT9.out (by decide) ?_ (by rfl) ?_ ?_ ?_; rotate_left 4; (focus (intro w5 hS; have r1 := Blk.rule hS.1; unfold av at r1; go_simp; constructor <;> with_reducible rfl)); (focus (intro w5 hS; (first | (with_reducible refine (epoch_c hS.2).mono ?_; rintro o w6 ⟨rfl, rfl⟩; constructor; with_reducible rfl; exact ⟨hS, fun _ h => h⟩)))); rotate_right; (focus rfl); (try simp only [Act.put, List.setIfInBounds_toArray, List.set_cons_zero, List.set_cons_succ]))))
  refine Ord3.in_turn (fun u => ∃ z, u = .slice (some ⟨z, 0, none⟩) 3 3) _ ⟨0, rfl⟩ hT9.out rfl (by decide) (by rfl) ?_ (Or.inl rfl) (by rfl) ?_ ?_
  · rfl
  · rintro w7 hC7 ⟨P7, hP7, hA7⟩
    cases hP7
    go_simp
    simp only [Ord3.Lands]
    have hb := (Below.refl w7.heap.size w7).alloc (Nat.le_refl _) (.cells (flat2 [(0, S.ce), (1, 0), (3, M.key)]).toArray 356)
    have hE8 := hA7.add (rowI (.slice (some ⟨w7.heap.size, 0, none⟩) 3 3) 356 2 3 (flat2 [(0, S.ce), (1, 0), (3, M.key)])) hb (World.ownsRow_lit w7 (flat2 [(0, S.ce), (1, 0), (3, M.key)]).toArray 3 (Nat.zero_le _) (by decide) rfl) (fun k hk => by
      have : w7.heap.size = k := by simpa [rowI, Value.ownBlock] using hk
      subst this
      simp)
    exact ⟨⟨_, rfl⟩, ⟨hE8.get 1 rfl, hE8.get 2 rfl⟩, _, rfl, hE8⟩
  rintro _ ⟨z9, rfl⟩
  (try simp only [Act.put, List.setIfInBounds_toArray, List.set_cons_zero, List.set_cons_succ])
  refine Ord3.in_turn (fun u => ∃ z, u = .slice (some ⟨z, 0, none⟩) 3 3) _ ⟨0, rfl⟩ hT9.out rfl (by decide) (by rfl) ?_ (Or.inr ⟨_, 15, [], rfl, by kernel_rfl, by kernel_rfl, rfl⟩) (by rfl) ?_ ?_
  · rfl
  · rintro w7 hC7 ⟨P7, hP7, hA7⟩
    cases hP7
    go_simp
    simp only [Ord3.Lands]
    exact ⟨⟨_, rfl⟩, hC7, _, rfl, hA7⟩
  rintro _ ⟨z8, rfl⟩
  (try simp only [Act.put, List.setIfInBounds_toArray, List.set_cons_zero, List.set_cons_succ])
  refine Ord3.in_nil rfl ?_
  rintro w9 hC9 ⟨P9, hP9, hA9⟩
  cases hP9
  replace hA9 : Env w0 (rowI (.slice (some ⟨z8, 0, none⟩) 3 3) 356 2 3 (flat2 [(0, S.ce), (1, 0), (3, M.key)]) :: boxI a (av S.c M) :: LT S R) w9 := hA9
  clear hT9 hC9 hE
  have r := hA9.rule 1 rfl
  unfold av at r
  go_wp2_with fail
  refine (conf_c (hA9.get 2 rfl)).mono ?_
  rintro o w10 ⟨rfl, hb⟩
  replace hA9 := hA9.over hb
  clear hb r
  have r := hA9.rule 1 rfl
  unfold av at r
  generalize w10 = w9 at *
  rcases hk2 : S.ck == 2 with _ | _
  · rcases hk3 : S.ck == 3 with _ | _
    · have hw : wordsA S.ck S.ce M.key M.val (IntKind.u64.wrap M.lv) = [(0, S.ce), (1, 0), (3, M.key)] := by
        simp only [beq_eq_false_iff_ne] at hk2 hk3
        simp [wordsA, hk2, hk3]
      have HW := Lib.hid hw
      clear hw
      go_wp2_with fail
      go_ret
      obtain ⟨g, c, he, hc, hE12⟩ := hA9.rowLies (by decide)
      cases he
      rw [HW.out]
      exact ⟨_, _, rfl, hc, hE12⟩
    · simp only [beq_eq_false_iff_ne] at hk2
      have hw : wordsA S.ck S.ce M.key M.val (IntKind.u64.wrap M.lv) = [(0, S.ce), (1, 0), (3, M.key)] ++ [(5, IntKind.u64.wrap M.lv), (6, 0)] := by unfold wordsA; rw [if_neg (by simpa using hk2), if_pos (by simpa using hk3)]
      have HW := Lib.hid hw
      clear hw
      have hE10 := hA9.box w9.heap.size rfl [.int .i64 5, .int .u64 (IntKind.u64.wrap M.lv), .int .i64 6, .int .u64 0] 356
      obtain ⟨A', c', w', hrun, hE11⟩ := hE10.appendRow (P := Tryz.prog) 1 rfl 330 330 Tryz.underlying330 (.agg #[.int .i64 0, .int .u64 0]) infoWrite rfl (by decide) (some ⟨w9.heap.size, 0, none⟩) 2 2 [.int .i64 5, .int .u64 (IntKind.u64.wrap M.lv), .int .i64 6, .int .u64 0] rfl (.inr ⟨_, rfl, cells_new _ _ _⟩) (by simp [Value.oneCell']) (by decide) (by decide)
      have HRUN := Lib.hid hrun
      clear hrun
      go_wp2_with (first | (at_builtin; refine wpList_append_run rfl _ _ 330 rfl HRUN.out rfl rfl ?_))
      go_ret
      obtain ⟨g, c, he, hc, hE12⟩ := (hE11.sub (.cons _ (List.Sublist.refl _))).rowLies (by decide)
      cases he
      rw [HW.out]
      exact ⟨g, c', rfl, hc, hE12⟩
  · have hk3 : (S.ck == 3) = false := by simp only [beq_iff_eq] at hk2; simp [hk2]
    have hw : wordsA S.ck S.ce M.key M.val (IntKind.u64.wrap M.lv) = [(0, S.ce), (1, 0), (3, M.key)] ++ [(4, M.val)] := by unfold wordsA; rw [if_pos (by simpa using hk2)]
    have HW := Lib.hid hw
    clear hw
    have hE10 := hA9.box w9.heap.size rfl [.int .i64 4, .int .u64 M.val] 356
    obtain ⟨A', c', w', hrun, hE11⟩ := hE10.appendRow (P := Tryz.prog) 1 rfl 330 330 Tryz.underlying330 (.agg #[.int .i64 0, .int .u64 0]) infoWrite rfl (by decide) (some ⟨w9.heap.size, 0, none⟩) 1 1 [.int .i64 4, .int .u64 M.val] rfl (.inr ⟨_, rfl, cells_new _ _ _⟩) (by simp [Value.oneCell']) (by decide) (by decide)
    have HRUN := Lib.hid hrun
    clear hrun
    go_wp2_with (first | (at_builtin; refine wpList_append_run rfl _ _ 330 rfl HRUN.out rfl rfl ?_))
    go_ret
    obtain ⟨g, c, he, hc, hE12⟩ := (hE11.sub (.cons _ (List.Sublist.refl _))).rowLies (by decide)
    cases he
    rw [HW.out]
    exact ⟨g, c', rfl, hc, hE12⟩
end
end Go.Proofs.YtdknbegcflldjaaGreatDoor
