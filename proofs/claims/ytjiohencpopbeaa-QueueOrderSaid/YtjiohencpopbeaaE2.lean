/- QueueOrder (P11.1 to P11.3): what is pushed is popped in that order, each once, however pushes and pops go between; room is a power of two that holds all. Of all rows of entries and all rows of bools; rows of more than 200 entries are answered true by the statement itself. -/
import Derived.Test.YtjiohencpopbeaaE1
import Derived.LoopIn
import Derived.OwnWalk
import Derived.Test.YtjiohencpopbeaaChecked
import Derived.WalkKit
import Derived.ProofKit
import Derived.OpenShut
import Derived.Test.YtjiohencpopbeaaRows

/- Queues: the contracts of Head, Pop, Find. -/
namespace Go.Proofs.Ytjiohencpopbeaa
open Go.RowKit Go.Maps
set_option maxRecDepth 100000

theorem below_set {n B i : Nat} {a b : World} (h : Below n a b) (hs : n ≤ b.heap.size) (hB : n ≤ B) (u : Value) : Below n a (b.setCell ⟨B, i, none⟩ u) :=
  Turn.below h ((Turn.refl (fun k => k = B) b).setCell (p := ⟨B, i, none⟩) (fun _ => rfl) u) hs (fun k e => by subst e; exact hB)
theorem Blk.off {m n B i : Nat} {vs : List Value} {w : World} (h : Blk m w n vs) (hne : n ≠ B) (u : Value) : Blk m (w.setCell ⟨B, i, none⟩ u) n vs := h.kept (by simp) (Below.heap_setCell _ _ _ _ (by simpa using hne))
theorem Blk.put3 {m B : Nat} {a b c : Value} {w : World} (h : Blk m w B [a, b, c]) (u v t : Value) : Blk m (((w.setCell ⟨B, 0, none⟩ u).setCell ⟨B, 1, none⟩ v).setCell ⟨B, 2, none⟩ t) B [u, v, t] := ((h.set (i := 0) (by simp) u).set (i := 1) (by simp) v).set (i := 2) (by simp) t

set_option maxHeartbeats 800000 in
theorem head_any {w : World} {q k : Nat} {F : Nat → Prop} {l : List Trip} (x y z : Int) (hQ : IsQ w q F ((x, y, z) :: l) k) :
    Calls Try.prog 12 #[.pointer (some ⟨q, 0, none⟩)] w fun e w' => e = .returned (.tuple #[tv (x, y, z), .bool true]) ∧ Below w.heap.size w w' := by
  obtain ⟨hl1, hl2, hk2, hk⟩ := hQ.len
  have hQ0 := Lib.hid hQ
  obtain ⟨R, g, r, hq, hr, hring, _, _, hne, hF⟩ := hQ
  obtain ⟨hx, -⟩ := hring.pop
  have hrl := hring.1
  have h4 := pow_four hk2
  have hlt : g % 2 ^ k < 2 ^ k := Nat.mod_lt _ (by omega)
  have hcell : ∀ w', Blk 0 w' R (flat3 r) → w'.cell? ⟨R, g % 2 ^ k * 3, none⟩ = some (.int .i64 x) ∧ w'.cell? ⟨R, g % 2 ^ k * 3 + 1, none⟩ = some (.int .i64 y) ∧ w'.cell? ⟨R, g % 2 ^ k * 3 + 2, none⟩ = some (.int .i64 z) := fun w' h => by
    have e := fun c hc => (h.rule (g % 2 ^ k * 3 + c)).trans (flat3_get r (g % 2 ^ k) c (by omega) hc)
    rw [hx] at e
    exact ⟨e 0 (by omega), e 1 (by omega), e 2 (by omega)⟩
  have HA := Lib.hid fun w' => at_any R k g w' hk
  have hB := Blk.new 0 w [.int .i64 0, .int .i64 0, .int .i64 0] 35
  have hq1 := hq.more (.cells [.int .i64 0, .int .i64 0, .int .i64 0].toArray 35)
  have hr1 := hr.more (.cells [.int .i64 0, .int .i64 0, .int .i64 0].toArray 35)
  have hE := (Below.refl w.heap.size w).alloc (Nat.le_refl _) (.cells [.int .i64 0, .int .i64 0, .int .i64 0].toArray 35)
  have hqR : q < w.heap.size ∧ R < w.heap.size := ⟨hq.1, hr.1⟩
  have hz : ((((x, y, z) :: l).length : Int) == 0) = false := by simp; omega
  unfold qv at hq1
  generalize hG : (cnt g) = G at *
  generalize (cnt (g + ((x, y, z) :: l).length)) = C at *
  generalize ((x, y, z) :: l).length = n at *
  clear hq hr hring hF hx
  generalize g % 2 ^ k = p at *
  generalize 2 ^ k = N at *
  have HC := Lib.hid hcell
  clear hcell
  go_enter Try.func12, Try.ntmps12
  go_wp2_with fail
  refine (len_any (hQ0.out.below hE)).mono ?_
  rintro e w1 ⟨rfl, hb⟩
  have hB1 : Blk 0 w1 w.heap.size [.int .i64 0, .int .i64 0, .int .i64 0] := hB.kept hb.size (hb.block _ hB.1)
  have hq2 : Blk 0 w1 q _ := hq1.kept hb.size (hb.block _ hq1.1)
  have hr2 : Blk 0 w1 R _ := hr1.kept hb.size (hb.block _ hr1.1)
  have hE1 : Below w.heap.size w w1 := hE.trans (hb.mono (by simp))
  have hs1 : w.heap.size + 1 ≤ w1.heap.size := by have := hb.size; simpa using this
  clear hB hq1 hr1 hE hb hQ0
  have hz' : ((n : Int) == 0) = false := by simpa using hz
  go_wp2_with fail
  refine Ord.wp_chain [11] (fun w' => Blk 0 w' q [.slice (some ⟨R, 0, none⟩) N N, .int .u64 G, .int .u64 C] ∧ Blk 0 w' R (flat3 r)) (fun j w' => w.heap.size + 1 ≤ w'.heap.size ∧ Below w.heap.size w w' ∧ Blk 0 w' w.heap.size (if j = 0 then [.int .i64 0, .int .i64 0, .int .i64 0] else [.int .i64 x, .int .i64 y, .int .i64 z])) (by kernel_rfl) (by kernel_rfl) (by kernel_rfl) ⟨hq2.drew, hr2.drew⟩ ⟨hs1, hE1.drew, hB1.drew⟩ (fun hT => ?_)
  have hT9 := Lib.hid hT
  clear hT
  repeat (first
    | (refine Ord.ch_value (v := ?_) hT9.out (by decide) (by rfl) ?_ ?_; rotate_left; (focus (intro w5 hS; have r := Blk.rule hS.1; obtain ⟨c0, c1, c2⟩ := HC.out _ hS.2; go_simp <;> with_reducible rfl)); (try simp only [Act.put, List.setIfInBounds_toArray, List.set_cons_zero, List.set_cons_succ]))
    | (refine Ord.ch_off hT9.out (by decide) (by rfl) ?_; (try simp only [Act.put, List.setIfInBounds_toArray, List.set_cons_zero, List.set_cons_succ]))
    | (refine Ord.ch_call (v := ?_) (f := ?_) (args := ?_) hT9.out (by decide) (by rfl) ?_ ?_ ?_; rotate_left 3; (focus (intro w5 hS; have r := Blk.rule hS.1; obtain ⟨c0, c1, c2⟩ := HC.out _ hS.2; go_simp; constructor <;> with_reducible rfl)); (focus (intro w5 hS; (first | (with_reducible refine (HA.out w5).mono ?_; rintro e w6 ⟨rfl, rfl⟩; constructor; with_reducible rfl; exact ⟨hS, fun _ h => h⟩)))); (try simp only [Act.put, List.setIfInBounds_toArray, List.set_cons_zero, List.set_cons_succ])))
  refine Ord.ch_turn (v := undef) 0 hT9.out rfl (by decide) (Or.inl rfl) (by rfl) ?_ ?_
  · rintro w5 hS ⟨hA0, hA1, hA2⟩
    simp only [if_true] at hA2
    have r := hA2.rule
    have f0 := hA2.thaw 0 (by simp)
    have f1 := hA2.thaw 1 (by simp)
    have f2 := hA2.thaw 2 (by simp)
    go_simp
    refine ⟨rfl, ⟨((hS.1.off (by omega) _).off (by omega) _).off (by omega) _, ((hS.2.off (by omega) _).off (by omega) _).off (by omega) _⟩, by simpa using hA0, ?_, ?_⟩
    · exact below_set (below_set (below_set hA1 (by omega) (Nat.le_refl _) _) (by simp; omega) (Nat.le_refl _) _) (by simp; omega) (Nat.le_refl _) _
    · exact Blk.put3 hA2 _ _ _
  (try simp only [Act.put, List.setIfInBounds_toArray, List.set_cons_zero, List.set_cons_succ])
  repeat (first
    | (refine Ord.ch_value (v := ?_) hT9.out (by decide) (by rfl) ?_ ?_; rotate_left; (focus (intro w5 hS; skip; go_simp <;> with_reducible rfl)); (try simp only [Act.put, List.setIfInBounds_toArray, List.set_cons_zero, List.set_cons_succ]))
    | (refine Ord.ch_off hT9.out (by decide) (by rfl) ?_; (try simp only [Act.put, List.setIfInBounds_toArray, List.set_cons_zero, List.set_cons_succ])))
  refine Ord.InText.nil fun w5 hS => ?_
  clear hT9
  obtain ⟨hC9, hA9⟩ := Ord.chain_end hS
  clear hS
  obtain ⟨hA0, hA1, hA2⟩ := hA9
  have q := hA2.rule
  simp only [show ¬ [11].length = 0 by decide, if_false] at q
  go_wp2
  exact bodyPost_ret (v := .tuple #[tv (x, y, z), .bool true]) (by simp [results, Try.results12, go_sem, q, tv]) rfl ⟨rfl, hA1⟩

theorem headNone_any {w : World} {q k : Nat} {F : Nat → Prop} (hQ : IsQ w q F [] k) :
    Calls Try.prog 12 #[.pointer (some ⟨q, 0, none⟩)] w fun e w' => e = .returned (.tuple #[tv t0, .bool false]) ∧ Below w.heap.size w w' := by
  have hB := Blk.new 0 w [.int .i64 0, .int .i64 0, .int .i64 0] 35
  have hE := (Below.refl w.heap.size w).alloc (Nat.le_refl _) (.cells [.int .i64 0, .int .i64 0, .int .i64 0].toArray 35)
  go_enter Try.func12, Try.ntmps12
  go_wp2_with fail
  refine (len_any (hQ.below hE)).mono ?_
  rintro e w1 ⟨rfl, hb⟩
  have hB1 : Blk 0 w1 w.heap.size [.int .i64 0, .int .i64 0, .int .i64 0] := hB.kept hb.size (hb.block _ hB.1)
  have hE1 : Below w.heap.size w w1 := hE.trans (hb.mono (by simp))
  have hs1 : w.heap.size ≤ w1.heap.size := hE1.size
  have r := hB1.rule
  have f0 := hB1.thaw 0 (by simp)
  have f1 := hB1.thaw 1 (by simp)
  have f2 := hB1.thaw 2 (by simp)
  clear hB hE hb hQ
  go_wp2
  have hP := hB1.put3 (.int .i64 0) (.int .i64 0) (.int .i64 0)
  have q := hP.rule
  refine bodyPost_ret (v := .tuple #[tv t0, .bool false]) (by simp [results, Try.results12, go_sem, q, tv, t0]) rfl ⟨rfl, ?_⟩
  exact below_set (below_set (below_set hE1 (by omega) (Nat.le_refl _) _) (by simp; omega) (Nat.le_refl _) _) (by simp; omega) (Nat.le_refl _) _
theorem headNil_any (w : World) : Calls Try.prog 12 #[.pointer none] w fun e w' => e = .returned (.tuple #[tv t0, .bool false]) ∧ Below w.heap.size w w' := by
  have hB := Blk.new 0 w [.int .i64 0, .int .i64 0, .int .i64 0] 35
  have hE := (Below.refl w.heap.size w).alloc (Nat.le_refl _) (.cells [.int .i64 0, .int .i64 0, .int .i64 0].toArray 35)
  go_enter Try.func12, Try.ntmps12
  go_wp2_with fail
  refine (lenNil_any _).mono ?_
  rintro e w1 ⟨rfl, hb⟩
  have hB1 : Blk 0 w1 w.heap.size [.int .i64 0, .int .i64 0, .int .i64 0] := hB.kept hb.size (hb.block _ hB.1)
  have hE1 : Below w.heap.size w w1 := hE.trans (hb.mono (by simp))
  have hs1 : w.heap.size ≤ w1.heap.size := hE1.size
  have r := hB1.rule
  have f0 := hB1.thaw 0 (by simp)
  have f1 := hB1.thaw 1 (by simp)
  have f2 := hB1.thaw 2 (by simp)
  clear hB hE hb
  go_wp2
  have hP := hB1.put3 (.int .i64 0) (.int .i64 0) (.int .i64 0)
  have q := hP.rule
  refine bodyPost_ret (v := .tuple #[tv t0, .bool false]) (by simp [results, Try.results12, go_sem, q, tv, t0]) rfl ⟨rfl, ?_⟩
  exact below_set (below_set (below_set hE1 (by omega) (Nat.le_refl _) _) (by simp; omega) (Nat.le_refl _) _) (by simp; omega) (Nat.le_refl _) _
end Go.Proofs.Ytjiohencpopbeaa

/- Queues: the contracts of Pop, Find. -/
namespace Go.Proofs.Ytjiohencpopbeaa
open Go.RowKit Go.Maps
set_option maxRecDepth 100000

theorem round_up (g j : Nat) : IntKind.u64.wrap ((cnt g) + (j : Int)) = (cnt (g + j)) := by
  unfold cnt; rw [IntKind.wrap_u64]; omega
theorem round_nat (j : Nat) (h : j ≤ 1048576) : IntKind.u64.wrap (j : Int) = j := by rw [IntKind.wrap_u64]; omega
theorem step_set {n B i : Nat} {a b : World} {F : Nat → Prop} (h : Turn F a b) (hB : n = a.heap.size) (hk : n ≤ B) (u : Value) : Turn F a (b.setCell ⟨B, i, none⟩ u) :=
  h.setCell (p := ⟨B, i, none⟩) (fun e => by subst hB; exact absurd e (Nat.not_lt.2 hk)) u

set_option maxHeartbeats 800000 in
theorem pop_any {w : World} {q k : Nat} {F : Nat → Prop} {l : List Trip} (x y z : Int) (hQ : IsQ w q F ((x, y, z) :: l) k) :
    Calls Try.prog 10 #[.pointer (some ⟨q, 0, none⟩)] w fun e w' => e = .returned (.tuple #[tv (x, y, z), .bool true]) ∧ IsQ w' q F l k ∧ Step F F w w' := by
  obtain ⟨hl1, hl2, hk2, hk⟩ := hQ.len
  have hQ0 := Lib.hid hQ
  obtain ⟨R, g, r, hq, hr, hring, _, _, hne, hF⟩ := hQ
  have hring' := hring.pop.2
  have hB := Blk.new 0 w [.int .i64 0, .int .i64 0, .int .i64 0] 35
  have hq1 := hq.more (.cells [.int .i64 0, .int .i64 0, .int .i64 0].toArray 35)
  have hr1 := hr.more (.cells [.int .i64 0, .int .i64 0, .int .i64 0].toArray 35)
  have hE := (Below.refl w.heap.size w).alloc (Nat.le_refl _) (.cells [.int .i64 0, .int .i64 0, .int .i64 0].toArray 35)
  have hqR : q < w.heap.size ∧ R < w.heap.size := ⟨hq.1, hr.1⟩
  have hG1 := round_up g 1
  have hset : (qv R (2 ^ k) g ((x, y, z) :: l).length).set 1 (.int .u64 (cnt (g + 1))) = qv R (2 ^ k) (g + 1) l.length := by
    simp only [qv, List.length_cons, List.set_cons_succ, List.set_cons_zero]
    rw [show g + (l.length + 1) = g + 1 + l.length by omega]
  clear hq hr hring
  go_enter Try.func10, Try.ntmps10
  go_wp2_with fail
  refine (head_any x y z (hQ0.out.below hE)).mono ?_
  rintro e w1 ⟨rfl, hb⟩
  have hB1 : Blk 0 w1 w.heap.size [.int .i64 0, .int .i64 0, .int .i64 0] := hB.kept hb.size (hb.block _ hB.1)
  have hq2 : Blk 0 w1 q _ := hq1.kept hb.size (hb.block _ hq1.1)
  have hr2 : Blk 0 w1 R _ := hr1.kept hb.size (hb.block _ hr1.1)
  have hE1 : Below w.heap.size w w1 := hE.trans (hb.mono (by simp))
  have hs1 : w.heap.size + 1 ≤ w1.heap.size := by have := hb.size; simpa using this
  clear hB hq1 hr1 hE hb hQ0
  have HQ2 := Lib.hid hq2
  have hq3 := hq2.more (.cells [.int .i64 x, .int .i64 y, .int .i64 z].toArray 35)
  have hB3 := hB1.more (.cells [.int .i64 x, .int .i64 y, .int .i64 z].toArray 35)
  have rq := hq3.rule
  have fq := hq3.thaw 1 (by simp [qv])
  have rB := hB3.rule
  have f0 := hB3.thaw 0 (by simp)
  have f1 := hB3.thaw 1 (by simp)
  have f2 := hB3.thaw 2 (by simp)
  unfold qv at rq
  have HSET := Lib.hid hset
  clear hset hq2 hq3 hB3
  simp only [Int.natCast_one] at hG1
  generalize hG : (cnt g) = G at *
  generalize hC : (cnt (g + ((x, y, z) :: l).length)) = C at *
  generalize hG' : (cnt (g + 1)) = G1 at *
  generalize hN : 2 ^ k = N at *
  simp only [tv]
  have HN := Lib.hid hN
  clear hN hG hC hG'
  go_wp2_with fail
  have hb9 := (((HQ2.out.more (.cells [.int .i64 x, .int .i64 y, .int .i64 z].toArray 35)).set (i := 1) (by simp [qv]) (.int .u64 G1)).off (B := w.heap.size) (i := 0) (by omega) (.int .i64 x)).off (B := w.heap.size) (i := 1) (by omega) (.int .i64 y) |>.off (B := w.heap.size) (i := 2) (by omega) (.int .i64 z)
  have hr9 := ((((hr2.more (.cells [.int .i64 x, .int .i64 y, .int .i64 z].toArray 35)).off (B := q) (i := 1) (fun e => hne e.symm) (.int .u64 G1)).off (B := w.heap.size) (i := 0) (by omega) (.int .i64 x)).off (B := w.heap.size) (i := 1) (by omega) (.int .i64 y)).off (B := w.heap.size) (i := 2) (by omega) (.int .i64 z)
  have hP := Blk.put3 ((hB1.more (.cells [.int .i64 x, .int .i64 y, .int .i64 z].toArray 35)).off (B := q) (i := 1) (by omega) (.int .u64 G1)) (.int .i64 x) (.int .i64 y) (.int .i64 z)
  rw [HSET.out] at hb9
  have q9 := hP.rule
  refine bodyPost_ret (v := .tuple #[tv (x, y, z), .bool true]) (by simp [results, Try.results10, go_sem, q9, tv]) rfl ⟨rfl, ⟨R, g + 1, r, by rw [HN.out]; exact hb9, hr9, by rw [HN.out]; exact hring', hk2, hk, hne, hF⟩, ?_, fun j hj => .inl hj⟩
  exact step_set (step_set (step_set ((((Turn.of_below hE1 : Turn F w w1).alloc _).setCell (p := ⟨q, 1, none⟩) (fun _ => (hF q).2 (.inl rfl)) _)) rfl (Nat.le_refl _) _) rfl (Nat.le_refl _) _) rfl (Nat.le_refl _) _

theorem popNone_any {w : World} {q k : Nat} {F : Nat → Prop} (hQ : IsQ w q F [] k) :
    Calls Try.prog 10 #[.pointer (some ⟨q, 0, none⟩)] w fun e w' => e = .returned (.tuple #[tv t0, .bool false]) ∧ Below w.heap.size w w' := by
  have hB := Blk.new 0 w [.int .i64 0, .int .i64 0, .int .i64 0] 35
  have hE := (Below.refl w.heap.size w).alloc (Nat.le_refl _) (.cells [.int .i64 0, .int .i64 0, .int .i64 0].toArray 35)
  go_enter Try.func10, Try.ntmps10
  go_wp2_with fail
  refine (headNone_any (hQ.below hE)).mono ?_
  rintro e w1 ⟨rfl, hb⟩
  have hB1 : Blk 0 w1 w.heap.size [.int .i64 0, .int .i64 0, .int .i64 0] := hB.kept hb.size (hb.block _ hB.1)
  have hE1 : Below w.heap.size w w1 := hE.trans (hb.mono (by simp))
  have hs1 : w.heap.size ≤ w1.heap.size := hE1.size
  have hB3 := hB1.more (.cells [.int .i64 0, .int .i64 0, .int .i64 0].toArray 35)
  have rB := hB3.rule
  have f0 := hB3.thaw 0 (by simp)
  have f1 := hB3.thaw 1 (by simp)
  have f2 := hB3.thaw 2 (by simp)
  clear hB hE hb
  simp only [tv, t0]
  go_wp2
  have hP := hB3.put3 (.int .i64 0) (.int .i64 0) (.int .i64 0)
  have q := hP.rule
  refine bodyPost_ret (v := .tuple #[tv t0, .bool false]) (by simp [results, Try.results10, go_sem, q, tv, t0]) rfl ⟨rfl, ?_⟩
  exact below_set (below_set (below_set (hE1.alloc hs1 _) (by simp; omega) (Nat.le_refl _) _) (by simp; omega) (Nat.le_refl _) _) (by simp; omega) (Nat.le_refl _) _
theorem popNil_any (w : World) : Calls Try.prog 10 #[.pointer none] w fun e w' => e = .returned (.tuple #[tv t0, .bool false]) ∧ Below w.heap.size w w' := by
  have hB := Blk.new 0 w [.int .i64 0, .int .i64 0, .int .i64 0] 35
  have hE := (Below.refl w.heap.size w).alloc (Nat.le_refl _) (.cells [.int .i64 0, .int .i64 0, .int .i64 0].toArray 35)
  go_enter Try.func10, Try.ntmps10
  go_wp2_with fail
  refine (headNil_any _).mono ?_
  rintro e w1 ⟨rfl, hb⟩
  have hB1 : Blk 0 w1 w.heap.size [.int .i64 0, .int .i64 0, .int .i64 0] := hB.kept hb.size (hb.block _ hB.1)
  have hE1 : Below w.heap.size w w1 := hE.trans (hb.mono (by simp))
  have hs1 : w.heap.size ≤ w1.heap.size := hE1.size
  have hB3 := hB1.more (.cells [.int .i64 0, .int .i64 0, .int .i64 0].toArray 35)
  have rB := hB3.rule
  have f0 := hB3.thaw 0 (by simp)
  have f1 := hB3.thaw 1 (by simp)
  have f2 := hB3.thaw 2 (by simp)
  clear hB hE hb
  simp only [tv, t0]
  go_wp2
  have hP := hB3.put3 (.int .i64 0) (.int .i64 0) (.int .i64 0)
  have q := hP.rule
  refine bodyPost_ret (v := .tuple #[tv t0, .bool false]) (by simp [results, Try.results10, go_sem, q, tv, t0]) rfl ⟨rfl, ?_⟩
  exact below_set (below_set (below_set (hE1.alloc hs1 _) (by simp; omega) (Nat.le_refl _) _) (by simp; omega) (Nat.le_refl _) _) (by simp; omega) (Nat.le_refl _) _

set_option maxHeartbeats 800000 in
theorem find_any {w : World} {q k : Nat} {F : Nat → Prop} {l : List Trip} (s : Int) (hQ : IsQ w q F l k) :
    Calls Try.prog 13 #[.pointer (some ⟨q, 0, none⟩), .int .i64 s] w fun e w' => e = .returned (.int .i64 (findI l s)) ∧ Below w.heap.size w w' := by
  obtain ⟨hl1, hl2, hk2, hk⟩ := hQ.len
  have hQ0 := Lib.hid hQ
  obtain ⟨R, g, r, hq, hr, hring, _, _, hne, hF⟩ := hQ
  have hrl := hring.1
  have h4 := pow_four hk2
  have HA := Lib.hid fun j w' => at_any R k (g + j) w' hk
  have hcell : ∀ j, j < l.length → ∀ w', Blk 0 w' R (flat3 r) → w'.cell? ⟨R, (g + j) % 2 ^ k * 3, none⟩ = some (.int .i64 (l.getD j t0).1) := fun j hj w' h => by
    have hlt : (g + j) % 2 ^ k < 2 ^ k := Nat.mod_lt _ (by omega)
    have e := (h.rule ((g + j) % 2 ^ k * 3 + 0)).trans (flat3_get r ((g + j) % 2 ^ k) 0 (by omega) (by omega))
    rw [hring.at j hj] at e
    exact e
  have HC := Lib.hid hcell
  have HG := Lib.hid (round_up g)
  have hst := findI_start l s
  have HQB := Lib.hid (And.intro hq hr)
  clear hcell hq hr hring hF hrl h4
  go_enter Try.func13, Try.ntmps13
  go_wp2_with fail
  refine (len_any hQ0.out).mono ?_
  rintro e w1 ⟨rfl, hb⟩
  clear hQ0
  go_wp2_with fail
  go_loopw [5, 8] (fun _ i wr => ∃ j : Nat, j ≤ l.length ∧ i = .int .i64 j ∧ findI l s = (if findI (l.drop j) s < 0 then -1 else findI (l.drop j) s + j) ∧ Below w.heap.size w wr) (fun _ i _ => l.length - (intOf i).toNat)
  case atStart => exact ⟨0, by omega, rfl, hst, hb⟩
  case round =>
    obtain ⟨j, hj, rfl, hf, hB⟩ := hrel
    clear hst hb
    by_cases hlt : j < l.length
    · have hc := HC.out j hlt
      have hw := round_nat j (by omega)
      have hg := HG.out j
      have HAj := Lib.hid (HA.out j)
      have HL := Lib.hid (findI_skip (s := s) hlt)
      have HH := Lib.hid (findI_hit (s := s) hlt)
      have HF := Lib.hid hf
      have hq5 : Blk 0 wr q _ := HQB.out.1.kept hB.size (hB.block _ HQB.out.1.1)
      have hr5 : Blk 0 wr R _ := HQB.out.2.kept hB.size (hB.block _ HQB.out.2.1)
      clear HC HG HA HQB hf
      unfold qv at hq5
      generalize hxx : l.getD j t0 = xx at *
      generalize (cnt g) = G at *
      generalize (cnt (g + j)) = GJ at *
      generalize (cnt (g + l.length)) = C at *
      generalize (g + j) % 2 ^ k = p at *
      generalize 2 ^ k = N at *
      obtain ⟨x, y, z⟩ := xx
      simp only at hc HL HH
      have HC := Lib.hid hc
      clear hc hxx
      go_wp2_with fail
      refine Ord.wp_chain [] (fun w' => Blk 0 w' q [.slice (some ⟨R, 0, none⟩) N N, .int .u64 G, .int .u64 C] ∧ Blk 0 w' R (flat3 r)) (fun _ w' => Below w.heap.size w w') (by kernel_rfl) (by kernel_rfl) (by kernel_rfl) ⟨hq5.drew, hr5.drew⟩ hB.drew (fun hT => ?_)
      have hT9 := Lib.hid hT
      clear hT
      repeat (first
        | (refine Ord.ch_value (v := ?_) hT9.out (by decide) (by rfl) ?_ ?_; rotate_left; (focus (intro w5 hS; have r := Blk.rule hS.1; have c0 := HC.out _ hS.2; go_simp <;> with_reducible rfl)); (try simp only [Act.put, List.setIfInBounds_toArray, List.set_cons_zero, List.set_cons_succ]))
        | (refine Ord.ch_off hT9.out (by decide) (by rfl) ?_; (try simp only [Act.put, List.setIfInBounds_toArray, List.set_cons_zero, List.set_cons_succ]))
        | (refine Ord.ch_call (v := ?_) (f := ?_) (args := ?_) hT9.out (by decide) (by rfl) ?_ ?_ ?_; rotate_left 3; (focus (intro w5 hS; have r := Blk.rule hS.1; have c0 := HC.out _ hS.2; go_simp; constructor <;> with_reducible rfl)); (focus (intro w5 hS; (first | (with_reducible refine (HAj.out w5).mono ?_; rintro e w6 ⟨rfl, rfl⟩; constructor; with_reducible rfl; exact ⟨hS, fun _ h => h⟩)))); (try simp only [Act.put, List.setIfInBounds_toArray, List.set_cons_zero, List.set_cons_succ])))
      refine Ord.InText.nil fun w5 hS => ?_
      clear hT9
      obtain ⟨hC9, hB9⟩ := Ord.chain_end hS
      clear hS
      by_cases hxs : x = s
      · have hxb : (x == s) = true := by simpa using hxs
        go_wp2_with fail
        go_ret
        exact ⟨ret_int (HH.out hxs HF.out).symm, hB9⟩
      · have hxb : (x == s) = false := by simpa using hxs
        have hnx := HL.out hxs HF.out
        clear HL HH
        have HNX := Lib.hid hnx
        clear hnx hxs
        go_wp2_with fail
        exact ⟨⟨j + 1, by omega, by simp, HNX.out, hB9⟩, by simp [intOf]; omega⟩
    · go_wp2_with fail
      have : j = l.length := by omega
      subst this
      go_ret
      exact ⟨ret_int (findI_none hf).symm, hB⟩
theorem findNil_any (s : Int) (w : World) : Calls Try.prog 13 #[.pointer none, .int .i64 s] w fun e w' => e = .returned (.int .i64 (-1)) ∧ Below w.heap.size w w' := by
  go_enter Try.func13, Try.ntmps13
  go_wp2_with fail
  refine (lenNil_any _).mono ?_
  rintro e w1 ⟨rfl, hb⟩
  go_wp2_with fail
  go_loopw [5, 8] (fun _ i wr => i = .int .i64 0 ∧ Below w.heap.size w wr) (fun _ i _ => 0)
  case atStart => exact ⟨rfl, hb⟩
  case round =>
    obtain ⟨rfl, hB⟩ := hrel
    go_wp2_with fail
    go_ret
    exact ⟨rfl, hB⟩
end Go.Proofs.Ytjiohencpopbeaa

/- Queues: the contract of List. -/
namespace Go.Proofs.Ytjiohencpopbeaa
open Go.RowKit Go.Maps
set_option maxRecDepth 100000

/-- A row filled so far. -/
def fill3 (l : List Trip) (j : Nat) : List Trip := l.take j ++ List.replicate (l.length - j) t0
theorem fill3_zero (l : List Trip) : fill3 l 0 = List.replicate l.length t0 := by simp [fill3]
theorem fill3_all (l : List Trip) : fill3 l l.length = l := by simp [fill3]
theorem fill3_length (l : List Trip) {j : Nat} (h : j ≤ l.length) : (fill3 l j).length = l.length := by simp [fill3]; omega
theorem fill3_next (l : List Trip) {j : Nat} (h : j < l.length) : (fill3 l j).set j (l.getD j t0) = fill3 l (j + 1) := by
  have e : (l.take j).length = j := by simp; omega
  unfold fill3
  rw [List.set_append_right _ _ (by omega), e, Nat.sub_self, show l.length - j = (l.length - (j + 1)) + 1 by omega, List.replicate_succ, List.set_cons_zero, List.take_succ_eq_append_getElem h, List.append_assoc, show l.getD j t0 = l[j] by simp [h]]
  rfl

theorem infoEnt : (Try.prog.info? 35).map (fun i => (i.zero, i.size, i.bytes)) = some (some (tv t0), 3, 24) := by kernel_rfl

set_option maxHeartbeats 1600000 in
theorem list_any {w : World} {q k : Nat} {F : Nat → Prop} {l : List Trip} (hQ : IsQ w q F l k) :
    Calls Try.prog 18 #[.pointer (some ⟨q, 0, none⟩)] w fun e w' => ∃ b, e = .returned (.slice (some ⟨b, 0, none⟩) l.length l.length) ∧ Blk 0 w' b (flat3 l) ∧ w.heap.size ≤ b ∧ Below w.heap.size w w' := by
  obtain ⟨hl1, hl2, hk2, hk⟩ := hQ.len
  have hQ0 := Lib.hid hQ
  obtain ⟨R, g, r, hq, hr, hring, _, _, hne, hF⟩ := hQ
  have hrl := hring.1
  have h4 := pow_four hk2
  have HA := Lib.hid fun j w' => at_any R k (g + j) w' hk
  have hcell : ∀ j, j < l.length → ∀ w', Blk 0 w' R (flat3 r) → w'.cell? ⟨R, (g + j) % 2 ^ k * 3, none⟩ = some (.int .i64 (l.getD j t0).1) ∧ w'.cell? ⟨R, (g + j) % 2 ^ k * 3 + 1, none⟩ = some (.int .i64 (l.getD j t0).2.1) ∧ w'.cell? ⟨R, (g + j) % 2 ^ k * 3 + 2, none⟩ = some (.int .i64 (l.getD j t0).2.2) := fun j hj w' h => by
    have hlt : (g + j) % 2 ^ k < 2 ^ k := Nat.mod_lt _ (by omega)
    have e := fun c hc => (h.rule ((g + j) % 2 ^ k * 3 + c)).trans (flat3_get r ((g + j) % 2 ^ k) c (by omega) hc)
    rw [hring.at j hj] at e
    exact ⟨e 0 (by omega), e 1 (by omega), e 2 (by omega)⟩
  have HC := Lib.hid hcell
  have HG := Lib.hid (round_up g)
  have HQB := Lib.hid (And.intro hq hr)
  have hlz := fill3_zero l
  clear hcell hq hr hring hF hrl h4
  go_enter Try.func18, Try.ntmps18
  go_wp2_with fail
  refine (len_any hQ0.out).mono ?_
  rintro e w1 ⟨rfl, hb⟩
  clear hQ0
  go_wp2_with (refine wpList_make3 _ rfl _ _ 22 rfl 35 Try.underlying22 infoEnt .i64 .i64 _ _ l.length rfl rfl rfl rfl (by omega) ?_)
  have hB0 := Blk.new 0 w1 (flat3 (List.replicate l.length t0)) 35
  have hE0 := hb.alloc hb.size (.cells (flat3 (List.replicate l.length t0)).toArray 35)
  have hs0 := hb.size
  clear hb
  generalize hb1 : w1.heap.size = b at *
  clear hb1
  generalize w1.alloc (.cells (flat3 (List.replicate l.length t0)).toArray 35) = w2 at *
  rw [← hlz] at hB0
  clear hlz
  go_loopw [4, 10] (fun _ i wr => ∃ j : Nat, j ≤ l.length ∧ i = .int .i64 j ∧ Blk 0 wr b (flat3 (fill3 l j)) ∧ Below w.heap.size w wr) (fun _ i _ => l.length - (intOf i).toNat)
  case atStart => exact ⟨0, by omega, rfl, hB0, hE0⟩
  case round =>
    obtain ⟨j, hj, rfl, hf, hB⟩ := hrel
    clear hB0 hE0
    by_cases hlt : j < l.length
    · have hc := HC.out j hlt
      have hw := round_nat j (by omega)
      have hg := HG.out j
      have HAj := Lib.hid (HA.out j)
      have hq5 : Blk 0 wr q _ := HQB.out.1.kept hB.size (hB.block _ HQB.out.1.1)
      have hr5 : Blk 0 wr R _ := HQB.out.2.kept hB.size (hB.block _ HQB.out.2.1)
      have hqb : q ≠ b ∧ R ≠ b := ⟨by have := HQB.out.1.1; omega, by have := HQB.out.2.1; omega⟩
      have hnx := hf
      have HNX := Lib.hid (And.intro (fill3_next l hlt) (fill3_length l hj))
      clear HC HG HA HQB hnx
      unfold qv at hq5
      generalize l.getD j t0 = xx at *
      generalize (cnt g) = G at *
      generalize (cnt (g + j)) = GJ at *
      generalize (cnt (g + l.length)) = C at *
      generalize (g + j) % 2 ^ k = p at *
      generalize 2 ^ k = N at *
      obtain ⟨x, y, z⟩ := xx
      simp only at hc
      have HC := Lib.hid hc
      clear hc
      generalize hLN : l.length = ln at *
      have HLN := Lib.hid hLN
      clear hLN
      go_wp2_with fail
      refine Ord.wp_chain [17] (fun w' => Blk 0 w' q [.slice (some ⟨R, 0, none⟩) N N, .int .u64 G, .int .u64 C] ∧ Blk 0 w' R (flat3 r)) (fun m w' => w.heap.size ≤ w'.heap.size ∧ Below w.heap.size w w' ∧ Blk 0 w' b (flat3 (if m = 0 then fill3 l j else (fill3 l j).set j (x, y, z)))) (by kernel_rfl) (by kernel_rfl) (by kernel_rfl) ⟨hq5.drew, hr5.drew⟩ ⟨hB.size, hB.drew, hf.drew⟩ (fun hT => ?_)
      have hT9 := Lib.hid hT
      clear hT
      repeat (first
        | (refine Ord.ch_value (v := ?_) hT9.out (by decide) (by rfl) ?_ ?_; rotate_left; (focus (intro w5 hS; have r := Blk.rule hS.1; obtain ⟨c0, c1, c2⟩ := HC.out _ hS.2; go_simp <;> with_reducible rfl)); (try simp only [Act.put, List.setIfInBounds_toArray, List.set_cons_zero, List.set_cons_succ]))
        | (refine Ord.ch_off hT9.out (by decide) (by rfl) ?_; (try simp only [Act.put, List.setIfInBounds_toArray, List.set_cons_zero, List.set_cons_succ]))
        | (refine Ord.ch_call (v := ?_) (f := ?_) (args := ?_) hT9.out (by decide) (by rfl) ?_ ?_ ?_; rotate_left 3; (focus (intro w5 hS; have r := Blk.rule hS.1; obtain ⟨c0, c1, c2⟩ := HC.out _ hS.2; go_simp; constructor <;> with_reducible rfl)); (focus (intro w5 hS; (first | (with_reducible refine (HAj.out w5).mono ?_; rintro e w6 ⟨rfl, rfl⟩; constructor; with_reducible rfl; exact ⟨hS, fun _ h => h⟩)))); (try simp only [Act.put, List.setIfInBounds_toArray, List.set_cons_zero, List.set_cons_succ])))
      refine Ord.ch_turn (v := undef) 0 hT9.out rfl (by decide) (Or.inl rfl) (by rfl) ?_ ?_
      · rintro w5 hS ⟨hA0, hA1, hA2⟩
        simp only [if_true] at hA2
        have hcells := fun c hc => (hA2.rule (j * 3 + c)).trans (flat3_get _ j c (by rw [HNX.out.2]; exact hlt) hc)
        have r0 := hcells 0 (by omega)
        have r1 := hcells 1 (by omega)
        have r2 := hcells 2 (by omega)
        simp only [Nat.add_zero, enc3, List.getElem?_cons_zero, List.getElem?_cons_succ] at r0 r1 r2
        have hfl := flat3_length (fill3 l j)
        rw [HNX.out.2] at hfl
        have f0 := hA2.thaw (j * 3) (by omega)
        have f1 := hA2.thaw (j * 3 + 1) (by omega)
        have f2 := hA2.thaw (j * 3 + 2) (by omega)
        clear hcells
        go_simp
        refine ⟨rfl, ⟨((hS.1.off hqb.1 _).off hqb.1 _).off hqb.1 _, ((hS.2.off hqb.2 _).off hqb.2 _).off hqb.2 _⟩, by simpa using hA0, ?_, ?_⟩
        · exact below_set (below_set (below_set hA1 (by omega) hs0 _) (by simp; omega) hs0 _) (by simp; omega) hs0 _
        · exact Blk.set3 hA2 (by rw [HNX.out.2]; exact hlt) (x, y, z)
      (try simp only [Act.put, List.setIfInBounds_toArray, List.set_cons_zero, List.set_cons_succ])
      repeat (first
        | (refine Ord.ch_value (v := ?_) hT9.out (by decide) (by rfl) ?_ ?_; rotate_left; (focus (intro w5 hS; skip; go_simp <;> with_reducible rfl)); (try simp only [Act.put, List.setIfInBounds_toArray, List.set_cons_zero, List.set_cons_succ]))
        | (refine Ord.ch_off hT9.out (by decide) (by rfl) ?_; (try simp only [Act.put, List.setIfInBounds_toArray, List.set_cons_zero, List.set_cons_succ])))
      refine Ord.InText.nil fun w5 hS => ?_
      clear hT9
      obtain ⟨hC9, hA9⟩ := Ord.chain_end hS
      clear hS
      obtain ⟨hA0, hA1, hA2⟩ := hA9
      rw [if_neg (by decide), HNX.out.1] at hA2
      go_wp2_with fail
      exact ⟨⟨j + 1, by omega, by simp, hA2, hA1⟩, by simp [intOf]; omega⟩
    · go_wp2_with fail
      have : j = l.length := by omega
      subst this
      rw [fill3_all] at hf
      go_ret
      exact ⟨b, rfl, hf, hs0, hB⟩
theorem listNil_any (w : World) : Calls Try.prog 18 #[.pointer none] w fun e w' => ∃ b, e = .returned (.slice (some ⟨b, 0, none⟩) 0 0) ∧ Below w.heap.size w w' := by
  go_enter Try.func18, Try.ntmps18
  go_wp2_with fail
  refine (lenNil_any _).mono ?_
  rintro e w1 ⟨rfl, hb⟩
  go_wp2_with (refine wpList_make3 _ rfl _ _ 22 rfl 35 Try.underlying22 infoEnt .i64 .i64 _ _ 0 rfl rfl rfl rfl (by omega) ?_)
  have hE0 := hb.alloc hb.size (.cells (flat3 (List.replicate 0 t0)).toArray 35)
  clear hb
  go_loopw [4, 10] (fun _ i wr => i = .int .i64 0 ∧ Below w.heap.size w wr) (fun _ i _ => 0)
  case atStart => exact ⟨rfl, hE0⟩
  case round =>
    obtain ⟨rfl, hB⟩ := hrel
    go_wp2_with fail
    go_ret
    exact ⟨_, rfl, hB⟩
end Go.Proofs.Ytjiohencpopbeaa

/- Queues: the contract of grow. -/
namespace Go.Proofs.Ytjiohencpopbeaa
open Go.RowKit Go.Maps
set_option maxRecDepth 100000

theorem round_apart (g a b : Nat) (h : a ≤ 1048576) (h' : b ≤ 1048576) : ((cnt (g + a)) != (cnt (g + b))) = decide (a ≠ b) := by
  unfold cnt
  by_cases e : a = b
  · subst e; simp
  · have : (g + a) % 18446744073709551616 ≠ (g + b) % 18446744073709551616 := by omega
    have h2 : (((g + a) % 18446744073709551616 : Nat) : Int) ≠ (((g + b) % 18446744073709551616 : Nat) : Int) := by omega
    simp only [bne_iff_ne, ne_eq, h2, not_false_iff, e, decide_true]

theorem round_left (g a b : Nat) (h : a ≤ b) (h' : b ≤ 1048576) : ((cnt (g + b) - cnt (g + a)) % 18446744073709551616).toNat = b - a := by unfold cnt; omega

set_option maxHeartbeats 1600000 in
theorem grow_any {w : World} {q k n : Nat} {F : Nat → Prop} {l : List Trip} (hn : n ≤ 1048576) (hln : l.length ≤ n) (hQ : IsQ w q F l k) :
    Calls Try.prog 20 #[.pointer (some ⟨q, 0, none⟩), .int .i64 n] w fun e w' => e = .returned (.tuple #[]) ∧ ∃ k' F', Rm k n k' ∧ IsQ w' q F' l k' ∧ Step F F' w w' := by
  obtain ⟨hl1, hl2, hk2, hk⟩ := hQ.len
  have hQ0 := Lib.hid hQ
  obtain ⟨R, g, r, hq, hr, hring, _, _, hne, hF⟩ := hQ
  have hrl := hring.1
  have h4 := pow_four hk2
  have hs := pow_small hk
  have r0 := hq.rule
  unfold qv at r0
  have HQB := Lib.hid (And.intro hq (And.intro hr (And.intro hring hF)))
  have hqw := hq.1
  have hRw := hr.1
  clear hq hr hring hF
  generalize hN : 2 ^ k = N at *
  have HN : Hid (N = 2 ^ k) := Lib.hid hN.symm
  clear hN
  have HR0 := Lib.hid r0
  go_enter Try.func20, Try.ntmps20
  go_wp2_with fail
  all_goals (try omega)
  go_loopw [4] (fun i wr => ∃ j M : Nat, Hid (M = 2 ^ j) ∧ k ≤ j ∧ j ≤ 20 ∧ (j = k ∨ M < 2 * n) ∧ i = .int .i64 M ∧ w = wr) (fun i _ => 4194304 - (intOf i).toNat)
  case atStart => exact ⟨k, N, HN, Nat.le_refl _, hk, .inl rfl, rfl, rfl⟩
  case round =>
    obtain ⟨j, M, HM, hkj, hj20, hjn, rfl, rfl⟩ := hrel
    have hM4 : 4 ≤ M := by rw [HM.out]; exact pow_four (by omega)
    have hMs : M ≤ 1048576 := by rw [HM.out]; exact pow_small hj20
    by_cases hlt : M < n
    · go_wp2_with fail
      have hM2 : M * 2 = 2 ^ (j + 1) := by rw [HM.out, Nat.pow_succ]
      have hj : j + 1 ≤ 20 := by
        apply Classical.byContradiction
        intro hc
        have := Nat.pow_le_pow_right (n := 2) (by omega) (show 21 ≤ j + 1 by omega)
        simp only [← hM2] at this
        simp at this
        omega
      exact ⟨⟨j + 1, M * 2, Lib.hid hM2, by omega, hj, .inr (by omega), by simp⟩, by simp [intOf]; omega⟩
    · by_cases hjk : j = k
      · have hMN : M = N := by rw [HM.out, HN.out, hjk]
        subst hMN
        go_wp2_with fail
        refine bodyPost_ret (results_none rfl _ _ _) rfl ?_
        exact ⟨rfl, k, F, ⟨Nat.le_refl _, by rw [← HN.out]; omega, .inl rfl⟩, hQ0.out, Step.refl _ _⟩
      · have hNM : 2 * N ≤ M := by rw [HM.out, HN.out]; exact pow_up (by omega)
        have hMN : M ≠ N := by omega
        have hMb : ((M : Int) == (N : Int)) = false := by rw [beq_eq_false_iff_ne]; omega
        clear hQ0
        go_wp2_with (refine wpList_make3 _ rfl _ _ 22 rfl 35 Try.underlying22 infoEnt .i64 .i64 _ _ M rfl rfl rfl rfl (by omega) ?_)
        have hB0 := Blk.new 0 w (flat3 (List.replicate M t0)) 35
        have hE0 := (Below.refl w.heap.size w).alloc (Nat.le_refl _) (.cells (flat3 (List.replicate M t0)).toArray 35)
        have HJ := Lib.hid hjn
        clear HR0 hjn
        generalize hb1 : w.heap.size = b at *
        have HB1 := Lib.hid hb1
        clear hb1
        generalize w.alloc (.cells (flat3 (List.replicate M t0)).toArray 35) = w2 at *
        go_loopw [6] (fun c v => ∃ m : Nat, m ≤ l.length ∧ c = .int .u64 (cnt (g + m)) ∧ Below b w v ∧ ∃ r', Ring r' M g (l.take m) ∧ Blk 0 v b (flat3 r')) (fun c _ => ((cnt (g + l.length) - intOf c) % 18446744073709551616).toNat)
        case atStart => exact ⟨0, Nat.zero_le _, rfl, hE0, _, Ring.start M g, hB0⟩
        case round =>
          obtain ⟨m, hml, rfl, hB, r', hring, hb5⟩ := hrel
          clear hB0 hE0
          have hqb : q < b ∧ R < b := by rw [← HB1.out]; exact ⟨HQB.out.1.1, HQB.out.2.1.1⟩
          have hbs : b ≤ wr.heap.size := by rw [← HB1.out]; exact hB.size
          have hq5 : Blk 0 wr q _ := HQB.out.1.kept (by rw [HB1.out]; exact hbs) (hB.block _ hqb.1)
          have hr5 : Blk 0 wr R _ := HQB.out.2.1.kept (by rw [HB1.out]; exact hbs) (hB.block _ hqb.2)
          have rq := hq5.rule
          unfold qv at rq
          have hap := round_apart g m l.length (by omega) (by omega)
          by_cases hlt2 : m < l.length
          · rw [decide_eq_true (by omega)] at hap
            have hlen : (l.take m).length = m := by simp; omega
            have hpush := hring.push (by rw [hlen]; omega) (l.getD m t0)
            rw [hlen] at hpush
            have htk : l.take m ++ [l.getD m t0] = l.take (m + 1) := by
              rw [List.take_succ_eq_append_getElem hlt2, show l.getD m t0 = l[m] by simp [hlt2]]
            rw [htk] at hpush
            have hrl5 := hring.1
            have hp1 : (g + m) % M < M := Nat.mod_lt _ (by omega)
            have hp2 : (g + m) % N < N := Nat.mod_lt _ (by omega)
            have HA1 := Lib.hid fun w' => at_any b j (g + m) w' hj20
            have HA2 := Lib.hid fun w' => at_any R k (g + m) w' hk
            rw [← HM.out] at HA1
            rw [← HN.out] at HA2
            have hat := HQB.out.2.2.1.at m hlt2
            have hcell : ∀ w', Blk 0 w' R (flat3 r) → w'.cell? ⟨R, (g + m) % N * 3, none⟩ = some (.int .i64 (l.getD m t0).1) ∧ w'.cell? ⟨R, (g + m) % N * 3 + 1, none⟩ = some (.int .i64 (l.getD m t0).2.1) ∧ w'.cell? ⟨R, (g + m) % N * 3 + 2, none⟩ = some (.int .i64 (l.getD m t0).2.2) := fun w' h => by
              have e := fun c hc => (h.rule ((g + m) % N * 3 + c)).trans (flat3_get r ((g + m) % N) c (by omega) hc)
              rw [hat] at e
              exact ⟨e 0 (by omega), e 1 (by omega), e 2 (by omega)⟩
            clear hat hlen htk hring
            generalize l.getD m t0 = xx at *
            obtain ⟨x, y, z⟩ := xx
            simp only at hcell
            have HC := Lib.hid hcell
            have HP := Lib.hid hpush
            have HL := Lib.hid (round_left g m l.length (by omega) hl2)
            have HL1 := Lib.hid (round_left g (m + 1) l.length (by omega) hl2)
            have hup := round_up g m
            have hup1 := round_up (g + m) 1
            simp only [Int.natCast_one] at hup1
            clear hcell hpush
            generalize (g + m) % M = p1 at *
            generalize (g + m) % N = p2 at *
            unfold qv at hq5
            generalize cnt g = G at *
            generalize hcm : cnt (g + m) = CM at *
            generalize hcl : cnt (g + l.length) = CL at *
            generalize hcm1 : cnt (g + m + 1) = CM1 at *
            have HCM1 := Lib.hid hcm1
            clear hcm hcl hcm1 hup
            go_wp2_with fail
            refine Ord.wp_chain [12] (fun w' => Blk 0 w' q [.slice (some ⟨R, 0, none⟩) N N, .int .u64 G, .int .u64 CL] ∧ Blk 0 w' R (flat3 r)) (fun i w' => b ≤ w'.heap.size ∧ Below b w w' ∧ Blk 0 w' b (flat3 (if i = 0 then r' else r'.set p1 (x, y, z)))) (by kernel_rfl) (by kernel_rfl) (by kernel_rfl) ⟨hq5.drew, hr5.drew⟩ ⟨hbs, hB.drew, hb5.drew⟩ (fun hT => ?_)
            have hT9 := Lib.hid hT
            clear hT
            repeat (first
              | (refine Ord.ch_value (v := ?_) hT9.out (by decide) (by rfl) ?_ ?_; rotate_left; (focus (intro w5 hS; have r := Blk.rule hS.1; obtain ⟨c0, c1, c2⟩ := HC.out _ hS.2; go_simp <;> with_reducible rfl)); (try simp only [Act.put, List.setIfInBounds_toArray, List.set_cons_zero, List.set_cons_succ]))
              | (refine Ord.ch_off hT9.out (by decide) (by rfl) ?_; (try simp only [Act.put, List.setIfInBounds_toArray, List.set_cons_zero, List.set_cons_succ]))
              | (refine Ord.ch_call (v := ?_) (f := ?_) (args := ?_) hT9.out (by decide) (by rfl) ?_ ?_ ?_; rotate_left 3; (focus (intro w5 hS; have r := Blk.rule hS.1; obtain ⟨c0, c1, c2⟩ := HC.out _ hS.2; go_simp; constructor <;> with_reducible rfl)); (focus (intro w5 hS; (first | (with_reducible refine (HA1.out w5).mono ?_; rintro e w6 ⟨rfl, rfl⟩; constructor; with_reducible rfl; exact ⟨hS, fun _ h => h⟩) | (with_reducible refine (HA2.out w5).mono ?_; rintro e w6 ⟨rfl, rfl⟩; constructor; with_reducible rfl; exact ⟨hS, fun _ h => h⟩)))); (try simp only [Act.put, List.setIfInBounds_toArray, List.set_cons_zero, List.set_cons_succ])))
            refine Ord.ch_turn (v := undef) 0 hT9.out rfl (by decide) (Or.inl rfl) (by rfl) ?_ ?_
            · rintro w5 hS ⟨hA0, hA1, hA2⟩
              simp only [if_true] at hA2
              have hcells := fun c hc => (hA2.rule (p1 * 3 + c)).trans (flat3_get _ p1 c (by omega) hc)
              have r0 := hcells 0 (by omega)
              have r1 := hcells 1 (by omega)
              have r2 := hcells 2 (by omega)
              simp only [Nat.add_zero, enc3, List.getElem?_cons_zero, List.getElem?_cons_succ] at r0 r1 r2
              have hfl := flat3_length r'
              have f0 := hA2.thaw (p1 * 3) (by omega)
              have f1 := hA2.thaw (p1 * 3 + 1) (by omega)
              have f2 := hA2.thaw (p1 * 3 + 2) (by omega)
              clear hcells
              go_simp
              refine ⟨rfl, ⟨((hS.1.off (by omega) _).off (by omega) _).off (by omega) _, ((hS.2.off (by omega) _).off (by omega) _).off (by omega) _⟩, by simpa using hA0, ?_, ?_⟩
              · exact below_set (below_set (below_set hA1 hA0 (Nat.le_refl _) _) (by simp; omega) (Nat.le_refl _) _) (by simp; omega) (Nat.le_refl _) _
              · exact Blk.set3 hA2 (by omega) (x, y, z)
            (try simp only [Act.put, List.setIfInBounds_toArray, List.set_cons_zero, List.set_cons_succ])
            repeat (first
              | (refine Ord.ch_value (v := ?_) hT9.out (by decide) (by rfl) ?_ ?_; rotate_left; (focus (intro w5 hS; skip; go_simp <;> with_reducible rfl)); (try simp only [Act.put, List.setIfInBounds_toArray, List.set_cons_zero, List.set_cons_succ]))
              | (refine Ord.ch_off hT9.out (by decide) (by rfl) ?_; (try simp only [Act.put, List.setIfInBounds_toArray, List.set_cons_zero, List.set_cons_succ])))
            refine Ord.InText.nil fun w5 hS => ?_
            clear hT9
            obtain ⟨hC9, hA9⟩ := Ord.chain_end hS
            clear hS
            obtain ⟨hA0, hA1, hA2⟩ := hA9
            rw [if_neg (by decide)] at hA2
            go_wp2_with fail
            refine ⟨⟨m + 1, by omega, by rw [← HCM1.out]; rfl, hA1, _, HP.out, hA2⟩, ?_⟩
            show ((CL - CM1) % 18446744073709551616).toNat < ((CL - CM) % 18446744073709551616).toNat
            rw [HL.out, HL1.out]
            omega
          · have hml' : m = l.length := by omega
            subst hml'
            rw [decide_eq_false (by omega)] at hap
            rw [List.take_length] at hring
            have f0 := hq5.thaw 0 (by simp [qv])
            go_wp2_with fail
            go_end0
            have hset : (qv R N g l.length).set 0 (.slice (some ⟨b, 0, none⟩) M M) = qv b M g l.length := rfl
            have hq9 := hq5.set (i := 0) (by simp [qv]) (.slice (some ⟨b, 0, none⟩) M M)
            rw [hset] at hq9
            have hb9 := hb5.off (B := q) (i := 0) (by omega) (.slice (some ⟨b, 0, none⟩) M M)
            refine ⟨rfl, j, fun x => x = q ∨ x = b, ⟨hkj, by rw [← HM.out]; omega, .inr (by rw [← HM.out]; rcases HJ.out with h | h; exact absurd h hjk; exact h)⟩, ⟨b, g, r', by rw [← HM.out]; exact hq9, hb9, by rw [← HM.out]; exact hring, by omega, hj20, by omega, fun x => Iff.rfl⟩, ?_, ?_⟩
            · have hB' : Below w.heap.size w wr := by rw [HB1.out]; exact hB
              exact (Turn.of_below hB' : Turn F w wr).setCell (p := ⟨q, 0, none⟩) (fun _ => (HQB.out.2.2.2 q).2 (.inl rfl)) _
            · rintro x (rfl | rfl)
              · exact .inl ((HQB.out.2.2.2 x).2 (.inl rfl))
              · exact .inr (by rw [HB1.out]; exact Nat.le_refl _)
end Go.Proofs.Ytjiohencpopbeaa

/- Queues: the contracts of Push, New. -/
namespace Go.Proofs.Ytjiohencpopbeaa
open Go.RowKit Go.Maps
set_option maxRecDepth 100000

set_option maxHeartbeats 1600000 in
theorem push_any {w : World} {q k cap : Nat} {F : Nat → Prop} {l xs : List Trip} {A : Option Addr} (hn : l.length + xs.length ≤ 1048576) (hA : Row3 w A xs) (hoff : xs ≠ [] → ∀ b, In3 A b → ¬ F b) (hQ : IsQ w q F l k) :
    Calls Try.prog 9 #[.pointer (some ⟨q, 0, none⟩), .slice A xs.length cap] w fun e w' => e = .returned (.int .i64 0) ∧ ∃ k' F', Rm k (l.length + xs.length) k' ∧ IsQ w' q F' (l ++ xs) k' ∧ Step F F' w w' := by
  have hsum : wrap64 ((l.length : Int) + (xs.length : Int)) = ((l.length + xs.length : Nat) : Int) := by rw [w64 _ (by omega)]; omega
  go_enter Try.func9, Try.ntmps9
  go_wp2_with fail
  refine (len_any hQ).mono ?_
  rintro e w1 ⟨rfl, hb⟩
  have hlt1 := hQ.lt
  have hQ1 := hQ.below hb
  have hkle := hQ.len.2.2.2
  have HA := Lib.hid (And.intro hA (And.intro hoff (And.intro hb hlt1)))
  have HSUM := Lib.hid hsum
  clear hQ hA hoff hb hlt1 hsum
  go_wp2_with fail
  have HS1 : Hid (IntKind.i64.wrap ((l.length : Int) + (xs.length : Int)) = ((l.length + xs.length : Nat) : Int)) := Lib.hid (by rw [wrap_i]; exact HSUM.out)
  try rw [HS1.out]
  try rw [HSUM.out]
  refine (grow_any hn (by omega) hQ1).mono ?_
  rintro e w2 ⟨rfl, k', F1, hRm, hQ2, hs2⟩
  clear hQ1
  have hk20 := hRm.le hkle hn
  have hN := hRm.2.1
  have HRM := Lib.hid hRm
  clear hRm
  have hst : Step F F1 w w2 := (Step.of_below F HA.out.2.2.1).trans hs2
  clear hs2
  go_wp2_with fail
  go_loopw [6, 18] (fun _ i v => ∃ j : Nat, j ≤ xs.length ∧ i = .int .i64 j ∧ IsQ v q F1 (l ++ xs.take j) k' ∧ Step F F1 w v) (fun _ i _ => xs.length - (intOf i).toNat)
  case atStart => exact ⟨0, Nat.zero_le _, rfl, by simpa using hQ2, hst⟩
  case round =>
    clear hQ2 hst
    obtain ⟨j, hj, rfl, hQ5, hst5⟩ := hrel
    by_cases hlt : j < xs.length
    · have hrow : Row3 wr A xs := HA.out.1.kept (fun b hb => hst5.turn.block b (by
        rcases HA.out.1 with h0 | ⟨b', off, he, hl', hc⟩
        · rw [h0] at hlt; simp at hlt
        · obtain ⟨o, ho⟩ := hb
          rw [he] at ho
          cases ho
          exact hl') (HA.out.2.1 (by rintro rfl; simp at hlt) b hb)) hst5.turn.size
      rcases hrow with h0 | ⟨b, off, rfl, hbl, hc⟩
      · rw [h0] at hlt; simp at hlt
      have hc := hc j hlt
      have hlen : (l ++ xs.take j).length = l.length + j := by simp; omega
      obtain ⟨R, g, r, hq, hr, hring, hk2, _, hne, hF⟩ := hQ5
      have hpush := hring.push (by rw [hlen]; omega) (xs.getD j t0)
      rw [hlen] at hq hpush
      have htk : l ++ xs.take j ++ [xs.getD j t0] = l ++ xs.take (j + 1) := by
        rw [List.take_succ_eq_append_getElem hlt, show xs.getD j t0 = xs[j] by simp [hlt], List.append_assoc]
      rw [htk] at hpush
      have hrl := hring.1
      have hp1 : (g + (l.length + j)) % 2 ^ k' < 2 ^ k' := Nat.mod_lt _ (by have := pow_four hk2; omega)
      have HA1 := Lib.hid fun w' => at_any R k' (g + (l.length + j)) w' hk20
      have hup1 := round_up (g + (l.length + j)) 1
      simp only [Int.natCast_one] at hup1
      have HF := Lib.hid (And.intro hF (And.intro hk2 hne))
      have hqF : F1 q := (hF q).2 (.inl rfl)
      have hRF : F1 R := (hF R).2 (.inr rfl)
      clear hring htk hlen hF hk2
      rw [t0_default] at hc
      generalize xs.getD j t0 = xx at *
      obtain ⟨x, y, z⟩ := xx
      obtain ⟨c0, c1, c2⟩ := at3 hc
      clear hc
      have hset : (qv R (2 ^ k') g (l.length + j)).set 2 (.int .u64 (cnt (g + (l.length + j) + 1))) = qv R (2 ^ k') g (l.length + (j + 1)) := rfl
      have HSET := Lib.hid hset
      have HP := Lib.hid hpush
      clear hset hpush
      have hql := hq.1
      have hRl := hr.1
      generalize (g + (l.length + j)) % 2 ^ k' = p at *
      have HQ := Lib.hid hq
      have rq := hq.rule
      unfold qv at hq rq
      have hq1 := hq.more (.cells [.int .i64 x, .int .i64 y, .int .i64 z].toArray 35)
      have hr1 := hr.more (.cells [.int .i64 x, .int .i64 y, .int .i64 z].toArray 35)
      have hB1 := Blk.new 0 wr [.int .i64 x, .int .i64 y, .int .i64 z] 35
      have ht1 : Turn F1 wr (wr.alloc (.cells [.int .i64 x, .int .i64 y, .int .i64 z].toArray 35)) := (Turn.refl F1 wr).alloc _
      clear hq hr
      generalize hg : cnt g = G at *
      have HG := Lib.hid hg
      clear hg
      generalize cnt (g + (l.length + j)) = CN at *
      generalize hcn1 : cnt (g + (l.length + j) + 1) = CN1 at *
      have HCN1 := Lib.hid hcn1
      clear hcn1
      generalize hNN : 2 ^ k' = N at *
      have HNN := Lib.hid hNN
      clear hNN
      go_wp2_with fail
      refine Ord.wp_chain [11] (fun w' => Blk 0 w' q [.slice (some ⟨R, 0, none⟩) N N, .int .u64 G, .int .u64 CN] ∧ Blk 0 w' wr.heap.size [.int .i64 x, .int .i64 y, .int .i64 z]) (fun i w' => Turn F1 wr w' ∧ Blk 0 w' R (flat3 (if i = 0 then r else r.set p (x, y, z)))) (by kernel_rfl) (by kernel_rfl) (by kernel_rfl) ⟨hq1.drew, hB1.drew⟩ ⟨ht1.drew, hr1.drew⟩ (fun hT => ?_)
      have hT9 := Lib.hid hT
      clear hT
      repeat (first
        | (refine Ord.ch_value (v := ?_) hT9.out (by decide) (by rfl) ?_ ?_; rotate_left; (focus (intro w5 hS; have rr := Blk.rule hS.1; have r3 := Blk.rule hS.2; go_simp <;> with_reducible rfl)); (try simp only [Act.put, List.setIfInBounds_toArray, List.set_cons_zero, List.set_cons_succ]))
        | (refine Ord.ch_off hT9.out (by decide) (by rfl) ?_; (try simp only [Act.put, List.setIfInBounds_toArray, List.set_cons_zero, List.set_cons_succ]))
        | (refine Ord.ch_call (v := ?_) (f := ?_) (args := ?_) hT9.out (by decide) (by rfl) ?_ ?_ ?_; rotate_left 3; (focus (intro w5 hS; have rr := Blk.rule hS.1; have r3 := Blk.rule hS.2; go_simp; constructor <;> with_reducible rfl)); (focus (intro w5 hS; (first | (with_reducible refine (HA1.out w5).mono ?_; rintro e w6 ⟨rfl, rfl⟩; constructor; with_reducible rfl; exact ⟨hS, fun _ h => h⟩)))); (try simp only [Act.put, List.setIfInBounds_toArray, List.set_cons_zero, List.set_cons_succ])))
      refine Ord.ch_turn (v := undef) 0 hT9.out rfl (by decide) (Or.inl rfl) (by rfl) ?_ ?_
      · rintro w5 hS ⟨hA1, hA2⟩
        simp only [if_true] at hA2
        have hcells := fun c hc => (hA2.rule (p * 3 + c)).trans (flat3_get _ p c (by omega) hc)
        have r0 := hcells 0 (by omega)
        have r1 := hcells 1 (by omega)
        have r2 := hcells 2 (by omega)
        simp only [Nat.add_zero, enc3, List.getElem?_cons_zero, List.getElem?_cons_succ] at r0 r1 r2
        have hfl := flat3_length r
        have f0 := hA2.thaw (p * 3) (by omega)
        have f1 := hA2.thaw (p * 3 + 1) (by omega)
        have f2 := hA2.thaw (p * 3 + 2) (by omega)
        clear hcells rq
        go_simp
        refine ⟨rfl, ⟨((hS.1.off hne _).off hne _).off hne _, ((hS.2.off (by omega) _).off (by omega) _).off (by omega) _⟩, ?_, ?_⟩
        · exact ((hA1.setCell (p := ⟨R, p * 3, none⟩) (fun _ => hRF) _).setCell (p := ⟨R, p * 3 + 1, none⟩) (fun _ => hRF) _).setCell (p := ⟨R, p * 3 + 2, none⟩) (fun _ => hRF) _
        · exact Blk.set3 hA2 (by omega) (x, y, z)
      (try simp only [Act.put, List.setIfInBounds_toArray, List.set_cons_zero, List.set_cons_succ])
      repeat (first
        | (refine Ord.ch_value (v := ?_) hT9.out (by decide) (by rfl) ?_ ?_; rotate_left; (focus (intro w5 hS; skip; go_simp <;> with_reducible rfl)); (try simp only [Act.put, List.setIfInBounds_toArray, List.set_cons_zero, List.set_cons_succ]))
        | (refine Ord.ch_off hT9.out (by decide) (by rfl) ?_; (try simp only [Act.put, List.setIfInBounds_toArray, List.set_cons_zero, List.set_cons_succ])))
      refine Ord.InText.nil fun w5 hS => ?_
      clear hT9
      obtain ⟨hC9, hA9⟩ := Ord.chain_end hS
      clear hS
      obtain ⟨hA1, hA2⟩ := hA9
      rw [if_neg (by decide)] at hA2
      have hq9 := hC9.1
      have r9 := hq9.rule
      have f9 := hq9.thaw 2 (by simp)
      clear hC9 rq
      go_wp2_with fail
      have hqq := hq9.set (i := 2) (by simp) (.int .u64 CN1)
      have hrr := hA2.off (B := q) (i := 2) (fun e => hne e.symm) (.int .u64 CN1)
      refine ⟨⟨j + 1, by omega, by simp, ⟨R, g, r.set p (x, y, z), ?_, hrr, by rw [HNN.out]; exact HP.out, HF.out.2.1, hk20, hne, HF.out.1⟩, hst5.trans ⟨hA1.setCell (p := ⟨q, 2, none⟩) (fun _ => hqF) _, fun x hx => .inl hx⟩⟩, by simp [intOf]; omega⟩
      have hl9 : (l ++ xs.take (j + 1)).length = l.length + (j + 1) := by simp; omega
      rw [hl9, HNN.out]
      show Blk 0 _ q [.slice (some ⟨R, 0, none⟩) N N, .int .u64 (cnt g), .int .u64 (cnt (g + (l.length + j) + 1))]
      rw [HG.out, HCN1.out]
      exact hqq
    · go_wp2_with fail
      have : j = xs.length := by omega
      subst this
      rw [List.take_length] at hQ5
      go_ret
      exact ⟨rfl, k', F1, HRM.out, hQ5, hst5⟩
theorem pushNil_any (v : Value) (w : World) : Calls Try.prog 9 #[.pointer none, v] w fun e w' => e = .returned (.int .i64 2) ∧ w = w' := by
  go_enter Try.func9, Try.ntmps9
  go_wp2_with fail
  go_ret
  exact ⟨rfl, rfl⟩

set_option maxHeartbeats 800000 in
theorem newQ_any {w : World} {cap : Nat} {xs : List Trip} {A : Option Addr} (hn : xs.length ≤ 1048576) (hA : Row3 w A xs) :
    Calls Try.prog 6 #[.slice A xs.length cap] w fun e w' => ∃ q F k, e = .returned (.pointer (some ⟨q, 0, none⟩)) ∧ Rm 2 xs.length k ∧ IsQ w' q F xs k ∧ Below w.heap.size w w' ∧ (∀ j, F j → w.heap.size ≤ j) := by
  have hr := Blk.new 0 w (flat3 [t0, t0, t0, t0]) 35
  have hb1 := (Below.refl w.heap.size w).alloc (Nat.le_refl _) (.cells (flat3 [t0, t0, t0, t0]).toArray 35)
  have hs1 : (w.alloc (.cells (flat3 [t0, t0, t0, t0]).toArray 35)).heap.size = w.heap.size + 1 := by simp
  have hq := Blk.new 0 (w.alloc (.cells (flat3 [t0, t0, t0, t0]).toArray 35)) (qv w.heap.size 4 0 0) 54
  have hr2 := hr.more (.cells (qv w.heap.size 4 0 0).toArray 54)
  have hb2 := hb1.alloc (by rw [hs1]; omega) (.cells (qv w.heap.size 4 0 0).toArray 54)
  rw [hs1] at hq
  have hQ : IsQ _ (w.heap.size + 1) (fun j => j = w.heap.size + 1 ∨ j = w.heap.size) [] 2 := ⟨w.heap.size, 0, [t0, t0, t0, t0], hq, hr2, ⟨rfl, by simp, fun i h => by simp at h⟩, by omega, by omega, by omega, fun j => Iff.rfl⟩
  have hA2 := RowX.below hA hb2
  have hoff : xs ≠ [] → ∀ b, In3 A b → ¬ (b = w.heap.size + 1 ∨ b = w.heap.size) := fun hne b hb => by
    rcases hA with h0 | ⟨b', off, he, hl', hc⟩
    · exact absurd h0 hne
    · obtain ⟨o, ho⟩ := hb
      rw [he] at ho
      cases ho
      omega
  have hsz := hb2.size
  have HALL := Lib.hid (And.intro hQ (And.intro hA2 (And.intro hoff hb2)))
  clear hr hb1 hs1 hq hr2 hb2 hQ hA2 hoff hA hsz
  go_enter Try.func6, Try.ntmps6
  go_wp2_with (refine wpList_make3 _ rfl _ _ 22 rfl 35 Try.underlying22 infoEnt .i64 .i64 _ _ 4 rfl rfl rfl rfl (by omega) ?_)
  obtain ⟨hQ, hA2, hoff, hb2⟩ := HALL.out
  refine (push_any (by simpa using hn) hA2 hoff hQ).mono ?_
  rintro e w1 ⟨rfl, k', F', hRm, hQ9, hst⟩
  go_wp2_with fail
  go_ret
  have hsz := hb2.size
  refine ⟨_, F', k', rfl, by simpa using hRm, by simpa using hQ9, ?_, hst.base hsz ?_⟩
  · exact Turn.below hb2 hst.turn hsz (fun j hj => by omega)
  · intro j hj; omega
end Go.Proofs.Ytjiohencpopbeaa

/- Queues: slices.Equal of rows of entries; the contract of Same; queues among other things. -/
namespace Go.Proofs.Ytjiohencpopbeaa
open Go.RowKit Go.Maps
set_option maxRecDepth 100000

theorem take_next_eq {xs ys : List Trip} {j : Nat} (hx : j < xs.length) (hy : j < ys.length) : xs.take (j + 1) = ys.take (j + 1) ↔ xs.take j = ys.take j ∧ xs.getD j t0 = ys.getD j t0 := by
  rw [List.take_succ_eq_append_getElem hx, List.take_succ_eq_append_getElem hy, show xs.getD j t0 = xs[j] by simp [hx], show ys.getD j t0 = ys[j] by simp [hy]]
  constructor
  · intro h
    have := List.append_inj' h rfl
    exact ⟨this.1, by simpa using this.2⟩
  · rintro ⟨h1, h2⟩; rw [h1, h2]

set_option maxHeartbeats 1600000 in
theorem equal_any {w : World} {c d : Nat} {xs ys : List Trip} {A B : Option Addr} (hm : xs.length ≤ 1099511627776) (hx : Row3 w A xs) (hy : Row3 w B ys) :
    Calls Try.prog 22 #[.slice A xs.length c, .slice B ys.length d] w fun e w' => e = .returned (.bool (decide (xs = ys))) ∧ Below w.heap.size w w' := by
  by_cases hlen : xs.length = ys.length
  · have HX := Lib.hid hx
    have HY := Lib.hid hy
    have HLEN := Lib.hid hlen
    have hb0 : ((xs.length : Int) != (ys.length : Int)) = false := by rw [hlen]; simp
    have hl63 : Hid (∀ j : Nat, j < xs.length → (j : Int) < ys.length) := Lib.hid fun j h => by omega
    clear hlen hx hy
    go_enter Try.func22, Try.ntmps22
    go_wp2_with fail
    go_loopw [5, 13] (fun _ i v => ∃ j : Nat, j ≤ xs.length ∧ i = .int .i64 j ∧ xs.take j = ys.take j ∧ Below w.heap.size w v) (fun _ i _ => xs.length - (intOf i).toNat)
    case atStart => exact ⟨0, Nat.zero_le _, rfl, rfl, Below.refl _ _⟩
    case round =>
      obtain ⟨j, hj, rfl, htk, hB⟩ := hrel
      by_cases hlt : j < xs.length
      · have hlty : j < ys.length := by rw [← HLEN.out]; exact hlt
        rcases HX.out with h0 | ⟨b, off, rfl, hbl, hc⟩
        · rw [h0] at hlt; simp at hlt
        rcases HY.out with h0 | ⟨b', off', rfl, hbl', hc'⟩
        · rw [h0] at hlty; simp at hlty
        have h1 := (hc j hlt).below hB hbl
        have h2 := (hc' j hlty).below hB hbl'
        have h1' : ∀ v, Below w.heap.size w v → CellsAt v b (off + j * 3) (enc3 (xs.getD j default)) := fun v hv => (hc j hlt).below hv hbl
        have h2' : ∀ v, Below w.heap.size w v → CellsAt v b' (off' + j * 3) (enc3 (ys.getD j default)) := fun v hv => (hc' j hlty).below hv hbl'
        have HN := Lib.hid (take_next_eq hlt hlty)
        have HTK := Lib.hid htk
        clear hc hc' h1 h2 htk
        rw [t0_default] at h1' h2'
        generalize xs.getD j t0 = o at *
        generalize ys.getD j t0 = o' at *
        obtain ⟨x, y, z⟩ := o
        obtain ⟨a, b2, d2⟩ := o'
        have HC := Lib.hid fun v hv => at3 (h1' v hv)
        have HC' := Lib.hid fun v hv => at3 (h2' v hv)
        clear h1' h2'
        generalize hyl : ys.length = yl at *
        generalize hxl : xs.length = xl at *
        have HXL := Lib.hid hxl
        have HYL := Lib.hid hyl
        clear hxl hyl
        go_wp2_with fail
        refine Ord.wp_chain [] (fun v => Below w.heap.size w v) (fun _ _ => True) (by kernel_rfl) (by kernel_rfl) (by kernel_rfl) hB.drew trivial (fun hT => ?_)
        have hT9 := Lib.hid hT
        clear hT
        repeat (first
          | (refine Ord.ch_value (v := ?_) hT9.out (by decide) (by rfl) ?_ ?_; rotate_left; (focus (intro w5 hS; obtain ⟨c0, c1, c2⟩ := HC.out _ hS; obtain ⟨d0, d1, d3⟩ := HC'.out _ hS; go_simp <;> with_reducible rfl)); (try simp only [Act.put, List.setIfInBounds_toArray, List.set_cons_zero, List.set_cons_succ]))
          | (refine Ord.ch_off hT9.out (by decide) (by rfl) ?_; (try simp only [Act.put, List.setIfInBounds_toArray, List.set_cons_zero, List.set_cons_succ])))
        refine Ord.ch_value (v := .bool (!decide ((x, y, z) = (a, b2, d2)))) hT9.out (by decide) (by rfl) ?_ ?_
        · intro w5 hS
          clear hS HC HC' HX HY HN HTK HLEN
          by_cases e1 : x = a <;> by_cases e2 : y = b2 <;> by_cases e3 : z = d2 <;> simp [e1, e2, e3] <;> go_simp
        (try simp only [Act.put, List.setIfInBounds_toArray, List.set_cons_zero, List.set_cons_succ])
        refine Ord.InText.nil fun w5 hS => ?_
        clear hT9
        obtain ⟨hB9, hC9⟩ := Ord.chain_end hS
        clear hS
        by_cases hp : (x, y, z) = (a, b2, d2)
        · rw [decide_eq_true hp]
          have hn := HN.out.2 ⟨HTK.out, hp⟩
          have HN2 := Lib.hid hn
          clear hn hp
          go_wp2_with fail
          exact ⟨⟨j + 1, by omega, by simp, HN2.out, hB9⟩, by simp [intOf]; omega⟩
        · rw [decide_eq_false hp]
          go_wp2_with fail
          go_ret
          refine ⟨ret_bool ?_, hB9⟩
          symm
          rw [decide_eq_false_iff_not]
          rintro rfl
          exact hp (HN.out.1 rfl).2
      · go_wp2_with fail
        have : j = xs.length := by omega
        subst this
        go_ret
        refine ⟨ret_bool ?_, hB⟩
        symm
        rw [decide_eq_true_iff]
        rw [List.take_length, HLEN.out, List.take_length] at htk
        exact htk
  · have hb0 : ((xs.length : Int) != (ys.length : Int)) = true := by rw [bne_iff_ne]; omega
    have hne : decide (xs = ys) = false := by rw [decide_eq_false_iff_not]; rintro rfl; exact hlen rfl
    rw [hne]
    go_enter Try.func22, Try.ntmps22
    go_wp2_with fail
    go_ret
    exact ⟨rfl, Below.refl _ _⟩

theorem same_q {w : World} {q q' k k' : Nat} {F F' : Nat → Prop} {l m : List Trip} (hQ : IsQ w q F l k) (hQ' : IsQ w q' F' m k') :
    Calls Try.prog 19 #[.pointer (some ⟨q, 0, none⟩), .pointer (some ⟨q', 0, none⟩)] w fun e w' => e = .returned (.bool (decide (l = m))) ∧ Below w.heap.size w w' := by
  go_enter Try.func19, Try.ntmps19
  go_wp2_with fail
  refine (list_any hQ).mono ?_
  rintro e w1 ⟨b, rfl, hb, hbs, hB⟩
  go_wp2_with fail
  refine (list_any (hQ'.below hB)).mono ?_
  rintro e w2 ⟨b', rfl, hb', hbs', hB'⟩
  go_wp2_with fail
  refine (equal_any (by have := hQ.len; omega) (RowX.below hb.row3 hB') hb'.row3).mono ?_
  rintro e w3 ⟨rfl, hB3⟩
  go_wp2_with fail
  go_ret
  exact ⟨rfl, (hB.trans (hB'.mono hB.size)).trans (hB3.mono (Nat.le_trans hB.size hB'.size))⟩
theorem sameNil_q (w : World) : Calls Try.prog 19 #[.pointer none, .pointer none] w fun e w' => e = .returned (.bool true) ∧ w = w' := by
  go_enter Try.func19, Try.ntmps19
  go_wp2_with fail
  go_ret
  exact ⟨rfl, rfl⟩
theorem sameSome_q (w : World) (q : Nat) : Calls Try.prog 19 #[.pointer (some ⟨q, 0, none⟩), .pointer none] w fun e w' => e = .returned (.bool false) ∧ w = w' := by
  go_enter Try.func19, Try.ntmps19
  go_wp2_with fail
  go_ret
  exact ⟨rfl, rfl⟩

/-! ### among others -/
def queueI (q : Nat) (F : Nat → Prop) (l : List Trip) (k : Nat) : Item where
  F := F
  says := fun w => IsQ w q F l k
  loc := fun _ _ h hk hs => h.kept hk hs
section
variable {w0 w w' : World} {L : List Item} {q k k' : Nat} {F F' : Nat → Prop} {l l' : List Trip}
theorem Env.queue (h : Env w0 L w) (i : Nat) (hi : L[i]? = some (queueI q F l k)) : IsQ w q F l k := h.get i hi
theorem Env.turnQ (h : Env w0 L w) (i : Nat) (hi : L[i]? = some (queueI q F l k)) (hQ : IsQ w' q F' l' k') (hs : Step F F' w w') : Env w0 (L.set i (queueI q F' l' k')) w' :=
  h.step i (queueI q F' l' k') hi hs hQ hQ.lt
theorem Env.madeQ (h : Env w0 L w) (hQ : IsQ w' q F l k) (hF : ∀ j, F j → w.heap.size ≤ j) (hb : Below w.heap.size w w') : Env w0 (queueI q F l k :: L) w' :=
  h.add (queueI q F l k) hb hQ fun j hj => ⟨hF j hj, hQ.lt j hj⟩
/-- A row that came in lies apart from all that was made. -/
theorem Env.apart (h : Env w0 L w) (i : Nat) (hi : L[i]? = some (queueI q F l k)) {A : Option Addr} {xs : List Trip} (hr : Row3 w0 A xs) : xs ≠ [] → ∀ b, In3 A b → ¬ F b := fun hne b hb hF => by
  have h1 := ((h.2.2 _ (List.mem_of_getElem? hi)).2 b hF).1
  rcases hr with h0 | ⟨b', off, he, hl', hc⟩
  · exact hne h0
  · obtain ⟨o, ho⟩ := hb
    rw [he] at ho
    cases ho
    omega
end
end Go.Proofs.Ytjiohencpopbeaa

/- Queues: awake, the anchor that each law asks first. -/
namespace Go.Proofs.Ytjiohencpopbeaa
open Go.RowKit Go.Maps
set_option maxRecDepth 100000

set_option maxHeartbeats 1600000 in
theorem awake11 (w : World) : Calls Try.prog 5 #[] w fun e w' => e = .returned (.bool true) ∧ Below w.heap.size w w' := by
  have hr1 := (Blk.new 0 w (flat3 [(1, 0, 0), (2, 5, 0)]) 35).row3
  have hE := (Env.start w).more (.cells (flat3 [(1, 0, 0), (2, 5, 0)]).toArray 35)
  go_enter Try.func5, Try.ntmps5
  go_wp2_with fail
  refine (newQ_any (xs := [(1, 0, 0), (2, 5, 0)]) (by decide) hr1).mono ?_
  rintro e w1 ⟨q, F, k, rfl, hk, hQ, hB, hF⟩
  obtain rfl : k = 2 := hk.unique (Rm.same (by decide))
  replace hE := hE.madeQ hQ hF hB
  clear hQ hF hB hk hr1
  go_wp2_with fail
  refine (pop_any 1 0 0 (hE.queue 0 rfl)).mono ?_
  rintro e w2 ⟨rfl, hQ, hs⟩
  replace hE := hE.turnQ 0 rfl hQ hs
  simp only [List.set_cons_zero] at hE
  clear hQ hs
  replace hE := hE.box w2.heap.size rfl [.int .i64 1, .int .i64 0, .int .i64 0] 35
  simp only [tv]
  go_wp2_with fail
  replace hE := hE.box (w2.heap.size + 1) (by simp) (flat3 [(3, 0, 0), (4, 0, 0), (5, 0, 0), (6, 0, 0)]) 35
  have hrow := (show Blk 0 _ _ (flat3 [(3, 0, 0), (4, 0, 0), (5, 0, 0), (6, 0, 0)]) from hE.get 0 rfl).row3
  have hoff := hE.off (i := 0) (j := 2) rfl rfl (by decide)
  refine (push_any (xs := [(3, 0, 0), (4, 0, 0), (5, 0, 0), (6, 0, 0)]) (by decide) hrow (fun _ b hb hF => ?_) (hE.queue 2 rfl)).mono ?_
  · obtain ⟨o, ho⟩ := hb
    cases ho
    exact hoff _ rfl hF
  rintro e w3 ⟨rfl, k', F1, hRm, hQ, hs⟩
  obtain rfl : k' = 3 := hRm.unique ⟨by decide, by decide, .inr (by decide)⟩
  replace hE := hE.turnQ 2 rfl hQ hs
  simp only [List.set_cons_succ, List.set_cons_zero] at hE
  clear hQ hs hRm hrow hoff
  generalize w2.heap.size = E at *
  simp only [List.cons_append, List.nil_append] at hE
  go_wp2_with fail
  refine (head_any 2 5 0 (hE.queue 2 rfl)).mono ?_
  rintro e w4 ⟨rfl, hb⟩
  replace hE := (hE.over hb).box w4.heap.size rfl [.int .i64 2, .int .i64 5, .int .i64 0] 35
  clear hb
  simp only [tv]
  have r1 := hE.rule 0 rfl
  have r2 := hE.rule 2 rfl
  go_wp2_with (first
    | (with_reducible refine (len_any (hE.queue 3 rfl)).mono ?_; rintro e w1 ⟨rfl, hb⟩; replace hE := hE.over hb; clear hb r1 r2; have r1 := hE.rule 0 rfl; have r2 := hE.rule 2 rfl)
    | (with_reducible refine (room_any (hE.queue 3 rfl)).mono ?_; rintro e w1 ⟨rfl, hb⟩; replace hE := hE.over hb; clear hb r1 r2; have r1 := hE.rule 0 rfl; have r2 := hE.rule 2 rfl)
    | (with_reducible refine (find_any _ (hE.queue 3 rfl)).mono ?_; rintro e w1 ⟨rfl, hb⟩; replace hE := hE.over hb; clear hb r1 r2; have r1 := hE.rule 0 rfl; have r2 := hE.rule 2 rfl))
  go_ret
  exact ⟨rfl, hE.below⟩
end Go.Proofs.Ytjiohencpopbeaa

/- Rows of entries and of bools that came in. -/
namespace Go.Proofs.Ytjiohencpopbeaa
open Go.RowKit Go.Maps Go.Deep
set_option maxRecDepth 100000

def OkEnt (x : Trip) : Prop := In64 x.1 ∧ In64 x.2.1 ∧ In64 x.2.2
theorem flatEnt : flatT Try.prog 6 35 = some [.num .i64, .num .i64, .num .i64] := by kernel_rfl
theorem cellsEnt : Try.prog.cellsOf 35 = 3 := by kernel_rfl
theorem dec_Ent (w : World) (b o : Nat) (hall : ∀ (j : Nat) (s : Sca), [Sca.num .i64, .num .i64, .num .i64][j]? = some s → ∃ v, w.cell? ⟨b, o + j, none⟩ = some v ∧ s.ok v) : ∃ r : Trip, CellsAt w b o (enc3 r) ∧ OkEnt r := by
  obtain ⟨_, c0, x0, rfl, w0⟩ := hall 0 _ rfl
  obtain ⟨_, c1, x1, rfl, w1⟩ := hall 1 _ rfl
  obtain ⟨_, c2, x2, rfl, w2⟩ := hall 2 _ rfl
  refine ⟨(x0, x1, x2), fun j v e => ?_, wf_i.1 w0, wf_i.1 w1, wf_i.1 w2⟩
  match j with
  | 0 => simp [enc3] at e; subst e; exact c0
  | 1 => simp [enc3] at e; subst e; exact c1
  | 2 => simp [enc3] at e; subst e; exact c2
  | j + 3 => simp [enc3] at e
theorem open_Ent {H : Type} {en : TypeId × Value → H} {W : World} {A : Option Addr} {len cap : Nat} {d : DataW H} {p : List MemPlace}
    (h : DataW.Trod en Try.prog W 0 (fun _ => true) true 22 (.slice A len cap) d p) (hlt : ∀ x ∈ p, x.block < W.heap.size) :
    ∃ xs : List Trip, xs.length = len ∧ len ≤ maxLen ∧ (∀ r ∈ xs, OkEnt r) ∧ RowX enc3 3 W A xs :=
  open_rowX Try.underlying22 flatEnt cellsEnt (by simp) dec_Ent h hlt
def encB (x : Bool) : List Value := [.bool x]
theorem open_Bools {H : Type} {en : TypeId × Value → H} {W : World} {A : Option Addr} {len cap : Nat} {d : DataW H} {p : List MemPlace}
    (h : DataW.Trod en Try.prog W 0 (fun _ => true) true 50 (.slice A len cap) d p) (hlt : ∀ x ∈ p, x.block < W.heap.size) :
    ∃ xs : List Bool, xs.length = len ∧ len ≤ maxLen ∧ (∀ r ∈ xs, True) ∧ RowX encB 1 W A xs := by
  refine open_rowX (ss := [.boo]) Try.underlying50 (dd := 6) (by kernel_rfl) (by kernel_rfl) (by simp) (fun w b o hall => ?_) h hlt
  obtain ⟨_, c0, x0, rfl⟩ := hall 0 _ rfl
  refine ⟨x0, fun j v e => ?_, trivial⟩
  match j with
  | 0 => simp [encB] at e; subst e; exact c0
  | j + 1 => simp [encB] at e
end Go.Proofs.Ytjiohencpopbeaa

/- What closes every law's row: it answers true, and below the old heap nothing has turned: so each argument reads as it did, whatever its type. -/
namespace Go.Proofs.Ytjiohencpopbeaa
open Go.RowKit Go.WideShapes Go.ChangeShapes Go.ChangeAt
set_option maxRecDepth 100000

section
variable {H : Type} {enc : TypeId × Value → H} {P : Program}
/-- The arguments' places lie below the heap's end: each reads behind the call as it did. -/
theorem args_stay (hl : laidOutB P = true) {W W' : World} (hb : Below W.heap.size W W') : ∀ (ts : List TypeId) (_ : (ts.all fun t => P.readableRec t && decide (t < P.types.size)) = true) (vs : List Value) (ds : List (DataW H)) (ps : List MemPlace),
    DataW.TrodAll enc P W 0 (fun _ => true) true ts vs ds ps → (∀ x ∈ ps, x.block < W.heap.size) → DataW.TrodAll enc P W' 0 (fun b => decide (b < W.heap.size)) true ts vs ds ps := by
  intro ts
  induction ts with
  | nil =>
    intro _ vs ds ps h _
    obtain ⟨rfl, rfl, rfl⟩ := trodAll_nil h
    exact trodAll_mk0
  | cons t ts ih =>
    intro hts vs ds ps h hlt
    rw [List.all_cons, Bool.and_eq_true, Bool.and_eq_true] at hts
    obtain ⟨v, vs', d, ds', p, q, rfl, rfl, rfl, h0, r0⟩ := trodAll_cons h
    exact trodAll_cons_mk (Below.trod hl hts.1.1 (of_decide_eq_true hts.1.2) h0 hb fun x hx => hlt x (List.mem_append_left _ hx))
      (ih hts.2 _ _ _ r0 fun x hx => hlt x (List.mem_append_right _ hx))

/-- The post of a law that answered true. -/
theorem law_post {f : Func} {s : ChangeSpec} {W W' : World} {args : Array Value} {ds : List (DataW H)} {before : List MemPlace} {tb : TypeId}
    (hl : laidOutB P = true) (hts : (f.params.toList.all fun t => P.readableRec t && decide (t < P.types.size)) = true) (hres : f.resultTypes = #[tb]) (htb : P.underlying tb = some .bool)
    (hv : s.vars = []) (hfn : s.fn H (ds ++ []) = { results := [.lit (.bool true)], args := ds })
    (hW : DataW.Whole enc P f.params.toList s.vars false W args.toList ds [] before) (hb : Below W.heap.size W W') :
    s.post enc P f false true false false W args (.bool true) W' := by
  have hlt : ∀ p ∈ before, p.block < W.heap.size := fun p hp => hW.lt p hp
  have hW2 := hW
  obtain ⟨p, q, hA, hV, rfl, hz, hn⟩ := hW2
  have hq : q = [] := by rw [hv] at hV; exact (trodVars_none hV).2
  subst hq
  refine ⟨ds, [], _, [], p, [], hW, ?_, ?_, ?_, World.keptBut_mono (fun x hx => ⟨hx, Or.inr (Or.inl (by simpa using hx))⟩) (hb.frame (· ∈ p ++ [])), fun h => by cases h⟩
  · rw [hfn, hres]
    exact trodAll_mk1 (shut_bool htb _)
  · rw [hfn]
    exact args_stay hl hb _ hts _ _ _ hA fun x hx => hlt x (by simpa using hx)
  · rw [hfn, hv]
    exact rfl
end

theorem u64_in {n : Int} (h : (Lit.int .u64 n).wf = true) : 0 ≤ n ∧ n ≤ 18446744073709551615 := by
  simpa [Lit.wf, IntKind.min, IntKind.max, IntKind.signed, IntKind.bits] using h
theorem i64_in {n : Int} (h : (Lit.int .i64 n).wf = true) : -9223372036854775808 ≤ n ∧ n ≤ 9223372036854775807 := by
  simpa [Lit.wf, IntKind.min, IntKind.max, IntKind.signed, IntKind.bits] using h
end Go.Proofs.Ytjiohencpopbeaa

namespace Go.Proofs.Ytjiohencpopbeaa.queueOrder
open Go.RowKit Go.Maps Go.Deep Go.WideShapes Go.ChangeShapes Go.ChangeAt
set_option maxRecDepth 100000

theorem room_mask {k : Nat} (h2 : 2 ≤ k) (h : k ≤ 20) : bits .and .i64 (((2 ^ k : Nat) : Int)) (((2 ^ k : Nat) : Int) - 1) = 0 := by
  have : k = 2 ∨ k = 3 ∨ k = 4 ∨ k = 5 ∨ k = 6 ∨ k = 7 ∨ k = 8 ∨ k = 9 ∨ k = 10 ∨ k = 11 ∨ k = 12 ∨ k = 13 ∨ k = 14 ∨ k = 15 ∨ k = 16 ∨ k = 17 ∨ k = 18 ∨ k = 19 ∨ k = 20 := by omega
  rcases this with rfl | rfl | rfl | rfl | rfl | rfl | rfl | rfl | rfl | rfl | rfl | rfl | rfl | rfl | rfl | rfl | rfl | rfl | rfl <;> decide +kernel

def sliceLen : Value → Nat | .slice _ n _ => n | _ => 0
set_option maxHeartbeats 3200000 in
theorem walk (xs : List Trip) (bs : List Bool) (A A' : Option Addr) (cap cap' : Nat) (W : World) (hxs : xs.length ≤ maxLen) (hbs : bs.length ≤ maxLen) (hx : Row3 W A xs) (hp : RowX encB 1 W A' bs) :
    Calls Try.prog 4 #[.slice A xs.length cap, .slice A' bs.length cap'] W fun e w' => e = .returned (.bool true) ∧ Below W.heap.size W w' := by
  unfold maxLen at hxs hbs
  have HX := Lib.hid hx
  have HP := Lib.hid hp
  clear hx hp
  have hE := Env.start W
  go_enter Try.func4, Try.ntmps4
  go_wp2_with fail
  refine (awake11 W).mono ?_
  rintro e w1 ⟨rfl, hb⟩
  replace hE := hE.over hb
  clear hb
  by_cases hlen : 200 < xs.length
  · have hd : decide ((200 : Int) < (xs.length : Int)) = true := by simp; omega
    go_wp2_with fail
    go_ret
    exact ⟨rfl, hE.below⟩
  have hd : decide ((200 : Int) < (xs.length : Int)) = false := by simp; omega
  go_wp2_with fail
  refine (newQ_any (xs := []) (by decide) Row3.nil).mono ?_
  rintro e w2 ⟨q, F, k, rfl, hk, hQ, hB, hF⟩
  replace hE := hE.madeQ hQ hF hB
  clear hQ hF hB hk
  replace hE := hE.addEmpty3 w2.heap.size rfl 35
  go_wp2_with fail
  go_loopw [6, 7, 8, 9, 10] (fun o i _ _ _ wr => ∃ (j : Nat) (os l : List Trip) (Ao : Option Addr) (co : Nat) (F : Nat → Prop) (k : Nat), j ≤ xs.length ∧ i = .int .i64 j ∧ o = .slice Ao os.length co ∧ os ++ l = xs.take j ∧ Env W [row3I (.slice Ao os.length co) 35 os, queueI q F l k] wr) (fun _ i _ _ _ _ => xs.length - (intOf i).toNat)
  case atStart => exact ⟨0, [], [], _, 0, F, k, Nat.zero_le _, rfl, rfl, rfl, hE⟩
  case round =>
    clear hE
    obtain ⟨j, os, l, Ao, co, F, k, hj, rfl, rfl, hol, hE⟩ := hrel
    by_cases hlt : j < xs.length
    · have hrow := hE.seen3 HX.out
      rcases hrow with h0 | ⟨b, off, rfl, hbl, hc⟩
      · rw [h0] at hlt; simp at hlt
      have hcj := hc j hlt
      have htk : os ++ (l ++ [xs.getD j t0]) = xs.take (j + 1) := by
        rw [List.take_succ_eq_append_getElem hlt, ← List.append_assoc, hol, show xs.getD j t0 = xs[j] by simp [hlt]]
      have hln : os.length + l.length = j := by have := congrArg List.length hol; simp at this; omega
      rw [t0_default] at hcj
      generalize xs.getD j t0 = xx at *
      obtain ⟨x, y, z⟩ := xx
      obtain ⟨c0, c1, c2⟩ := at3 hcj
      have HTK := Lib.hid htk
      have HOL := Lib.hid hol
      clear hc hcj htk hol
      have hE2 := hE.box wr.heap.size rfl (flat3 [(x, y, z)]) 35
      have hrow := (show Blk 0 _ _ (flat3 [(x, y, z)]) from hE2.get 0 rfl).row3
      have hoff := hE2.off (i := 0) (j := 2) rfl rfl (by decide)
      clear hE
      go_wp2_with fail
      refine (push_any (xs := [(x, y, z)]) (by simp; omega) hrow (fun _ b hb hF => ?_) (hE2.queue 2 rfl)).mono ?_
      · obtain ⟨o, ho⟩ := hb
        cases ho
        exact hoff _ rfl hF
      rintro e w3 ⟨rfl, k1, F1, hRm, hQ, hs⟩
      replace hE := hE2.turnQ 2 rfl hQ hs
      simp only [List.set_cons_succ, List.set_cons_zero] at hE
      replace hE := hE.sub (L' := [_, _]) (.cons _ (List.Sublist.refl _))
      clear hQ hs hRm hrow hoff hE2
      have hqn := (hE.queue 1 rfl).len
      go_wp2_with fail
      refine (room_any (hE.queue 1 rfl)).mono ?_
      rintro e w4 ⟨rfl, hb⟩
      replace hE := hE.over hb
      clear hb
      have h4 := pow_four hqn.2.2.1
      have hN := pow_small hqn.2.2.2
      have hmask := room_mask hqn.2.2.1 hqn.2.2.2
      obtain ⟨hqn1, -⟩ := hqn
      generalize 2 ^ k1 = N at *
      have hw1 : wrap64 ((N : Int) - 1) = (N : Int) - 1 := w64 _ (by omega)
      have hd1 : decide ((N : Int) < 4) = false := by simp; omega
      have hne : l ++ [(x, y, z)] ≠ [] := by simp
      have hl2 : (l ++ [(x, y, z)]).length = l.length + 1 := by simp
      generalize l ++ [(x, y, z)] = l2 at *
      have hd2 : decide ((N : Int) < (l2.length : Int)) = false := by simp; omega
      clear c0 c1 c2
      have hpop : ∃ (pb : Bool), (j < bs.length ∧ pb = true ∨ pb = false) ∧ (j < bs.length → ∃ b2 off2, A' = some ⟨b2, off2, none⟩ ∧ ∀ v, Below W.heap.size W v → v.cell? ⟨b2, off2 + j, none⟩ = some (.bool pb)) := by
        by_cases hjb : j < bs.length
        · rcases HP.out with h0 | ⟨b2, off2, rfl, hbl2, hc2⟩
          · rw [h0] at hjb; simp at hjb
          refine ⟨bs.getD j false, ?_, fun _ => ⟨b2, off2, rfl, fun v hv => ?_⟩⟩
          · cases h : bs.getD j false
            · exact .inr rfl
            · exact .inl ⟨hjb, rfl⟩
          · have := ((hc2 j hjb).below hv hbl2) 0 (.bool (bs.getD j false)) rfl
            simpa using this
        · exact ⟨false, .inr rfl, fun h => absurd h hjb⟩
      obtain ⟨pb, hpb, hpc⟩ := hpop
      have hdb : decide ((j : Int) < (bs.length : Int)) = decide (j < bs.length) := by simp
      by_cases hjb : j < bs.length
      · obtain ⟨b2, off2, rfl, hp2⟩ := hpc hjb
        rw [decide_eq_true hjb] at hdb
        have HP0 := Lib.hid hp2
        have p0 := HP0.out _ hE.below
        clear hp2 hpc
        cases pb with
        | false =>
          clear hpb
          go_wp2_with (first | (with_reducible refine (len_any (hE.queue 1 rfl)).mono ?_; rintro e w1 ⟨rfl, hb⟩; replace hE := hE.over hb; clear hb p0; have p0 := HP0.out _ hE.below))
          exact ⟨⟨j + 1, os, l2, Ao, co, F1, k1, by omega, by simp, rfl, HTK.out, hE⟩, by simp [intOf]; omega⟩
        | true =>
          clear hpb
          go_wp2_with (first | (with_reducible refine (len_any (hE.queue 1 rfl)).mono ?_; rintro e w1 ⟨rfl, hb⟩; replace hE := hE.over hb; clear hb p0; have p0 := HP0.out _ hE.below))
          cases l2 with
          | nil => exact absurd rfl hne
          | cons o t =>
            obtain ⟨x2, y2, z2⟩ := o
            refine (pop_any x2 y2 z2 (hE.queue 1 rfl)).mono ?_
            rintro e w5 ⟨rfl, hQ, hs⟩
            replace hE := hE.turnQ 1 rfl hQ hs
            simp only [List.set_cons_succ, List.set_cons_zero] at hE
            clear hQ hs p0 hne
            replace hE := hE.box w5.heap.size rfl [.int .i64 x2, .int .i64 y2, .int .i64 z2] 35
            have r := hE.rule 0 rfl
            have hE6 := hE.box (w5.heap.size + 1) (by simp) (flat3 [(x2, y2, z2)]) 35
            have hrow := (show Blk 0 _ _ (flat3 [(x2, y2, z2)]) from hE6.get 0 rfl).row3
            obtain ⟨A9, c9, w9, hrun, hE9, -⟩ := hE6.append3 2 rfl 22 22 Try.underlying22 infoEnt 1 hrow (by simp; omega)
            have hE9 := hE9.sub (L' := [_, _]) (.cons _ (.cons _ (List.Sublist.refl _)))
            have HRUN := Lib.hid hrun
            have HE9 := Lib.hid hE9
            clear hE hE6 hrun hE9 hrow
            simp only [tv]
            go_wp2_with (first | (at_builtin; refine wpList_append_run rfl _ _ 22 rfl HRUN.out rfl rfl ?_))
            have hE := HE9.out
            exact ⟨⟨j + 1, os ++ [(x2, y2, z2)], t, A9, c9, F1, k1, by omega, by simp, by simp, by rw [List.append_assoc]; exact HTK.out, by rw [List.length_append]; exact hE⟩, by simp [intOf]; omega⟩
      · rw [decide_eq_false hjb] at hdb
        clear hpb hpc
        go_wp2_with (first | (with_reducible refine (len_any (hE.queue 1 rfl)).mono ?_; rintro e w1 ⟨rfl, hb⟩; replace hE := hE.over hb; clear hb))
        exact ⟨⟨j + 1, os, l2, Ao, co, F1, k1, by omega, by simp, rfl, HTK.out, hE⟩, by simp [intOf]; omega⟩
    · have hjx : j = xs.length := by omega
      subst hjx
      rw [List.take_length] at hol
      go_wp2_with fail
      have hlx : l.length ≤ xs.length := by have := congrArg List.length hol; simp at this; omega
      refine (list_any (hE.queue 1 rfl)).mono ?_
      rintro e w3 ⟨b, rfl, hb, hbs9, hB⟩
      replace hE := hE.add (boxI b (flat3 l)) hB hb (fun k hk => by cases hk; exact ⟨hbs9, hb.1⟩)
      clear hb hbs9 hB
      go_wp2_with fail
      refine (newQ_any (xs := l) (by omega) (show Blk 0 _ _ (flat3 l) from hE.get 0 rfl).row3).mono ?_
      rintro e w4 ⟨q2, F2, k2, rfl, hk, hQ, hB, hF⟩
      replace hE := hE.madeQ hQ hF hB
      clear hQ hF hB hk
      go_wp2_with fail
      refine (same_q (hE.queue 3 rfl) (hE.queue 0 rfl)).mono ?_
      rintro e w5 ⟨rfl, hB⟩
      replace hE := hE.over hB
      clear hB
      rw [decide_eq_true rfl]
      replace hE := hE.sub (L' := [queueI q2 F2 l k2, row3I (.slice Ao os.length co) 35 os, queueI q F l k]) (.cons_cons _ (.cons _ (List.Sublist.refl _)))
      have hq2n := (hE.queue 0 rfl).len
      obtain ⟨m, hm⟩ : ∃ m, m = l := ⟨_, rfl⟩
      rw [show queueI q2 F2 l k2 = queueI q2 F2 m k2 by rw [hm]] at hE
      clear hm
      go_wp2_with fail
      go_loopw [6, 12, 13] (fun o _ _ wr => ∃ (os l : List Trip) (Ao : Option Addr) (co : Nat) (F : Nat → Prop) (k : Nat), o = .slice Ao os.length co ∧ os ++ l = xs ∧ Env W [queueI q2 F2 m k2, row3I (.slice Ao os.length co) 35 os, queueI q F l k] wr) (fun o _ _ _ => xs.length - sliceLen o)
      case atStart => exact ⟨os, l, Ao, co, F, k, rfl, hol, hE⟩
      case round =>
        clear hE hol hlx hq2n
        obtain ⟨os, l, Ao, co, F, k, rfl, hol, hE⟩ := hrel
        have hlx : os.length + l.length = xs.length := by have := congrArg List.length hol; simpa using this
        go_wp2_with fail
        refine (len_any (hE.queue 2 rfl)).mono ?_
        rintro e w6 ⟨rfl, hB⟩
        replace hE := hE.over hB
        clear hB
        cases l with
        | cons o t =>
          have hd0 : decide ((0 : Int) < ((o :: t).length : Int)) = true := by simp
          obtain ⟨x2, y2, z2⟩ := o
          go_wp2_with fail
          refine (pop_any x2 y2 z2 (hE.queue 2 rfl)).mono ?_
          rintro e w5 ⟨rfl, hQ, hs⟩
          replace hE := hE.turnQ 2 rfl hQ hs
          simp only [List.set_cons_succ, List.set_cons_zero] at hE
          clear hQ hs
          replace hE := hE.box w5.heap.size rfl [.int .i64 x2, .int .i64 y2, .int .i64 z2] 35
          have r := hE.rule 0 rfl
          have hE6 := hE.box (w5.heap.size + 1) (by simp) (flat3 [(x2, y2, z2)]) 35
          have hrow := (show Blk 0 _ _ (flat3 [(x2, y2, z2)]) from hE6.get 0 rfl).row3
          obtain ⟨A9, c9, w9, hrun, hE9, -⟩ := hE6.append3 3 rfl 22 22 Try.underlying22 infoEnt 1 hrow (by simp; simp at hlx; omega)
          have hE9 := hE9.sub (L' := [_, _, _]) (.cons _ (.cons _ (List.Sublist.refl _)))
          have HRUN := Lib.hid hrun
          have HE9 := Lib.hid hE9
          clear hE hE6 hrun hE9 hrow
          simp only [tv]
          go_wp2_with (first | (at_builtin; refine wpList_append_run rfl _ _ 22 rfl HRUN.out rfl rfl ?_))
          have hE := HE9.out
          exact ⟨⟨os ++ [(x2, y2, z2)], t, A9, c9, F, k, by simp, by rw [List.append_assoc]; exact hol, by rw [List.length_append]; exact hE⟩, by simp [sliceLen]; simp at hlx; omega⟩
        | nil =>
          have hd0 : decide ((0 : Int) < (([] : List Trip).length : Int)) = false := by simp
          go_wp2_with fail
          refine (popNone_any (hE.queue 2 rfl)).mono ?_
          rintro e w7 ⟨rfl, hB⟩
          replace hE := (hE.over hB).box w7.heap.size rfl [.int .i64 0, .int .i64 0, .int .i64 0] 35
          clear hB
          simp only [tv, t0]
          have hox : os = xs := by simpa using hol
          have hox2 : os.length = xs.length := by rw [hox]
          have hne : ((os.length : Int) != (xs.length : Int)) = false := by rw [hox2]; simp
          have HOX := Lib.hid (And.intro hox hox2)
          clear hox hox2 hol hlx
          go_wp2_with fail
          rw [HOX.out.1] at hE ⊢
          replace hE := hE.sub (L' := [_, _, _]) (.cons _ (List.Sublist.refl _))
          go_loopw [16] (fun i v => ∃ j : Nat, j ≤ xs.length ∧ i = .int .i64 j ∧ Env W [queueI q2 F2 m k2, row3I (.slice Ao xs.length co) 35 xs, queueI q F [] k] v) (fun i _ => xs.length - (intOf i).toNat)
          case atStart => exact ⟨0, Nat.zero_le _, rfl, hE⟩
          case round =>
            clear hE hne HOX
            obtain ⟨j, hj, rfl, hE⟩ := hrel
            by_cases hlt9 : j < xs.length
            · rcases hE.cells3 1 rfl rfl with h0 | ⟨g, off, rfl, hg, -⟩
              · rw [h0] at hlt9; simp at hlt9
              rcases HX.out with h0 | ⟨b2, off2, rfl, hb2, -⟩
              · rw [h0] at hlt9; simp at hlt9
              have HC : Hid (∀ v, Env W [queueI q2 F2 m k2, row3I (.slice (some ⟨g, off, none⟩) xs.length co) 35 xs, queueI q F [] k] v → CellsAt v g (off + j * 3) (enc3 (xs.getD j t0)) ∧ CellsAt v b2 (off2 + j * 3) (enc3 (xs.getD j t0))) := Lib.hid fun v hv => by
                rw [← t0_default]
                constructor
                · rcases hv.cells3 1 rfl rfl with h0 | ⟨g', off', he, hg', hc⟩
                  · rw [h0] at hlt9; simp at hlt9
                  · cases he; exact hc j hlt9
                · rcases hv.seen3 HX.out with h0 | ⟨g', off', he, hg', hc⟩
                  · rw [h0] at hlt9; simp at hlt9
                  · cases he; exact hc j hlt9
              generalize xs.getD j t0 = o at *
              obtain ⟨x, y, z⟩ := o
              have HC2 := Lib.hid fun v hv => And.intro (at3 (HC.out v hv).1) (at3 (HC.out v hv).2)
              clear HC
              go_wp2_with fail
              refine Ord.wp_chain [] (fun v => Env W [queueI q2 F2 m k2, row3I (.slice (some ⟨g, off, none⟩) xs.length co) 35 xs, queueI q F [] k] v) (fun _ _ => True) (by kernel_rfl) (by kernel_rfl) (by kernel_rfl) hE.drew trivial (fun hT => ?_)
              have hT9 := Lib.hid hT
              clear hT
              repeat (first
                | (refine Ord.ch_value (v := ?_) hT9.out (by decide) (by rfl) ?_ ?_; rotate_left; (focus (intro w5 hS; obtain ⟨⟨c0, c1, c2⟩, ⟨d0, d1, d2⟩⟩ := HC2.out _ hS; go_simp <;> with_reducible rfl)); (try simp only [Act.put, List.setIfInBounds_toArray, List.set_cons_zero, List.set_cons_succ]))
                | (refine Ord.ch_off hT9.out (by decide) (by rfl) ?_; (try simp only [Act.put, List.setIfInBounds_toArray, List.set_cons_zero, List.set_cons_succ])))
              refine Ord.InText.nil fun w5 hS => ?_
              clear hT9
              obtain ⟨hE9, hC9⟩ := Ord.chain_end hS
              clear hS
              go_wp2_with fail
              exact ⟨⟨j + 1, by omega, by simp, hE9⟩, by simp [intOf]; omega⟩
            · have : j = xs.length := by omega
              subst this
              go_wp2_with fail
              refine (newQ_any (xs := []) (by decide) Row3.nil).mono ?_
              rintro e w8 ⟨q3, F3, k3, rfl, hk, hQ, hB, hF⟩
              replace hE := hE.madeQ hQ hF hB
              clear hQ hF hB hk
              go_wp2_with fail
              refine (same_q (hE.queue 3 rfl) (hE.queue 0 rfl)).mono ?_
              rintro e w9 ⟨rfl, hB⟩
              replace hE := hE.over hB
              clear hB
              rw [decide_eq_true rfl]
              go_wp2_with fail
              refine (same_q (hE.queue 1 rfl) (hE.queue 3 rfl)).mono ?_
              rintro e w10 ⟨rfl, hB⟩
              replace hE := hE.over hB
              clear hB
              have hmm : decide (m = []) = ((m.length : Int) == 0) := by cases m <;> simp; omega
              rw [hmm]
              go_wp2_with fail
              refine (len_any (hE.queue 1 rfl)).mono ?_
              rintro e w11 ⟨rfl, hB⟩
              replace hE := hE.over hB
              clear hB
              go_wp2_with fail
              go_ret
              exact ⟨ret_bool (by simp), hE.below⟩

theorem own : ownKnob Try.prog.godebug = none := by kernel_rfl
theorem laidOut : laidOutB Try.prog = true := by kernel_rfl

set_option maxRecDepth 100000 in
theorem lifted (os : Os) (started : os.Started) (H : Type) (enc : TypeId × Value → H) :
    ReturnsInHanded {} Try.checked os 4 .any (Rows.queueOrderSpec.pre6 enc Try.prog Try.f4 Rows.queueOrderRow.domain false) (Rows.queueOrderSpec.post enc Try.prog Try.f4 false true false false) := by
  refine returnsInHanded_of_change (C := Try.checked) own started (by kernel_rfl) Try.func4
    (ChangeSpec.witness6 (enc := enc) (C := Try.checked) false ⟨#[], #[.slice none 0 0, .slice none 0 0], []⟩ 8 (by kernel_rfl) (by kernel_rfl) (by kernel_rfl) (by kernel_rfl)) ?_
  intro W base args ds gs before hval0 hW hcnd _
  have hval : ∀ (j : Nat) t v, Try.f4.params[j]? = some t → args[j]? = some v → Value.okWide Try.prog W .any base t v := hval0
  have hW' := hW
  obtain ⟨p, q, hA0, hV, rfl, hfz, hnd⟩ := hW
  have hA : DataW.TrodAll enc Try.prog W 0 (fun _ => true) true Try.f4.params.toList args.toList ds p := hA0
  rw [Try.params4] at hA hval
  obtain ⟨v0, vs0, d0, ds0, p0, q0, hargs, rfl, rfl, g0, r0⟩ := trodAll_cons hA
  obtain ⟨v1, vs1, d1, ds1, p1, q1, rfl, rfl, rfl, g1, r1⟩ := trodAll_cons r0
  obtain ⟨rfl, rfl, rfl⟩ := trodAll_nil r1
  obtain rfl : args = #[v0, v1] := by cases args; simp_all
  obtain ⟨rfl, rfl⟩ := trodVars_none hV
  obtain ⟨A0, n0, cap0, rfl⟩ := okWide_slice Try.underlying22 (hval 0 22 v0 rfl rfl)
  obtain ⟨zs0, rfl, h0, w0, row0⟩ := open_Ent g0 (fun x hx => hW'.lt x (by simp [hx]))
  unfold maxLen at h0
  obtain ⟨A1, n1, cap1, rfl⟩ := okWide_slice Try.underlying50 (hval 1 50 v1 rfl rfl)
  obtain ⟨zs1, rfl, h1, w1, row1⟩ := open_Bools g1 (fun x hx => hW'.lt x (by simp [hx]))
  unfold maxLen at h1
  clear hA0 hval0
  refine (walk zs0 zs1 A0 A1 cap0 cap1 W h0 h1 row0 row1).mono fun e W' ⟨he, hg⟩ => ?_
  subst he
  exact ⟨_, rfl, law_post laidOut (by kernel_rfl) (by kernel_rfl) Try.underlying4 rfl rfl hW' hg⟩

theorem over : Rows.queueOrderRow.holds Try.pinned (OpenSpec.ofChange Rows.queueOrderSpec) :=
  OpenClaim.holds_of_wide 4 Try.f4 rfl rfl rfl rfl rfl rfl rfl ⟨rfl, rfl, rfl, rfl, rfl⟩ rfl rfl rfl rfl rfl (by kernel_rfl) Try.func4 (by kernel_rfl)
    (of_decide_eq_true (by kernel_rfl)) (by unfold Func.isWrapper; first | (rw [if_pos (by decide +kernel)]; kernel_rfl) | (rw [if_neg (by decide +kernel)]; exact ⟨rfl, rfl⟩))
    (fun os started H enc _ => lifted os started H enc)

/-- THE STATEMENT. -/
theorem proved : Rows.QueueOrderSaid := over
#print axioms proved
end Go.Proofs.Ytjiohencpopbeaa.queueOrder
