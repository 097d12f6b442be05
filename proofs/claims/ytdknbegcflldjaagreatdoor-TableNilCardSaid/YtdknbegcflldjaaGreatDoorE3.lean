/- What is proved on the way to the statement, part 3 of 17: contracts of the functions, among other things in memory. -/
import Derived.Test.YtdknbegcflldjaaGreatDoorE2
import Derived.WalkKit
import Derived.ProofKit
import Derived.OpenShut
import Derived.Test.YtdknbegcflldjaaGreatDoorChecked
import Derived.Defers
import Derived.Recover
import Derived.Deep.Light
import Derived.Test.YtdknbegcflldjaaGreatDoorRows
import Derived.WalkSpells
import Derived.Lib.Hide
import Derived.Deep.RegionHeld3

/- Queues: the contracts of Push, New. -/
namespace Go.Proofs.YtdknbegcflldjaaGreatDoor
open Go.RowKit Go.Maps
set_option maxRecDepth 100000

set_option maxHeartbeats 1600000 in
theorem push_any {w : World} {q k cap : Nat} {F : Nat → Prop} {l xs : List Trip} {A : Option Addr} (hn : l.length + xs.length ≤ 1048576) (hA : Row3 w A xs) (hoff : xs ≠ [] → ∀ b, In3 A b → ¬ F b) (hQ : IsQ w q F l k) :
    Calls Tryz.prog 115 #[.pointer (some ⟨q, 0, none⟩), .slice A xs.length cap] w fun e w' => e = .returned (.int .i64 0) ∧ ∃ k' F', Rm k (l.length + xs.length) k' ∧ IsQ w' q F' (l ++ xs) k' ∧ Step F F' w w' := by
  have hsum : wrap64 ((l.length : Int) + (xs.length : Int)) = ((l.length + xs.length : Nat) : Int) := by rw [w64 _ (by omega)]; omega
  go_enter Tryz.func115, Tryz.ntmps115
  go_wp2_with fail
  refine (len_any hQ).mono ?_
  rintro e w1 ⟨rfl, hb⟩
  have hlt1 := hQ.lt
  have hQ1 := hQ.below hb
  have hkle := hQ.len.2.2.2
  have HA := Lib.hid (And.intro hA (And.intro hoff (And.intro hb hlt1)))
  have HSUM := Lib.hid hsum
  clear hQ hA hoff hb hlt1 hsum
  go_wp2_with fail
  have HS1 : Hid (IntKind.i64.wrap ((l.length : Int) + (xs.length : Int)) = ((l.length + xs.length : Nat) : Int)) := Lib.hid (by rw [wrap_i]; exact HSUM.out)
  try rw [HS1.out]
  try rw [HSUM.out]
  refine (grow_any hn (by omega) hQ1).mono ?_
  rintro e w2 ⟨rfl, k', F1, hRm, hQ2, hs2⟩
  clear hQ1
  have hk20 := hRm.le hkle hn
  have hN := hRm.2.1
  have HRM := Lib.hid hRm
  clear hRm
  have hst : Step F F1 w w2 := (Step.of_below F HA.out.2.2.1).trans hs2
  clear hs2
  go_wp2_with fail
  go_loopw [6, 18] (fun _ i v => ∃ j : Nat, j ≤ xs.length ∧ i = .int .i64 j ∧ IsQ v q F1 (l ++ xs.take j) k' ∧ Step F F1 w v) (fun _ i _ => xs.length - (intOf i).toNat)
  case atStart => exact ⟨0, Nat.zero_le _, rfl, by simpa using hQ2, hst⟩
  case round =>
    clear hQ2 hst
    obtain ⟨j, hj, rfl, hQ5, hst5⟩ := hrel
    by_cases hlt : j < xs.length
    · have hrow : Row3 wr A xs := HA.out.1.kept (fun b hb => hst5.turn.block b (by
        rcases HA.out.1 with h0 | ⟨b', off, he, hl', hc⟩
        · rw [h0] at hlt; simp at hlt
        · obtain ⟨o, ho⟩ := hb
          rw [he] at ho
          cases ho
          exact hl') (HA.out.2.1 (by rintro rfl; simp at hlt) b hb)) hst5.turn.size
      rcases hrow with h0 | ⟨b, off, rfl, hbl, hc⟩
      · rw [h0] at hlt; simp at hlt
      have hc := hc j hlt
      have hlen : (l ++ xs.take j).length = l.length + j := by simp; omega
      obtain ⟨R, g, r, hq, hr, hring, hk2, _, hne, hF⟩ := hQ5
      have hpush := hring.push (by rw [hlen]; omega) (xs.getD j t0)
      rw [hlen] at hq hpush
      have htk : l ++ xs.take j ++ [xs.getD j t0] = l ++ xs.take (j + 1) := by
        rw [List.take_succ_eq_append_getElem hlt, show xs.getD j t0 = xs[j] by simp [hlt], List.append_assoc]
      rw [htk] at hpush
      have hrl := hring.1
      have hp1 : (g + (l.length + j)) % 2 ^ k' < 2 ^ k' := Nat.mod_lt _ (by have := pow_four hk2; omega)
      have HA1 := Lib.hid fun w' => at_any R k' (g + (l.length + j)) w' hk20
      have hup1 := round_up (g + (l.length + j)) 1
      simp only [Int.natCast_one] at hup1
      have HF := Lib.hid (And.intro hF (And.intro hk2 hne))
      have hqF : F1 q := (hF q).2 (.inl rfl)
      have hRF : F1 R := (hF R).2 (.inr rfl)
      clear hring htk hlen hF hk2
      rw [t0_default] at hc
      generalize xs.getD j t0 = xx at *
      obtain ⟨x, y, z⟩ := xx
      obtain ⟨c0, c1, c2⟩ := at3 hc
      clear hc
      have hset : (qv R (2 ^ k') g (l.length + j)).set 2 (.int .u64 (cnt (g + (l.length + j) + 1))) = qv R (2 ^ k') g (l.length + (j + 1)) := rfl
      have HSET := Lib.hid hset
      have HP := Lib.hid hpush
      clear hset hpush
      have hql := hq.1
      have hRl := hr.1
      generalize (g + (l.length + j)) % 2 ^ k' = p at *
      have HQ := Lib.hid hq
      have rq := hq.rule
      unfold qv at hq rq
      have hq1 := hq.more (.cells [.int .i64 x, .int .i64 y, .int .i64 z].toArray 158)
      have hr1 := hr.more (.cells [.int .i64 x, .int .i64 y, .int .i64 z].toArray 158)
      have hB1 := Blk.new 0 wr [.int .i64 x, .int .i64 y, .int .i64 z] 158
      have ht1 : Turn F1 wr (wr.alloc (.cells [.int .i64 x, .int .i64 y, .int .i64 z].toArray 158)) := (Turn.refl F1 wr).alloc _
      clear hq hr
      generalize hg : cnt g = G at *
      have HG := Lib.hid hg
      clear hg
      generalize cnt (g + (l.length + j)) = CN at *
      generalize hcn1 : cnt (g + (l.length + j) + 1) = CN1 at *
      have HCN1 := Lib.hid hcn1
      clear hcn1
      generalize hNN : 2 ^ k' = N at *
      have HNN := Lib.hid hNN
      clear hNN
      go_wp2_with fail
      refine Ord.wp_chain [11] (fun w' => Blk 0 w' q [.slice (some ⟨R, 0, none⟩) N N, .int .u64 G, .int .u64 CN] ∧ Blk 0 w' wr.heap.size [.int .i64 x, .int .i64 y, .int .i64 z]) (fun i w' => Turn F1 wr w' ∧ Blk 0 w' R (flat3 (if i = 0 then r else r.set p (x, y, z)))) (by kernel_rfl) (by kernel_rfl) (by kernel_rfl) ⟨hq1.drew, hB1.drew⟩ ⟨ht1.drew, hr1.drew⟩ (fun hT => ?_)
      have hT9 := Lib.hid hT
      clear hT
      repeat (first
        | (refine Ord.ch_value (v := ?_) hT9.out (by decide) (by rfl) ?_ ?_; rotate_left; (focus (intro w5 hS; have rr := Blk.rule hS.1; have r3 := Blk.rule hS.2; go_simp <;> with_reducible rfl)); (try simp only [Act.put, List.setIfInBounds_toArray, List.set_cons_zero, List.set_cons_succ]))
        | (refine Ord.ch_off hT9.out (by decide) (by rfl) ?_; (try simp only [Act.put, List.setIfInBounds_toArray, List.set_cons_zero, List.set_cons_succ]))
        | (refine Ord.ch_call (v := ?_) (f := ?_) (args := ?_) hT9.out (by decide) (by rfl) ?_ ?_ ?_; rotate_left 3; (focus (intro w5 hS; have rr := Blk.rule hS.1; have r3 := Blk.rule hS.2; go_simp; constructor <;> with_reducible rfl)); (focus (intro w5 hS; (first | (with_reducible refine (HA1.out w5).mono ?_; rintro e w6 ⟨rfl, rfl⟩; constructor; with_reducible rfl; exact ⟨hS, fun _ h => h⟩)))); (try simp only [Act.put, List.setIfInBounds_toArray, List.set_cons_zero, List.set_cons_succ])))
      refine Ord.ch_turn (v := undef) 0 hT9.out rfl (by decide) (Or.inl rfl) (by rfl) ?_ ?_
      · rintro w5 hS ⟨hA1, hA2⟩
        simp only [if_true] at hA2
        have hcells := fun c hc => (hA2.rule (p * 3 + c)).trans (flat3_get _ p c (by omega) hc)
        have r0 := hcells 0 (by omega)
        have r1 := hcells 1 (by omega)
        have r2 := hcells 2 (by omega)
        simp only [Nat.add_zero, enc3, List.getElem?_cons_zero, List.getElem?_cons_succ] at r0 r1 r2
        have hfl := flat3_length r
        have f0 := hA2.thaw (p * 3) (by omega)
        have f1 := hA2.thaw (p * 3 + 1) (by omega)
        have f2 := hA2.thaw (p * 3 + 2) (by omega)
        clear hcells rq
        go_simp
        refine ⟨rfl, ⟨((hS.1.off hne _).off hne _).off hne _, ((hS.2.off (by omega) _).off (by omega) _).off (by omega) _⟩, ?_, ?_⟩
        · exact ((hA1.setCell (p := ⟨R, p * 3, none⟩) (fun _ => hRF) _).setCell (p := ⟨R, p * 3 + 1, none⟩) (fun _ => hRF) _).setCell (p := ⟨R, p * 3 + 2, none⟩) (fun _ => hRF) _
        · exact Blk.set3 hA2 (by omega) (x, y, z)
      (try simp only [Act.put, List.setIfInBounds_toArray, List.set_cons_zero, List.set_cons_succ])
      repeat (first
        | (refine Ord.ch_value (v := ?_) hT9.out (by decide) (by rfl) ?_ ?_; rotate_left; (focus (intro w5 hS; skip; go_simp <;> with_reducible rfl)); (try simp only [Act.put, List.setIfInBounds_toArray, List.set_cons_zero, List.set_cons_succ]))
        | (refine Ord.ch_off hT9.out (by decide) (by rfl) ?_; (try simp only [Act.put, List.setIfInBounds_toArray, List.set_cons_zero, List.set_cons_succ])))
      refine Ord.InText.nil fun w5 hS => ?_
      clear hT9
      obtain ⟨hC9, hA9⟩ := Ord.chain_end hS
      clear hS
      obtain ⟨hA1, hA2⟩ := hA9
      rw [if_neg (by decide)] at hA2
      have hq9 := hC9.1
      have r9 := hq9.rule
      have f9 := hq9.thaw 2 (by simp)
      clear hC9 rq
      go_wp2_with fail
      have hqq := hq9.set (i := 2) (by simp) (.int .u64 CN1)
      have hrr := hA2.off (B := q) (i := 2) (fun e => hne e.symm) (.int .u64 CN1)
      refine ⟨⟨j + 1, by omega, by simp, ⟨R, g, r.set p (x, y, z), ?_, hrr, by rw [HNN.out]; exact HP.out, HF.out.2.1, hk20, hne, HF.out.1⟩, hst5.trans ⟨hA1.setCell (p := ⟨q, 2, none⟩) (fun _ => hqF) _, fun x hx => .inl hx⟩⟩, by simp [intOf]; omega⟩
      have hl9 : (l ++ xs.take (j + 1)).length = l.length + (j + 1) := by simp; omega
      rw [hl9, HNN.out]
      show Blk 0 _ q [.slice (some ⟨R, 0, none⟩) N N, .int .u64 (cnt g), .int .u64 (cnt (g + (l.length + j) + 1))]
      rw [HG.out, HCN1.out]
      exact hqq
    · go_wp2_with fail
      have : j = xs.length := by omega
      subst this
      rw [List.take_length] at hQ5
      go_ret
      exact ⟨rfl, k', F1, HRM.out, hQ5, hst5⟩
theorem pushNil_any (v : Value) (w : World) : Calls Tryz.prog 115 #[.pointer none, v] w fun e w' => e = .returned (.int .i64 2) ∧ w = w' := by
  go_enter Tryz.func115, Tryz.ntmps115
  go_wp2_with fail
  go_ret
  exact ⟨rfl, rfl⟩

set_option maxHeartbeats 800000 in
theorem newQ_any {w : World} {cap : Nat} {xs : List Trip} {A : Option Addr} (hn : xs.length ≤ 1048576) (hA : Row3 w A xs) :
    Calls Tryz.prog 65 #[.slice A xs.length cap] w fun e w' => ∃ q F k, e = .returned (.pointer (some ⟨q, 0, none⟩)) ∧ Rm 2 xs.length k ∧ IsQ w' q F xs k ∧ Below w.heap.size w w' ∧ (∀ j, F j → w.heap.size ≤ j) := by
  have hr := Blk.new 0 w (flat3 [t0, t0, t0, t0]) 158
  have hb1 := (Below.refl w.heap.size w).alloc (Nat.le_refl _) (.cells (flat3 [t0, t0, t0, t0]).toArray 158)
  have hs1 : (w.alloc (.cells (flat3 [t0, t0, t0, t0]).toArray 158)).heap.size = w.heap.size + 1 := by simp
  have hq := Blk.new 0 (w.alloc (.cells (flat3 [t0, t0, t0, t0]).toArray 158)) (qv w.heap.size 4 0 0) 210
  have hr2 := hr.more (.cells (qv w.heap.size 4 0 0).toArray 210)
  have hb2 := hb1.alloc (by rw [hs1]; omega) (.cells (qv w.heap.size 4 0 0).toArray 210)
  rw [hs1] at hq
  have hQ : IsQ _ (w.heap.size + 1) (fun j => j = w.heap.size + 1 ∨ j = w.heap.size) [] 2 := ⟨w.heap.size, 0, [t0, t0, t0, t0], hq, hr2, ⟨rfl, by simp, fun i h => by simp at h⟩, by omega, by omega, by omega, fun j => Iff.rfl⟩
  have hA2 := RowX.below hA hb2
  have hoff : xs ≠ [] → ∀ b, In3 A b → ¬ (b = w.heap.size + 1 ∨ b = w.heap.size) := fun hne b hb => by
    rcases hA with h0 | ⟨b', off, he, hl', hc⟩
    · exact absurd h0 hne
    · obtain ⟨o, ho⟩ := hb
      rw [he] at ho
      cases ho
      omega
  have hsz := hb2.size
  have HALL := Lib.hid (And.intro hQ (And.intro hA2 (And.intro hoff hb2)))
  clear hr hb1 hs1 hq hr2 hb2 hQ hA2 hoff hA hsz
  go_enter Tryz.func65, Tryz.ntmps65
  go_wp2_with (refine wpList_make3 _ rfl _ _ 151 rfl 158 Tryz.underlying151 infoEnt .i64 .i64 _ _ 4 rfl rfl rfl rfl (by omega) ?_)
  obtain ⟨hQ, hA2, hoff, hb2⟩ := HALL.out
  refine (push_any (by simpa using hn) hA2 hoff hQ).mono ?_
  rintro e w1 ⟨rfl, k', F', hRm, hQ9, hst⟩
  go_wp2_with fail
  go_ret
  have hsz := hb2.size
  refine ⟨_, F', k', rfl, by simpa using hRm, by simpa using hQ9, ?_, hst.base hsz ?_⟩
  · exact Turn.below hb2 hst.turn hsz (fun j hj => by omega)
  · intro j hj; omega
end Go.Proofs.YtdknbegcflldjaaGreatDoor

/- Queues among other things. -/
namespace Go.Proofs.YtdknbegcflldjaaGreatDoor
open Go.RowKit Go.Maps
set_option maxRecDepth 100000

def queueI (q : Nat) (F : Nat → Prop) (l : List Trip) (k : Nat) : Item where
  F := F
  says := fun w => IsQ w q F l k
  loc := fun _ _ h hk hs => h.kept hk hs
section
variable {w0 w w' : World} {L : List Item} {q k k' : Nat} {F F' : Nat → Prop} {l l' : List Trip}
theorem Env.queue (h : Env w0 L w) (i : Nat) (hi : L[i]? = some (queueI q F l k)) : IsQ w q F l k := h.get i hi
theorem Env.turnQ (h : Env w0 L w) (i : Nat) (hi : L[i]? = some (queueI q F l k)) (hQ : IsQ w' q F' l' k') (hs : Step F F' w w') : Env w0 (L.set i (queueI q F' l' k')) w' :=
  h.step i (queueI q F' l' k') hi hs hQ hQ.lt
theorem Env.madeQ (h : Env w0 L w) (hQ : IsQ w' q F l k) (hF : ∀ j, F j → w.heap.size ≤ j) (hb : Below w.heap.size w w') : Env w0 (queueI q F l k :: L) w' :=
  h.add (queueI q F l k) hb hQ fun j hj => ⟨hF j hj, hQ.lt j hj⟩
/-- A row that came in lies apart from all that was made. -/
theorem Env.apart (h : Env w0 L w) (i : Nat) (hi : L[i]? = some (queueI q F l k)) {A : Option Addr} {xs : List Trip} (hr : Row3 w0 A xs) : xs ≠ [] → ∀ b, In3 A b → ¬ F b := fun hne b hb hF => by
  have h1 := ((h.2.2 _ (List.mem_of_getElem? hi)).2 b hF).1
  rcases hr with h0 | ⟨b', off, he, hl', hc⟩
  · exact hne h0
  · obtain ⟨o, ho⟩ := hb
    rw [he] at ho
    cases ho
    omega
end
end Go.Proofs.YtdknbegcflldjaaGreatDoor

/- Layer 3: the plain mathematics of structures. -/
namespace Go.Proofs.YtdknbegcflldjaaGreatDoor
open Go.RowKit
set_option maxRecDepth 100000

/-- A number within bounds. -/
def inB (n lo hi : Int) : Bool := decide (lo ≤ n ∧ n ≤ hi)
theorem inB_yes {n lo hi : Int} (h : inB n lo hi = true) : lo ≤ n ∧ n ≤ hi := by simpa [inB] using h
theorem inB_no {n lo hi : Int} (h : inB n lo hi = false) : n < lo ∨ hi < n := by
  by_cases h1 : lo ≤ n
  · exact .inr (by simpa [inB, h1] using h)
  · exact .inl (by omega)
/-- There are such structures. -/
def kindB (k : Int) : Bool := decide (k = 1 ∨ k = 2 ∨ k = 3)
/-- As many buckets, levels as its kind can have. -/
def buckB (k b : Int) : Bool := if k = 2 then inB b 1 64 else decide (b = 0)
def highB (k h : Int) : Bool := if k = 3 then inB h 1 16 else decide (h = 1)
/-- What is wrong with a structure. -/
def chkI (k s b h l : Int) : Int := if kindB k then (if inB s 1 8388607 && inB l 2 1099511627775 && buckB k b && highB k h then 0 else 3) else 8
theorem kindB_iff (k : Int) : kindB k = true ↔ 1 ≤ k ∧ k ≤ 3 := by simp [kindB]; omega
theorem inB_iff (n lo hi : Int) : inB n lo hi = true ↔ lo ≤ n ∧ n ≤ hi := by simp [inB]
theorem buckB_iff (k b : Int) : buckB k b = true ↔ (k = 2 ∧ 1 ≤ b ∧ b ≤ 64) ∨ (k ≠ 2 ∧ b = 0) := by
  unfold buckB
  split
  · next e => rw [inB_iff]; omega
  · next e => rw [decide_eq_true_iff]; omega
theorem highB_iff (k h : Int) : highB k h = true ↔ (k = 3 ∧ 1 ≤ h ∧ h ≤ 16) ∨ (k ≠ 3 ∧ h = 1) := by
  unfold highB
  split
  · next e => rw [inB_iff]; omega
  · next e => rw [decide_eq_true_iff]; omega
def Cfg (s k b h l : Int) : Prop := (1 ≤ s ∧ s ≤ 8388607) ∧ (2 ≤ l ∧ l ≤ 1099511627775) ∧ ((k = 2 ∧ 1 ≤ b ∧ b ≤ 64) ∨ (k ≠ 2 ∧ b = 0)) ∧ ((k = 3 ∧ 1 ≤ h ∧ h ≤ 16) ∨ (k ≠ 3 ∧ h = 1))
theorem cfg_iff (k s b h l : Int) : (inB s 1 8388607 && inB l 2 1099511627775 && buckB k b && highB k h) = true ↔ Cfg s k b h l := by
  rw [Bool.and_eq_true, Bool.and_eq_true, Bool.and_eq_true, inB_iff, inB_iff, buckB_iff, highB_iff]
  unfold Cfg
  omega
theorem chk_eight {k s b h l : Int} (hk : ¬ (1 ≤ k ∧ k ≤ 3)) : chkI k s b h l = 8 := by
  unfold chkI
  rw [if_neg (by rw [kindB_iff]; exact hk)]
theorem chk_three {k s b h l : Int} (hk : 1 ≤ k ∧ k ≤ 3) (hc : ¬ Cfg s k b h l) : chkI k s b h l = 3 := by
  unfold chkI
  rw [if_pos (by rw [kindB_iff]; exact hk), if_neg (by rw [cfg_iff]; exact hc)]
theorem chk_zero {k s b h l : Int} (hk : 1 ≤ k ∧ k ≤ 3) (hc : Cfg s k b h l) : chkI k s b h l = 0 := by
  unfold chkI
  rw [if_pos (by rw [kindB_iff]; exact hk), if_pos (by rw [cfg_iff]; exact hc)]
theorem chk_yes {k s b h l : Int} (e : chkI k s b h l = 0) : (1 ≤ k ∧ k ≤ 3) ∧ (1 ≤ s ∧ s ≤ 8388607) ∧ (2 ≤ l ∧ l ≤ 1099511627775) ∧ ((k = 2 ∧ 1 ≤ b ∧ b ≤ 64) ∨ (k ≠ 2 ∧ b = 0)) ∧ ((k = 3 ∧ 1 ≤ h ∧ h ≤ 16) ∨ (k ≠ 3 ∧ h = 1)) := by
  unfold chkI at e
  split at e
  · next hk =>
    split at e
    · next hc => exact ⟨(kindB_iff k).1 hk, (cfg_iff k s b h l).1 hc⟩
    · cases e
  · cases e
/-- How many links it begins at; a slot's cells; how long an op may take. -/
def rootsI (k s b h l : Int) : Int := if chkI k s b h l = 0 then (if k = 2 then b else h) else 0
def cellsI (k s b h l : Int) : Int := if chkI k s b h l = 0 then 7 + h else 0
def aloneI (k s b h l : Int) : Int := if chkI k s b h l = 0 then 64 * (s + 4) * (h + 1) else 0
def winB (k s b h l t : Int) : Bool := decide (chkI k s b h l = 0) && inB t 1 64
def winI (k s b h l t : Int) : Int := if winB k s b h l t then 64 * (t + 1) * (t + 1) * (t + 1) * (s + 2) * (h + 1) * (h + 1) else 0
/-- What is asked of which; its level; its key and value. -/
def askB (k o : Int) : Bool := if o = 1 ∨ o = 2 ∨ o = 3 then decide (k = 1 ∨ k = 3) else if o = 4 ∨ o = 5 ∨ o = 6 ∨ o = 7 then decide (k = 2) else decide (o = 8)
def lvlB (k h o y : Int) : Bool := if k = 3 ∧ o = 1 then inB y 1 h else decide (y = 0)
def putB (o : Int) : Bool := decide (o = 4 ∨ o = 5)
def argB (o x v : Int) : Bool := decide ((v ≠ 0 ∧ o ≠ 4 ∧ o ≠ 5) ∨ (x ≠ 0 ∧ o = 8))
def opI (k s b h l o x v y : Int) : Int := if chkI k s b h l = 0 then (if askB k o then (if lvlB k h o y then (if argB o x v then 1 else 0) else 3) else 8) else chkI k s b h l

theorem alone_wrap {s h : Int} (hs : 1 ≤ s ∧ s ≤ 8388607) (hh : 1 ≤ h ∧ h ≤ 16) : wrap64 (wrap64 (64 * wrap64 (s + 4)) * wrap64 (h + 1)) = 64 * (s + 4) * (h + 1) := by
  rw [w64 (s + 4) (by omega), w64 (64 * (s + 4)) (by omega), w64 (h + 1) (by omega)]
  exact wrap_mul (A := 536871104) (B := 17) (by omega) (by omega) (by decide)
theorem cell_wrap {h : Int} (hh : 1 ≤ h ∧ h ≤ 16) : wrap64 (7 + h) = 7 + h := w64 _ (by omega)
theorem win_wrap {s h t : Int} (hs : 1 ≤ s ∧ s ≤ 8388607) (hh : 1 ≤ h ∧ h ≤ 16) (ht : 1 ≤ t ∧ t ≤ 64) :
    wrap64 (wrap64 (wrap64 (64 * ((t + 1) * (t + 1) * (t + 1))) * (s + 2)) * ((h + 1) * (h + 1))) = 64 * (t + 1) * (t + 1) * (t + 1) * (s + 2) * (h + 1) * (h + 1) := by
  have h2 := mul_in (a := t + 1) (b := t + 1) (A := 65) (B := 65) (by omega) (by omega)
  have h3 := mul_in (b := t + 1) (B := 65) h2 (by omega)
  have h4 := mul_in (a := 64) (A := 64) (by omega) h3
  have h5 := mul_in (b := s + 2) (B := 8388609) h4 (by omega)
  have h6 := mul_in (a := h + 1) (b := h + 1) (A := 17) (B := 17) (by omega) (by omega)
  have h7 := mul_in h5 h6
  rw [w64 (64 * ((t + 1) * (t + 1) * (t + 1))) (by omega), w64 (64 * ((t + 1) * (t + 1) * (t + 1)) * (s + 2)) (by omega), w64 _ (by omega)]
  simp only [Int.mul_assoc]
/-- .. as the statement counts it. -/
theorem win_wrap' {s h t : Int} (hs : 1 ≤ s ∧ s ≤ 8388607) (hh : 1 ≤ h ∧ h ≤ 16) (ht : 1 ≤ t ∧ t ≤ 64) :
    wrap64 (wrap64 (wrap64 (wrap64 (wrap64 (wrap64 (64 * wrap64 (t + 1)) * wrap64 (t + 1)) * wrap64 (t + 1)) * wrap64 (s + 2)) * wrap64 (h + 1)) * wrap64 (h + 1)) = 64 * (t + 1) * (t + 1) * (t + 1) * (s + 2) * (h + 1) * (h + 1) := by
  rw [w64 (t + 1) (by omega), w64 (s + 2) (by omega), w64 (h + 1) (by omega)]
  have h1 := mul_in (a := 64) (b := t + 1) (A := 64) (B := 65) (by omega) (by omega)
  have h2 := mul_in (b := t + 1) (B := 65) h1 (by omega)
  have h3 := mul_in (b := t + 1) (B := 65) h2 (by omega)
  have h4 := mul_in (b := s + 2) (B := 8388609) h3 (by omega)
  have h5 := mul_in (b := h + 1) (B := 17) h4 (by omega)
  have h6 := mul_in (b := h + 1) (B := 17) h5 (by omega)
  rw [w64 (64 * (t + 1)) (by omega), w64 (64 * (t + 1) * (t + 1)) (by omega), w64 (64 * (t + 1) * (t + 1) * (t + 1)) (by omega), w64 (64 * (t + 1) * (t + 1) * (t + 1) * (s + 2)) (by omega), w64 (64 * (t + 1) * (t + 1) * (t + 1) * (s + 2) * (h + 1)) (by omega), w64 _ (by omega)]
end Go.Proofs.YtdknbegcflldjaaGreatDoor

/- What closes every law's row: it answers true, and below the old heap nothing has turned: so each argument reads as it did, whatever its type. -/
namespace Go.Proofs.YtdknbegcflldjaaGreatDoor
open Go.RowKit Go.WideShapes Go.ChangeShapes Go.ChangeAt
set_option maxRecDepth 100000

section
variable {H : Type} {enc : TypeId × Value → H} {P : Program}
/-- The arguments' places lie below the heap's end: each reads behind the call as it did. -/
theorem args_stay (hl : laidOutB P = true) {W W' : World} (hb : Below W.heap.size W W') : ∀ (ts : List TypeId) (_ : (ts.all fun t => P.readableRec t && decide (t < P.types.size)) = true) (vs : List Value) (ds : List (DataW H)) (ps : List MemPlace),
    DataW.TrodAll enc P W 0 (fun _ => true) true ts vs ds ps → (∀ x ∈ ps, x.block < W.heap.size) → DataW.TrodAll enc P W' 0 (fun b => decide (b < W.heap.size)) true ts vs ds ps := by
  intro ts
  induction ts with
  | nil =>
    intro _ vs ds ps h _
    obtain ⟨rfl, rfl, rfl⟩ := trodAll_nil h
    exact trodAll_mk0
  | cons t ts ih =>
    intro hts vs ds ps h hlt
    rw [List.all_cons, Bool.and_eq_true, Bool.and_eq_true] at hts
    obtain ⟨v, vs', d, ds', p, q, rfl, rfl, rfl, h0, r0⟩ := trodAll_cons h
    exact trodAll_cons_mk (Below.trod hl hts.1.1 (of_decide_eq_true hts.1.2) h0 hb fun x hx => hlt x (List.mem_append_left _ hx))
      (ih hts.2 _ _ _ r0 fun x hx => hlt x (List.mem_append_right _ hx))

/-- The post of a law that answered true. -/
theorem law_post {f : Func} {s : ChangeSpec} {W W' : World} {args : Array Value} {ds : List (DataW H)} {before : List MemPlace} {tb : TypeId}
    (hl : laidOutB P = true) (hts : (f.params.toList.all fun t => P.readableRec t && decide (t < P.types.size)) = true) (hres : f.resultTypes = #[tb]) (htb : P.underlying tb = some .bool)
    (hv : s.vars = []) (hfn : s.fn H (ds ++ []) = { results := [.lit (.bool true)], args := ds })
    (hW : DataW.Whole enc P f.params.toList s.vars false W args.toList ds [] before) (hb : Below W.heap.size W W') :
    s.post enc P f false true false false W args (.bool true) W' := by
  have hlt : ∀ p ∈ before, p.block < W.heap.size := fun p hp => hW.lt p hp
  have hW2 := hW
  obtain ⟨p, q, hA, hV, rfl, hz, hn⟩ := hW2
  have hq : q = [] := by rw [hv] at hV; exact (trodVars_none hV).2
  subst hq
  refine ⟨ds, [], _, [], p, [], hW, ?_, ?_, ?_, World.keptBut_mono (fun x hx => ⟨hx, Or.inr (Or.inl (by simpa using hx))⟩) (hb.frame (· ∈ p ++ [])), fun h => by cases h⟩
  · rw [hfn, hres]
    exact trodAll_mk1 (shut_bool htb _)
  · rw [hfn]
    exact args_stay hl hb _ hts _ _ _ hA fun x hx => hlt x (by simpa using hx)
  · rw [hfn, hv]
    exact rfl
end

theorem u64_in {n : Int} (h : (Lit.int .u64 n).wf = true) : 0 ≤ n ∧ n ≤ 18446744073709551615 := by
  simpa [Lit.wf, IntKind.min, IntKind.max, IntKind.signed, IntKind.bits] using h
theorem i64_in {n : Int} (h : (Lit.int .i64 n).wf = true) : -9223372036854775808 ≤ n ∧ n ≤ 9223372036854775807 := by
  simpa [Lit.wf, IntKind.min, IntKind.max, IntKind.signed, IntKind.bits] using h
end Go.Proofs.YtdknbegcflldjaaGreatDoor

/- Threads: what they are in memory; contracts of what they tell. -/
namespace Go.Proofs.YtdknbegcflldjaaGreatDoor
open Go.RowKit Go.Maps
set_option maxRecDepth 100000

theorem Blk.under {m n : Nat} {vs : List Value} {w w' : World} (h : Blk m w n vs) (hb : Below w.heap.size w w') : Blk m w' n vs := h.kept hb.size (hb.block _ h.1)
/-- A thread's cells. -/
def crv (k s b h l e r hs hi : Int) (q : Nat) : List Value := [.int .i64 k, .int .i64 s, .int .i64 b, .int .i64 h, .int .i64 l, .int .i64 e, .int .i64 r, .int .i64 hs, .int .i64 hi, .pointer (some ⟨q, 0, none⟩)]
def coreI (c : Nat) (k s b h l e r hs hi : Int) (q : Nat) : Item := boxI c (crv k s b h l e r hs hi q)
/-- An epoch, of a word. -/
def epI (x : Int) : Int := if x ≤ 9223372036854775807 then x else 0
def epB (x : Int) : Bool := decide (x ≤ 9223372036854775807)

section
variable {w : World} {c q : Nat} {k s b h l e r hs hi : Int}
end
theorem fint_any (x : Int) (hx : InU x) (w : World) : Calls Tryz.prog 226 #[.int .u64 x] w fun o w' => o = .returned (.tuple #[.int .i64 (epI x), .bool (epB x)]) ∧ w' = w := by
  unfold InU at hx
  by_cases h : x ≤ 9223372036854775807
  · have h1 : epI x = x := by simp [epI, h]
    have h2 : epB x = true := by simp [epB, h]
    have h3 : decide (9223372036854775807 < x) = false := by simp; omega
    have hw : wrap64 x = x := w64 _ (by omega)
    rw [h1, h2]
    go_enter Tryz.func226, Tryz.ntmps226
    go_wp2
    go_ret2
    exact ⟨rfl, rfl⟩
  · have h1 : epI x = 0 := by simp [epI, h]
    have h2 : epB x = false := by simp [epB, h]
    have h3 : decide (9223372036854775807 < x) = true := by simp; omega
    rw [h1, h2]
    go_enter Tryz.func226, Tryz.ntmps226
    go_wp2
    go_ret2
    exact ⟨rfl, rfl⟩
end Go.Proofs.YtdknbegcflldjaaGreatDoor

/- Threads: what they are in memory; contracts of what they tell. -/
namespace Go.Proofs.YtdknbegcflldjaaGreatDoor
open Go.RowKit Go.Maps
set_option maxRecDepth 100000

section
variable {w : World} {c q : Nat} {k s b h l e r hs hi : Int}
set_option maxHeartbeats 800000 in
theorem epoch_c (hb : Blk 0 w c (crv k s b h l e r hs hi q)) : Calls Tryz.prog 75 #[.pointer (some ⟨c, 0, none⟩)] w fun o w' => o = .returned (.int .i64 e) ∧ w' = w := by
  have r1 := hb.rule
  unfold crv at r1
  go_enter Tryz.func75, Tryz.ntmps75
  go_wp2
  go_ret
  exact ⟨rfl, rfl⟩
end
end Go.Proofs.YtdknbegcflldjaaGreatDoor

/- Threads: what they are in memory; contracts of what they tell. -/
namespace Go.Proofs.YtdknbegcflldjaaGreatDoor
open Go.RowKit Go.Maps
set_option maxRecDepth 100000

section
variable {w : World} {c q : Nat} {k s b h l e r hs hi : Int}
set_option maxHeartbeats 800000 in
theorem conf_c (hb : Blk 0 w c (crv k s b h l e r hs hi q)) : Calls Tryz.prog 82 #[.pointer (some ⟨c, 0, none⟩)] w fun o w' => o = .returned (.agg #[.int .i64 k, .int .i64 s, .int .i64 b, .int .i64 h, .int .i64 l]) ∧ Below w.heap.size w w' := by
  have r1 := cell_more hb.1 hb.rule
  unfold crv at r1
  go_enter Tryz.func82, Tryz.ntmps82
  go_wp2
  refine bodyPost_ret (v := .agg #[.int .i64 k, .int .i64 s, .int .i64 b, .int .i64 h, .int .i64 l]) (by simp [results, Tryz.results82, go_sem]) rfl ⟨rfl, ?_⟩
  exact (Below.refl _ _).alloc (Nat.le_refl _) _
end
end Go.Proofs.YtdknbegcflldjaaGreatDoor

/- Threads: what they are in memory; contracts of what they tell. -/
namespace Go.Proofs.YtdknbegcflldjaaGreatDoor
open Go.RowKit Go.Maps
set_option maxRecDepth 100000

section
variable {w : World} {c q : Nat} {k s b h l e r hs hi : Int}
set_option maxHeartbeats 800000 in
theorem queue_c (hb : Blk 0 w c (crv k s b h l e r hs hi q)) : Calls Tryz.prog 72 #[.pointer (some ⟨c, 0, none⟩)] w fun o w' => o = .returned (.pointer (some ⟨q, 0, none⟩)) ∧ w' = w := by
  have r1 := hb.rule
  unfold crv at r1
  go_enter Tryz.func72, Tryz.ntmps72
  go_wp2
  go_ret
  exact ⟨rfl, rfl⟩
end
theorem epochNil_c (w : World) : Calls Tryz.prog 75 #[.pointer none] w fun o w' => o = .returned (.int .i64 0) ∧ w' = w := by
  go_enter Tryz.func75, Tryz.ntmps75
  go_wp2
  go_ret
  exact ⟨rfl, rfl⟩
theorem queueNil_c (w : World) : Calls Tryz.prog 72 #[.pointer none] w fun o w' => o = .returned (.pointer none) ∧ w' = w := by
  go_enter Tryz.func72, Tryz.ntmps72
  go_wp2
  go_ret
  exact ⟨rfl, rfl⟩
theorem confNil_c (w : World) : Calls Tryz.prog 82 #[.pointer none] w fun o w' => o = .returned (.agg #[.int .i64 0, .int .i64 0, .int .i64 0, .int .i64 0, .int .i64 0]) ∧ Below w.heap.size w w' := by
  go_enter Tryz.func82, Tryz.ntmps82
  go_wp2
  exact bodyPost_ret (v := .agg #[.int .i64 0, .int .i64 0, .int .i64 0, .int .i64 0, .int .i64 0]) (by simp [results, Tryz.results82, go_sem]) rfl ⟨rfl, (Below.refl _ _).alloc (Nat.le_refl _) _⟩
theorem heldNil_c (w : World) : Calls Tryz.prog 74 #[.pointer none] w fun o w' => o = .returned (.tuple #[.agg #[.int .i64 0, .int .i64 0], .bool false]) ∧ Below w.heap.size w w' := by
  go_enter Tryz.func74, Tryz.ntmps74
  go_wp2
  exact bodyPost_ret (v := .tuple #[.agg #[.int .i64 0, .int .i64 0], .bool false]) (by simp [results, Tryz.results74, go_sem]) rfl ⟨rfl, (Below.refl _ _).alloc (Nat.le_refl _) _⟩
theorem holdNil_c (a d : Int) (w : World) : Calls Tryz.prog 313 #[.pointer none, .agg #[.int .i64 a, .int .i64 d]] w fun o w' => o = .returned (.int .i64 2) ∧ Below w.heap.size w w' := by
  go_enter Tryz.func313, Tryz.ntmps313
  go_wp2
  go_ret
  exact ⟨rfl, (Below.refl _ _).alloc (Nat.le_refl _) _⟩
theorem checkNil_c (v : Value) (w : World) : Calls Tryz.prog 156 #[.pointer none, v] w fun o w' => o = .returned (.tuple #[]) ∧ w' = w := by
  go_enter Tryz.func156, Tryz.ntmps156
  go_wp2
  go_end0
  exact ⟨rfl, rfl⟩
end Go.Proofs.YtdknbegcflldjaaGreatDoor

/- Shared cells among other things: the thing. -/
namespace Go.Proofs.YtdknbegcflldjaaGreatDoor
open Go.RowKit Go.Maps
set_option maxRecDepth 100000

/-- Shared cells, as a thing. -/
def cellI (c : Nat) (F : Nat → Prop) (f : Plc → Int) (q : Cnt) (n : Nat) : Item where
  F := F
  says := fun w => IsC w c F f q n
  loc := fun w1 w2 h hk hs => by
    obtain ⟨mp, hb, hm, hF⟩ := h
    exact ⟨mp, hb.kept hs (hk c ((hF c).2 (.inl rfl))), hm.kept fun b e => hk b ((hF b).2 (.inr e)), hF⟩
section
variable {w0 w w' : World} {L : List Item} {c n : Nat} {F F' : Nat → Prop} {f f' : Plc → Int} {q q' : Cnt} {m : Nat}
theorem Env.made (h : Env w0 L w) (hC : IsC w' c (fun k => k = c) f q n) (hc : w.heap.size ≤ c) (hb : Below w.heap.size w w') : Env w0 (cellI c (fun k => k = c) f q n :: L) w' :=
  h.add (cellI c (fun k => k = c) f q n) hb hC fun k hk => ⟨by have hk : k = c := hk; omega, hC.lt k hk⟩
theorem Env.cell (h : Env w0 L w) (i : Nat) (hi : L[i]? = some (cellI c F f q n)) : IsC w c F f q n := h.get i hi
theorem Env.turn (h : Env w0 L w) (i : Nat) (hi : L[i]? = some (cellI c F f q n)) (hC : IsC w' c F' f' q' m) (hs : Step F F' w w') : Env w0 (L.set i (cellI c F' f' q' m)) w' :=
  h.step i (cellI c F' f' q' m) hi hs hC hC.lt
end

theorem upd_upd (f : Plc → Int) (x : Plc) (a b : Int) : upd (upd f x a) x b = upd f x b := by funext y; unfold upd; split <;> rfl
theorem Env.made2 {w0 w w' : World} {L : List Item} {c n : Nat} {F : Nat → Prop} {f : Plc → Int} {q : Cnt} (h : Env w0 L w) (hC : IsC w' c F f q n) (hF : ∀ k, F k → w.heap.size ≤ k) (hb : Below w.heap.size w w') : Env w0 (cellI c F f q n :: L) w' :=
  h.add (cellI c F f q n) hb hC fun k hk => ⟨hF k hk, hC.lt k hk⟩
end Go.Proofs.YtdknbegcflldjaaGreatDoor

/- The plain world: contracts of its accesses: each is the cells' own, among whatever other things there are. -/
namespace Go.Proofs.YtdknbegcflldjaaGreatDoor
open Go.RowKit Go.Maps
set_option maxRecDepth 100000

theorem wset {L : List Item} {i j : Nat} {a b : Item} (hij : j ≠ i) (h : L[i]? = some a) : (L.set j b)[i]? = some a := by rw [List.getElem?_set_ne hij, h]
theorem Env.put3 {w0 w : World} {L : List Item} (h : Env w0 L w) (i : Nat) {B : Nat} {a b c : Value} (hi : L[i]? = some (boxI B [a, b, c])) (u v t : Value) :
    Env w0 (L.set i (boxI B [u, v, t])) (((w.setCell ⟨B, 0, none⟩ u).setCell ⟨B, 1, none⟩ v).setCell ⟨B, 2, none⟩ t) := by
  have hl : i < L.length := (List.getElem?_eq_some_iff.1 hi).1
  have h1 := h.put i hi (j := 0) (by simp) u
  have h2 := h1.put i (by rw [List.getElem?_set_self hl]) (j := 1) (by simp) v
  have h3 := h2.put i (by rw [List.getElem?_set_self (by simpa using hl)]) (j := 2) (by simp) t
  simpa using h3
theorem Env.put5 {w0 w : World} {L : List Item} (h : Env w0 L w) (i : Nat) {B : Nat} {a b c d e : Value} (hi : L[i]? = some (boxI B [a, b, c, d, e])) (u v t x y : Value) :
    Env w0 (L.set i (boxI B [u, v, t, x, y])) (((((w.setCell ⟨B, 0, none⟩ u).setCell ⟨B, 1, none⟩ v).setCell ⟨B, 2, none⟩ t).setCell ⟨B, 3, none⟩ x).setCell ⟨B, 4, none⟩ y) := by
  have hl : i < L.length := (List.getElem?_eq_some_iff.1 hi).1
  have h1 := h.put i hi (j := 0) (by simp) u
  have h2 := h1.put i (by rw [List.getElem?_set_self hl]) (j := 1) (by simp) v
  have h3 := h2.put i (by rw [List.getElem?_set_self (by simpa using hl)]) (j := 2) (by simp) t
  have h4 := h3.put i (by rw [List.getElem?_set_self (by simpa using hl)]) (j := 3) (by simp) x
  have h5 := h4.put i (by rw [List.getElem?_set_self (by simpa using hl)]) (j := 4) (by simp) y
  simpa using h5
/-- A world at p: a pointer to its cells. -/
def wbox (p c : Nat) : Item := boxI p [.pointer (some ⟨c, 0, none⟩)]

theorem Env.wblk {w0 w : World} {L : List Item} {p c : Nat} (h : Env w0 L w) (i : Nat) (hi : L[i]? = some (wbox p c)) : Blk 0 w p [.pointer (some ⟨c, 0, none⟩)] := h.get i hi
theorem kept_any {w : World} {p c : Nat} (hb : Blk 0 w p [.pointer (some ⟨c, 0, none⟩)]) :
    Calls Tryz.prog 69 #[.pointer (some ⟨p, 0, none⟩)] w fun e w' => e = .returned (.pointer (some ⟨c, 0, none⟩)) ∧ w' = w := by
  have r := hb.rule
  go_enter Tryz.func69, Tryz.ntmps69
  go_wp2
  go_ret
  exact ⟨rfl, rfl⟩

section
variable {w0 w : World} {L : List Item} {p c n : Nat} {F : Nat → Prop} {f : Plc → Int} {q : Cnt}

set_option maxHeartbeats 1600000 in
theorem load_w (x y z d : Int) (hx : Wf (x, y, z)) (i j : Nat) (hij : j ≠ i) (hE : Env w0 L w) (hi : L[i]? = some (wbox p c)) (hj : L[j]? = some (cellI c F f q n)) :
    Calls Tryz.prog 359 #[.pointer (some ⟨p, 0, none⟩), .agg #[.int .i64 x, .int .i64 y, .int .i64 z, .int .i64 d]] w fun e w' => e = .returned (.agg #[.int .u64 (f (x, y, z)), .int .i64 0, .bool false]) ∧ Env w0 (L.set j (cellI c F f { q with l := wrap64 (q.l + 1) } n)) w' := by
  replace hE := (hE.box w.heap.size rfl [.int .i64 x, .int .i64 y, .int .i64 z, .int .i64 d] 185).box (w.heap.size + 1) (by simp) [.int .u64 0, .int .i64 0, .bool false] 180
  have hi' : (boxI (w.heap.size + 1) [.int .u64 0, .int .i64 0, .bool false] :: boxI w.heap.size [.int .i64 x, .int .i64 y, .int .i64 z, .int .i64 d] :: L)[i + 2]? = some (wbox p c) := hi
  have hj' : (boxI (w.heap.size + 1) [.int .u64 0, .int .i64 0, .bool false] :: boxI w.heap.size [.int .i64 x, .int .i64 y, .int .i64 z, .int .i64 d] :: L)[j + 2]? = some (cellI c F f q n) := hj
  have HX := Lib.hid hx
  clear hx
  go_enter Tryz.func359, Tryz.ntmps359
  go_wp2_with fail
  generalize w.heap.size + 1 = Y at *
  generalize w.heap.size = X at *
  refine Ord.wp_chain [4, 6] (fun w' => Blk 0 w' X [.int .i64 x, .int .i64 y, .int .i64 z, .int .i64 d] ∧ Blk 0 w' p [.pointer (some ⟨c, 0, none⟩)]) (Stage [Env w0 (boxI Y [.int .u64 0, .int .i64 0, .bool false] :: boxI X [.int .i64 x, .int .i64 y, .int .i64 z, .int .i64 d] :: L), Env w0 (boxI Y [.int .u64 0, .int .i64 0, .bool false] :: boxI X [.int .i64 x, .int .i64 y, .int .i64 z, .int .i64 d] :: L.set j (cellI c F f { q with l := wrap64 (q.l + 1) } n)), Env w0 (boxI Y [.int .u64 (f (x, y, z)), .int .i64 0, .bool false] :: boxI X [.int .i64 x, .int .i64 y, .int .i64 z, .int .i64 d] :: L.set j (cellI c F f { q with l := wrap64 (q.l + 1) } n))]) (by kernel_rfl) (by kernel_rfl) (by kernel_rfl) ⟨hE.drew.get 1 rfl, hE.drew.get (i + 2) hi'⟩ ⟨_, rfl, hE.drew⟩ (fun hT => ?_)
  have hT9 := Lib.hid hT
  clear hT
  repeat (first
    | (refine Ord.ch_value (v := ?_) hT9.out (by decide) (by rfl) ?_ ?_; rotate_left; (focus (intro w5 hS; have r := hS.1.rule; go_simp <;> with_reducible rfl)); (try simp only [Act.put, List.setIfInBounds_toArray, List.set_cons_zero, List.set_cons_succ]))
    | (refine Ord.ch_off hT9.out (by decide) (by rfl) ?_; (try simp only [Act.put, List.setIfInBounds_toArray, List.set_cons_zero, List.set_cons_succ]))
    | (refine Ord.ch_call (v := ?_) (f := ?_) (args := ?_) hT9.out (by decide) (by rfl) ?_ ?_ ?_; rotate_left 3; (focus (intro w5 hS; have r := hS.1.rule; go_simp; constructor <;> with_reducible rfl)); (focus (intro w5 hS; (first | (with_reducible refine (kept_any hS.2).mono ?_; rintro e w6 ⟨rfl, rfl⟩; constructor; with_reducible rfl; exact ⟨hS, fun _ h => h⟩)))); (try simp only [Act.put, List.setIfInBounds_toArray, List.set_cons_zero, List.set_cons_succ])))
  refine Ord.ch_turn (v := .int .u64 (f (x, y, z))) 0 hT9.out rfl (by decide) (Or.inl rfl) (by rfl) ?_ ?_
  · rintro w5 hC5 ⟨P5, hP5, hA5⟩
    cases hP5
    go_simp
    simp only [Ord.LandsIn]
    refine (load_any x y z HX.out (hA5.cell (j + 2) hj')).mono ?_
    rintro e w6 ⟨rfl, hC, hs⟩
    have hE6 := hA5.turn (j + 2) hj' hC hs
    exact ⟨rfl, ⟨hE6.get 1 rfl, hE6.get (i + 2) (wset (j := j + 2) (by omega) hi')⟩, _, rfl, hE6⟩
  (try simp only [Act.put, List.setIfInBounds_toArray, List.set_cons_zero, List.set_cons_succ])
  repeat (first
    | (refine Ord.ch_value (v := ?_) hT9.out (by decide) (by rfl) ?_ ?_; rotate_left; (focus (intro w5 hS; skip; go_simp <;> with_reducible rfl)); (try simp only [Act.put, List.setIfInBounds_toArray, List.set_cons_zero, List.set_cons_succ]))
    | (refine Ord.ch_off hT9.out (by decide) (by rfl) ?_; (try simp only [Act.put, List.setIfInBounds_toArray, List.set_cons_zero, List.set_cons_succ])))
  refine Ord.ch_turn (v := undef) 1 hT9.out rfl (by decide) (Or.inr ⟨_, rfl, by kernel_rfl⟩) (by rfl) ?_ ?_
  · rintro w5 hC5 ⟨P5, hP5, hA5⟩
    cases hP5
    have r := hA5.rule 0 rfl
    have f := hA5.thaw 0 rfl
    have f0 := f 0 (by simp)
    have f1 := f 1 (by simp)
    have f2 := f 2 (by simp)
    clear f
    go_simp
    have hE6 := hA5.put3 0 rfl (.int .u64 (f (x, y, z))) (.int .i64 0) (.bool false)
    exact ⟨rfl, ⟨hE6.get 1 rfl, hE6.get (i + 2) (wset (j := j + 2) (by omega) hi')⟩, _, rfl, hE6⟩
  (try simp only [Act.put, List.setIfInBounds_toArray, List.set_cons_zero, List.set_cons_succ])
  repeat (first
    | (refine Ord.ch_value (v := ?_) hT9.out (by decide) (by rfl) ?_ ?_; rotate_left; (focus (intro w5 hS; skip; go_simp <;> with_reducible rfl)); (try simp only [Act.put, List.setIfInBounds_toArray, List.set_cons_zero, List.set_cons_succ]))
    | (refine Ord.ch_off hT9.out (by decide) (by rfl) ?_; (try simp only [Act.put, List.setIfInBounds_toArray, List.set_cons_zero, List.set_cons_succ])))
  refine Ord.InText.nil fun w5 hS => ?_
  clear hT9
  obtain ⟨hC9, hA9⟩ := Ord.chain_end hS
  clear hS
  obtain ⟨P9, hP9, hA9⟩ := hA9
  cases hP9
  have q9 := hA9.rule 0 rfl
  go_wp2
  exact bodyPost_ret (v := .agg #[.int .u64 (f (x, y, z)), .int .i64 0, .bool false]) (by simp [results, Tryz.results359, go_sem, q9]) rfl ⟨rfl, hA9.sub (.cons _ (.cons _ (List.Sublist.refl _)))⟩
set_option maxHeartbeats 1600000 in
theorem store_w (x y z d v e : Int) (b : Bool) (hx : Wf (x, y, z)) (hv : InU v) (hn : n < maxLen) (i j : Nat) (hij : j ≠ i) (hE : Env w0 L w) (hi : L[i]? = some (wbox p c)) (hj : L[j]? = some (cellI c F f q n)) :
    Calls Tryz.prog 360 #[.pointer (some ⟨p, 0, none⟩), .agg #[.int .i64 x, .int .i64 y, .int .i64 z, .int .i64 d], .agg #[.int .u64 v, .int .i64 e, .bool b]] w fun e w' => e = .returned (.tuple #[]) ∧ ∃ F', Env w0 (L.set j (cellI c F' (upd f (x, y, z) v) { q with s := wrap64 (q.s + 1) } (n + 1))) w' := by
  replace hE := ((hE.box w.heap.size rfl [.int .i64 x, .int .i64 y, .int .i64 z, .int .i64 d] 185).box (w.heap.size + 1) (by simp) [.int .u64 v, .int .i64 e, .bool b] 180)
  have hi' : (boxI (w.heap.size + 1) [.int .u64 v, .int .i64 e, .bool b] :: boxI (w.heap.size) [.int .i64 x, .int .i64 y, .int .i64 z, .int .i64 d] :: L)[i + 2]? = some (wbox p c) := hi
  have hj' : (boxI (w.heap.size + 1) [.int .u64 v, .int .i64 e, .bool b] :: boxI (w.heap.size) [.int .i64 x, .int .i64 y, .int .i64 z, .int .i64 d] :: L)[j + 2]? = some (cellI c F f q n) := hj
  have HX := Lib.hid hx
  clear hx
  go_enter Tryz.func360, Tryz.ntmps360
  go_wp2_with fail
  generalize w.heap.size + 1 = Y at *
  generalize w.heap.size = X at *
  refine Ord.wp_chain [6] (fun w' => Blk 0 w' X [.int .i64 x, .int .i64 y, .int .i64 z, .int .i64 d] ∧ Blk 0 w' Y [.int .u64 v, .int .i64 e, .bool b] ∧ Blk 0 w' p [.pointer (some ⟨c, 0, none⟩)]) (Stage [Env w0 (boxI Y [.int .u64 v, .int .i64 e, .bool b] :: boxI X [.int .i64 x, .int .i64 y, .int .i64 z, .int .i64 d] :: L), fun w' => ∃ F', Env w0 (boxI Y [.int .u64 v, .int .i64 e, .bool b] :: boxI X [.int .i64 x, .int .i64 y, .int .i64 z, .int .i64 d] :: L.set j (cellI c F' (upd f (x, y, z) v) { q with s := wrap64 (q.s + 1) } (n + 1))) w']) (by kernel_rfl) (by kernel_rfl) (by kernel_rfl) ⟨hE.drew.get 1 rfl, hE.drew.get 0 rfl, hE.drew.get (i + 2) hi'⟩ ⟨_, rfl, hE.drew⟩ (fun hT => ?_)
  have hT9 := Lib.hid hT
  clear hT
  repeat (first
    | (refine Ord.ch_value (v := ?_) hT9.out (by decide) (by rfl) ?_ ?_; rotate_left; (focus (intro w5 hS; have r0 := hS.1.rule; have r1 := hS.2.1.rule; go_simp <;> with_reducible rfl)); (try simp only [Act.put, List.setIfInBounds_toArray, List.set_cons_zero, List.set_cons_succ]))
    | (refine Ord.ch_off hT9.out (by decide) (by rfl) ?_; (try simp only [Act.put, List.setIfInBounds_toArray, List.set_cons_zero, List.set_cons_succ]))
    | (refine Ord.ch_call (v := ?_) (f := ?_) (args := ?_) hT9.out (by decide) (by rfl) ?_ ?_ ?_; rotate_left 3; (focus (intro w5 hS; have r0 := hS.1.rule; have r1 := hS.2.1.rule; go_simp; constructor <;> with_reducible rfl)); (focus (intro w5 hS; (first | (with_reducible refine (kept_any hS.2.2).mono ?_; rintro e w6 ⟨rfl, rfl⟩; constructor; with_reducible rfl; exact ⟨hS, fun _ h => h⟩)))); (try simp only [Act.put, List.setIfInBounds_toArray, List.set_cons_zero, List.set_cons_succ])))
  refine Ord.ch_turn (v := .tuple #[]) 0 hT9.out rfl (by decide) (Or.inl rfl) (by rfl) ?_ ?_
  · rintro w5 hC5 ⟨P5, hP5, hA5⟩
    cases hP5
    go_simp
    simp only [Ord.LandsIn]
    refine (store_any x y z v HX.out hv hn (hA5.cell (j + 2) hj')).mono ?_
    rintro e w6 ⟨rfl, F6, hC, hs⟩
    have hE6 := hA5.turn (j + 2) hj' hC hs
    exact ⟨rfl, ⟨hE6.get 1 rfl, hE6.get 0 rfl, hE6.get (i + 2) (wset (j := j + 2) (by omega) hi')⟩, _, rfl, F6, hE6⟩
  (try simp only [Act.put, List.setIfInBounds_toArray, List.set_cons_zero, List.set_cons_succ])
  repeat (first
    | (refine Ord.ch_value (v := ?_) hT9.out (by decide) (by rfl) ?_ ?_; rotate_left; (focus (intro w5 hS; skip; go_simp <;> with_reducible rfl)); (try simp only [Act.put, List.setIfInBounds_toArray, List.set_cons_zero, List.set_cons_succ]))
    | (refine Ord.ch_off hT9.out (by decide) (by rfl) ?_; (try simp only [Act.put, List.setIfInBounds_toArray, List.set_cons_zero, List.set_cons_succ])))
  refine Ord.InText.nil fun w5 hS => ?_
  clear hT9
  obtain ⟨hC9, hA9⟩ := Ord.chain_end hS
  clear hS
  obtain ⟨P9, hP9, hA9⟩ := hA9
  cases hP9
  obtain ⟨F9, hA9⟩ := hA9
  clear hC9
  go_wp2
  go_end0
  exact ⟨rfl, F9, hA9.sub (.cons _ (.cons _ (List.Sublist.refl _)))⟩
theorem new_w (hE : Env w0 L w) : Calls Tryz.prog 31 #[] w fun e w' => ∃ p c, e = .returned (.pointer (some ⟨p, 0, none⟩)) ∧ Env w0 (wbox p c :: cellI c (fun k => k = c) (fun _ => 0) ⟨0, 0, 0, 0, 0⟩ 0 :: L) w' ∧ Below w.heap.size w w' := by
  go_enter Tryz.func31, Tryz.ntmps31
  go_wp2_with fail
  refine (new_any w).mono ?_
  rintro e w1 ⟨rfl, hC, hb⟩
  replace hE := (hE.made hC (Nat.le_refl _) hb).box w1.heap.size rfl [.pointer (some ⟨w.heap.size, 0, none⟩)] 163
  go_wp2
  go_ret
  exact ⟨_, _, rfl, hE, hb.alloc hb.size _⟩
end
end Go.Proofs.YtdknbegcflldjaaGreatDoor

/- Contracts of layer 5: places that are made, of few functions. -/
namespace Go.Proofs.YtdknbegcflldjaaGreatDoor
open Go.RowKit
set_option maxRecDepth 100000

set_option maxHeartbeats 400000 in
theorem epoch_any (w : World) : Calls Tryz.prog 90 #[] w fun e w' => e = .returned (.agg #[.int .i64 1, .int .i64 0, .int .i64 0]) ∧ Below w.heap.size w w' := by
  go_enter Tryz.func90, Tryz.ntmps90
  go_wp2
  exact bodyPost_ret (v := .agg #[.int .i64 1, .int .i64 0, .int .i64 0]) (by simp [results, Tryz.results90, go_sem]) rfl ⟨rfl, (Below.refl _ _).alloc (Nat.le_refl _) _⟩
end Go.Proofs.YtdknbegcflldjaaGreatDoor

/- The plain world: it starts; it is awake. -/
namespace Go.Proofs.YtdknbegcflldjaaGreatDoor
open Go.RowKit Go.Maps
set_option maxRecDepth 100000

/-- The deferred recover, where nothing panicked. -/
theorem caught_none (w : World) : CallsD Tryz.prog 89 #[] .returning w fun e u' w' => u' = .returning ∧ e = .returned (.tuple #[]) ∧ w' = w := by
  refine callsD_of_wpS Tryz.func89 rfl fun c₀ cs hu => ?_
  apply wpS_region
  cases c₀
  simp_all [wpOpsS, go_sem, recoverD, Tryz.ntmps89, Exit.thenS, bodyPostS, results, Tryz.results89]

theorem method_store (k p : Nat) (w : World) : (method (k + 1) 26 (.pointer (some ⟨p, 0, none⟩)) "Store").run Tryz.prog w = .ok (360, .pointer (some ⟨p, 0, none⟩)) w := by kernel_rfl

section
variable {w0 w : World} {L : List Item} {p c n : Nat} {F : Nat → Prop} {f : Plc → Int} {q : Cnt}
set_option maxHeartbeats 1600000 in
theorem start_w (i j : Nat) (hij : j ≠ i) (hn : n < maxLen) (hE : Env w0 L w) (hi : L[i]? = some (wbox p c)) (hj : L[j]? = some (cellI c F f q n)) :
    Calls Tryz.prog 48 #[.iface 26 (.pointer (some ⟨p, 0, none⟩))] w fun e w' => e = .returned (.tuple #[]) ∧ ∃ F', Env w0 (L.set j (cellI c F' (upd f (1, 0, 0) 1) { q with s := wrap64 (q.s + 1) } (n + 1))) w' := by
  have hmf : ∀ (fn : Fn) (first cap : Array Value) (w : World), (Instr.makeFunc fn first cap).run Tryz.prog w = .ok (.func fn first cap) w := fun _ _ _ _ => rfl
  go_enter_defers Tryz.func48, Tryz.ntmps48
  go_wp2_with fail
  refine Ord.wp_chain [6] (fun _ => True) (fun k w' => ∃ F', Env w0 (if k = 0 then L else L.set j (cellI c F' (upd f (1, 0, 0) 1) { q with s := wrap64 (q.s + 1) } (n + 1))) w') (by kernel_rfl) (by kernel_rfl) (by kernel_rfl) trivial ⟨F, hE.drew⟩ (fun hT => ?_)
  have hT9 := Lib.hid hT
  clear hT
  repeat (first
    | (refine Ord.ch_value (v := ?_) hT9.out (by decide) (by rfl) ?_ ?_; rotate_left; (focus (intro w5 hS; skip; go_simp <;> with_reducible rfl)); (try simp only [Act.put, List.setIfInBounds_toArray, List.set_cons_zero, List.set_cons_succ]))
    | (refine Ord.ch_off hT9.out (by decide) (by rfl) ?_; (try simp only [Act.put, List.setIfInBounds_toArray, List.set_cons_zero, List.set_cons_succ]))
    | (refine Ord.ch_call (v := ?_) (f := ?_) (args := ?_) hT9.out (by decide) (by rfl) ?_ ?_ ?_; rotate_left 3; (focus (intro w5 hS; skip; go_simp; constructor <;> with_reducible rfl)); (focus (intro w5 hS; (first | (with_reducible refine (epoch_any _).mono ?_; rintro e w6 ⟨rfl, hb6⟩; constructor; with_reducible rfl; exact ⟨trivial, fun k h => h.elim fun F' h => ⟨F', h.over hb6⟩⟩)))); (try simp only [Act.put, List.setIfInBounds_toArray, List.set_cons_zero, List.set_cons_succ])))
  refine Ord.ch_turn (v := .tuple #[]) 0 hT9.out rfl (by decide) (Or.inl rfl) (by rfl) ?_ ?_
  · rintro w5 hC5 ⟨F5, hA5⟩
    simp only [if_true] at hA5
    go_simp
    rw [method_store]
    simp only [Result.andThen_ok]
    go_simp
    simp only [Ord.LandsIn]
    refine (store_w 1 0 0 0 1 0 false (by unfold Wf In64; simp) (by unfold InU; simp) hn i j hij hA5 hi hj).mono ?_
    rintro e w6 ⟨rfl, F6, hE6⟩
    exact ⟨rfl, F6, hE6⟩
  (try simp only [Act.put, List.setIfInBounds_toArray, List.set_cons_zero, List.set_cons_succ])
  repeat (first
    | (refine Ord.ch_value (v := ?_) hT9.out (by decide) (by rfl) ?_ ?_; rotate_left; (focus (intro w5 hS; skip; go_simp <;> with_reducible rfl)); (try simp only [Act.put, List.setIfInBounds_toArray, List.set_cons_zero, List.set_cons_succ]))
    | (refine Ord.ch_off hT9.out (by decide) (by rfl) ?_; (try simp only [Act.put, List.setIfInBounds_toArray, List.set_cons_zero, List.set_cons_succ])))
  refine Ord.InText.nil fun w5 hS => ?_
  clear hT9
  obtain ⟨hC9, hA9⟩ := Ord.chain_end hS
  clear hS
  obtain ⟨F9, hA9⟩ := hA9
  simp only [List.length_cons, List.length_nil, Nat.zero_add, Nat.one_ne_zero, if_false] at hA9
  go_wp2
  refine leaves_cons (f := 89) (args := #[]) (by simp) (by simp [go_sem]) ?_
  refine (caught_none _).mono ?_
  rintro e u' w'' ⟨rfl, rfl, rfl⟩
  exact ⟨_, results_none rfl _ _ _, rfl, F9, hA9⟩
end
theorem start_nil (w : World) : Calls Tryz.prog 48 #[.nilIface] w fun e w' => e = .returned (.tuple #[]) ∧ w' = w := by
  go_enter_defers Tryz.func48, Tryz.ntmps48
  go_wp2
  exact ⟨_, results_none rfl _ _ _, rfl, rfl⟩
end Go.Proofs.YtdknbegcflldjaaGreatDoor

/- Threads: contracts of Held; of the reading of the epoch, Check, Valid. -/
namespace Go.Proofs.YtdknbegcflldjaaGreatDoor
open Go.RowKit Go.Maps
set_option maxRecDepth 100000

section
variable {w : World} {c q : Nat} {k s b h l e r hs hi : Int}
end

theorem set_same {α : Type _} {L : List α} {m : Nat} {a : α} (h : L[m]? = some a) : L.set m a = L := by
  obtain ⟨hl, rfl⟩ := List.getElem?_eq_some_iff.1 h
  exact List.set_getElem_self hl
theorem read_caught (w : World) : CallsD Tryz.prog 225 #[] .returning w fun e u' w' => u' = .returning ∧ e = .returned (.tuple #[]) ∧ w' = w := by
  refine callsD_of_wpS Tryz.func225 rfl fun c₀ cs hu => ?_
  apply wpS_region
  cases c₀
  simp_all [wpOpsS, go_sem, recoverD, Tryz.ntmps225, Exit.thenS, bodyPostS, results, Tryz.results225]
theorem method_load (k p : Nat) (w : World) : (method (k + 1) 26 (.pointer (some ⟨p, 0, none⟩)) "Load").run Tryz.prog w = .ok (359, .pointer (some ⟨p, 0, none⟩)) w := by kernel_rfl
theorem val_word (v : World) (a b : Int) (d : Bool) : (Instr.field 180 (.agg #[.int .u64 a, .int .i64 b, .bool d]) 0).run Tryz.prog v = .ok (.int .u64 a) v := by kernel_rfl

section
variable {w0 w : World} {L : List Item} {p c n : Nat} {F : Nat → Prop} {f : Plc → Int} {q : Cnt}
set_option maxHeartbeats 1600000 in
theorem read_w (x : Int) (hfx : f (1, 0, 0) = x) (i j : Nat) (hij : j ≠ i) (hE : Env w0 L w) (hi : L[i]? = some (wbox p c)) (hj : L[j]? = some (cellI c F f q n)) :
    Calls Tryz.prog 193 #[.iface 26 (.pointer (some ⟨p, 0, none⟩))] w fun o w' => o = .returned (.tuple #[.int .i64 (epI x), .bool (epB x)]) ∧ Env w0 (L.set j (cellI c F f { q with l := wrap64 (q.l + 1) } n)) w' := by
  have hxu : InU x := by rw [← hfx]; exact (hE.cell j hj).words.1 _
  have hmf : ∀ (fn : Fn) (first cap : Array Value) (w : World), (Instr.makeFunc fn first cap).run Tryz.prog w = .ok (.func fn first cap) w := fun _ _ _ _ => rfl
  go_enter_defers Tryz.func193, Tryz.ntmps193
  go_wp2_with fail
  refine Ord.wp_chain [5] (fun _ => True) (fun k w' => Env w0 (if k = 0 then L else L.set j (cellI c F f { q with l := wrap64 (q.l + 1) } n)) w') (by kernel_rfl) (by kernel_rfl) (by kernel_rfl) trivial hE.drew (fun hT => ?_)
  have hT9 := Lib.hid hT
  clear hT
  repeat (first
    | (refine Ord.ch_value (v := ?_) hT9.out (by decide) (by rfl) ?_ ?_; rotate_left; (focus (intro w5 hS; skip; go_simp <;> with_reducible rfl)); (try simp only [Act.put, List.setIfInBounds_toArray, List.set_cons_zero, List.set_cons_succ]))
    | (refine Ord.ch_off hT9.out (by decide) (by rfl) ?_; (try simp only [Act.put, List.setIfInBounds_toArray, List.set_cons_zero, List.set_cons_succ]))
    | (refine Ord.ch_call (v := ?_) (f := ?_) (args := ?_) hT9.out (by decide) (by rfl) ?_ ?_ ?_; rotate_left 3; (focus (intro w5 hS; skip; go_simp; constructor <;> with_reducible rfl)); (focus (intro w5 hS; (first | (with_reducible refine (epoch_any _).mono ?_; rintro e w6 ⟨rfl, hb6⟩; constructor; with_reducible rfl; exact ⟨trivial, fun k h => h.over hb6⟩)))); (try simp only [Act.put, List.setIfInBounds_toArray, List.set_cons_zero, List.set_cons_succ])))
  refine Ord.ch_turn (v := .agg #[.int .u64 x, .int .i64 0, .bool false]) 0 hT9.out rfl (by decide) (Or.inl rfl) (by rfl) ?_ ?_
  · rintro w5 hC5 hA5
    simp only [if_true] at hA5
    go_simp
    rw [method_load]
    simp only [Result.andThen_ok]
    go_simp
    simp only [Ord.LandsIn]
    have hl := load_w 1 0 0 0 (by unfold Wf In64; simp) i j hij hA5 hi hj
    rw [hfx] at hl
    refine hl.mono ?_
    rintro e w6 ⟨rfl, hE6⟩
    exact ⟨rfl, hE6⟩
  (try simp only [Act.put, List.setIfInBounds_toArray, List.set_cons_zero, List.set_cons_succ])
  have hvw := val_word
  repeat (first
    | (refine Ord.ch_value (v := ?_) hT9.out (by decide) (by rfl) ?_ ?_; rotate_left; (focus (intro w5 hS; skip; go_simp <;> with_reducible rfl)); (try simp only [Act.put, List.setIfInBounds_toArray, List.set_cons_zero, List.set_cons_succ]))
    | (refine Ord.ch_off hT9.out (by decide) (by rfl) ?_; (try simp only [Act.put, List.setIfInBounds_toArray, List.set_cons_zero, List.set_cons_succ]))
    | (refine Ord.ch_call (v := ?_) (f := ?_) (args := ?_) hT9.out (by decide) (by rfl) ?_ ?_ ?_; rotate_left 3; (focus (intro w5 hS; skip; go_simp; constructor <;> with_reducible rfl)); (focus (intro w5 hS; (first | (with_reducible refine (fint_any x hxu _).mono ?_; rintro e w6 ⟨rfl, rfl⟩; constructor; with_reducible rfl; exact ⟨hS, fun _ h => h⟩)))); (try simp only [Act.put, List.setIfInBounds_toArray, List.set_cons_zero, List.set_cons_succ])))
  refine Ord.InText.nil fun w5 hS => ?_
  clear hT9
  obtain ⟨hC9, hA9⟩ := Ord.chain_end hS
  clear hS
  simp only [List.length_cons, List.length_nil, Nat.zero_add, Nat.one_ne_zero, if_false] at hA9
  go_wp2
  refine leaves_cons (f := 225) (args := #[]) (by simp) (by simp [go_sem]) ?_
  refine (read_caught _).mono ?_
  rintro e u' w'' ⟨rfl, rfl, rfl⟩
  exact ⟨.tuple #[.int .i64 (epI x), .bool (epB x)], by simp [results, Tryz.results193, go_sem], rfl, hA9⟩

variable {cc qq : Nat} {k s b h l e r hs hh : Int}
set_option maxHeartbeats 1600000 in
theorem check_w (x : Int) (hfx : f (1, 0, 0) = x) (m i j : Nat) (hij : j ≠ i) (hjm : j ≠ m) (hE : Env w0 L w) (hm : L[m]? = some (coreI cc k s b h l e r hs hh qq)) (hi : L[i]? = some (wbox p c)) (hj : L[j]? = some (cellI c F f q n)) :
    Calls Tryz.prog 156 #[.pointer (some ⟨cc, 0, none⟩), .iface 26 (.pointer (some ⟨p, 0, none⟩))] w fun o w' => o = .returned (.tuple #[]) ∧ Env w0 ((L.set j (cellI c F f { q with l := wrap64 (q.l + 1) } n)).set m (coreI cc k s b h l (epI x) r hs hh qq)) w' := by
  go_enter Tryz.func156, Tryz.ntmps156
  go_wp2_with fail
  refine (read_w x hfx i j hij hE hi hj).mono ?_
  rintro o w1 ⟨rfl, hE1⟩
  have hm1 := wset (b := cellI c F f { q with l := wrap64 (q.l + 1) } n) hjm hm
  have r1 := hE1.rule m hm1
  unfold crv at r1
  have f1 := hE1.thaw m hm1 5 (by simp [crv])
  go_wp2_with fail
  go_end0
  exact ⟨rfl, hE1.put m hm1 (j := 5) (by simp [crv]) (.int .i64 (epI x))⟩

end
end Go.Proofs.YtdknbegcflldjaaGreatDoor

/- Threads: contracts of Held; of the reading of the epoch, Check, Valid. -/
namespace Go.Proofs.YtdknbegcflldjaaGreatDoor
open Go.RowKit Go.Maps
set_option maxRecDepth 100000

section
variable {w : World} {c q : Nat} {k s b h l e r hs hi : Int}
set_option maxHeartbeats 1600000 in
theorem held_c (hb : Blk 0 w c (crv k s b h l e r hs hi q)) : Calls Tryz.prog 74 #[.pointer (some ⟨c, 0, none⟩)] w fun o w' => o = .returned (.tuple #[.agg #[.int .i64 hs, .int .i64 hi], .bool (hs != 0)]) ∧ Below w.heap.size w w' := by
  have hcl := hb.1
  have hb1 := hb.more (.cells #[.int .i64 0, .int .i64 0] 136)
  have hB := Blk.new 0 w [.int .i64 0, .int .i64 0] 136
  have hE := (Below.refl w.heap.size w).alloc (Nat.le_refl _) (.cells [.int .i64 0, .int .i64 0].toArray 136)
  have hs1 : w.heap.size + 1 ≤ (w.alloc (.cells [.int .i64 0, .int .i64 0].toArray 136)).heap.size := by simp
  unfold crv at hb1
  clear hb
  go_enter Tryz.func74, Tryz.ntmps74
  go_wp2_with fail
  refine Ord.wp_chain [10] (fun w' => Blk 0 w' c [.int .i64 k, .int .i64 s, .int .i64 b, .int .i64 h, .int .i64 l, .int .i64 e, .int .i64 r, .int .i64 hs, .int .i64 hi, .pointer (some ⟨q, 0, none⟩)]) (fun j w' => w.heap.size + 1 ≤ w'.heap.size ∧ Below w.heap.size w w' ∧ Blk 0 w' w.heap.size (if j = 0 then [.int .i64 0, .int .i64 0] else [.int .i64 hs, .int .i64 hi])) (by kernel_rfl) (by kernel_rfl) (by kernel_rfl) hb1.drew ⟨hs1, hE.drew, hB.drew⟩ (fun hT => ?_)
  have hT9 := Lib.hid hT
  clear hT
  repeat (first
    | (refine Ord.ch_value (v := ?_) hT9.out (by decide) (by rfl) ?_ ?_; rotate_left; (focus (intro w5 hS; have r := Blk.rule hS; go_simp <;> with_reducible rfl)); (try simp only [Act.put, List.setIfInBounds_toArray, List.set_cons_zero, List.set_cons_succ]))
    | (refine Ord.ch_off hT9.out (by decide) (by rfl) ?_; (try simp only [Act.put, List.setIfInBounds_toArray, List.set_cons_zero, List.set_cons_succ])))
  refine Ord.ch_turn (v := undef) 0 hT9.out rfl (by decide) (Or.inl rfl) (by rfl) ?_ ?_
  · rintro w5 hS ⟨hA0, hA1, hA2⟩
    simp only [if_true] at hA2
    have r := hA2.rule
    have f0 := hA2.thaw 0 (by simp)
    have f1 := hA2.thaw 1 (by simp)
    go_simp
    refine ⟨rfl, (Blk.off hS (by omega) _).off (by omega) _, by simpa using hA0, ?_, ?_⟩
    · exact below_set (below_set hA1 (by omega) (Nat.le_refl _) _) (by simp; omega) (Nat.le_refl _) _
    · exact (hA2.set (i := 0) (by simp) _).set (i := 1) (by simp) _
  (try simp only [Act.put, List.setIfInBounds_toArray, List.set_cons_zero, List.set_cons_succ])
  repeat (first
    | (refine Ord.ch_value (v := ?_) hT9.out (by decide) (by rfl) ?_ ?_; rotate_left; (focus (intro w5 hS; skip; go_simp <;> with_reducible rfl)); (try simp only [Act.put, List.setIfInBounds_toArray, List.set_cons_zero, List.set_cons_succ]))
    | (refine Ord.ch_off hT9.out (by decide) (by rfl) ?_; (try simp only [Act.put, List.setIfInBounds_toArray, List.set_cons_zero, List.set_cons_succ])))
  refine Ord.InText.nil fun w5 hS => ?_
  clear hT9
  obtain ⟨hC9, hA9⟩ := Ord.chain_end hS
  clear hS
  obtain ⟨hA0, hA1, hA2⟩ := hA9
  have q := hA2.rule
  simp only [show ¬ [10].length = 0 by decide, if_false] at q
  go_wp2
  exact bodyPost_ret (v := .tuple #[.agg #[.int .i64 hs, .int .i64 hi], .bool (hs != 0)]) (by simp [results, Tryz.results74, go_sem, q]) rfl ⟨rfl, hA1⟩
end

section
variable {w0 w : World} {L : List Item} {p c n : Nat} {F : Nat → Prop} {f : Plc → Int} {q : Cnt}
variable {cc qq : Nat} {k s b h l e r hs hh : Int}
end
end Go.Proofs.YtdknbegcflldjaaGreatDoor

/- Contracts of the functions of layer 3 that later layers call: Check, Roots. -/
namespace Go.Proofs.YtdknbegcflldjaaGreatDoor
open Go.RowKit
set_option maxRecDepth 100000

set_option maxHeartbeats 400000 in
theorem within_any (n lo hi : Int) (w : World) : Calls Tryz.prog 112 #[.int .i64 n, .int .i64 lo, .int .i64 hi] w fun e w' => e = .returned (.bool (inB n lo hi)) ∧ w = w' := by
  go_enter Tryz.func112, Tryz.ntmps112
  go_wp2
  all_goals
    go_ret
    exact ⟨ret_bool (by simp [inB]; try omega), rfl⟩

set_option maxHeartbeats 400000 in
theorem isKind_any (k : Int) (w : World) : Calls Tryz.prog 111 #[.int .i64 k] w fun e w' => e = .returned (.bool (kindB k)) ∧ w = w' := by
  go_enter Tryz.func111, Tryz.ntmps111
  go_wp2
  all_goals
    go_ret
    exact ⟨ret_bool (by rw [Bool.eq_iff_iff]; simp [kindB]; try omega), rfl⟩

set_option maxHeartbeats 400000 in
theorem hasBuckets_any (k s b h l : Int) (w : World) : Calls Tryz.prog 113 #[.agg #[.int .i64 k, .int .i64 s, .int .i64 b, .int .i64 h, .int .i64 l]] w fun e w' => e = .returned (.bool (buckB k b)) ∧ Below w.heap.size w w' := by
  have hF := (Fr.start w).push w.heap.size rfl [.int .i64 k, .int .i64 s, .int .i64 b, .int .i64 h, .int .i64 l] 58
  go_enter Tryz.func113, Tryz.ntmps113
  go_wp2_with
    (with_reducible refine (within_any _ _ _ _).mono ?_; rintro e w1 ⟨rfl, rfl⟩)
  all_goals
    go_ret
    (try go_light)
    (try simp only [bne_iff_ne, ne_eq, bne_eq_false_iff_eq, beq_iff_eq, beq_eq_false_iff_ne, Bool.or_eq_true, Bool.and_eq_true, decide_eq_true_eq, decide_eq_false_iff_not, Bool.or_eq_false_iff, Bool.not_eq_true', Bool.not_eq_false'] at *)
    refine ⟨ret_bool ?_, hF.below⟩
    rw [Bool.eq_iff_iff, buckB_iff]
    (try simp [inB])
    (try omega)

set_option maxHeartbeats 400000 in
theorem hasHeight_any (k s b h l : Int) (w : World) : Calls Tryz.prog 114 #[.agg #[.int .i64 k, .int .i64 s, .int .i64 b, .int .i64 h, .int .i64 l]] w fun e w' => e = .returned (.bool (highB k h)) ∧ Below w.heap.size w w' := by
  have hF := (Fr.start w).push w.heap.size rfl [.int .i64 k, .int .i64 s, .int .i64 b, .int .i64 h, .int .i64 l] 58
  go_enter Tryz.func114, Tryz.ntmps114
  go_wp2_with
    (with_reducible refine (within_any _ _ _ _).mono ?_; rintro e w1 ⟨rfl, rfl⟩)
  all_goals
    go_ret
    (try go_light)
    (try simp only [bne_iff_ne, ne_eq, bne_eq_false_iff_eq, beq_iff_eq, beq_eq_false_iff_ne, Bool.or_eq_true, Bool.and_eq_true, decide_eq_true_eq, decide_eq_false_iff_not, Bool.or_eq_false_iff, Bool.not_eq_true', Bool.not_eq_false'] at *)
    refine ⟨ret_bool ?_, hF.below⟩
    rw [Bool.eq_iff_iff, highB_iff]
    (try simp [inB])
    (try omega)

set_option maxHeartbeats 400000 in
theorem check_any (k s b h l : Int) (w : World) : Calls Tryz.prog 61 #[.agg #[.int .i64 k, .int .i64 s, .int .i64 b, .int .i64 h, .int .i64 l]] w fun e w' => e = .returned (.int .i64 (chkI k s b h l)) ∧ Below w.heap.size w w' := by
  have hF := (Fr.start w).push w.heap.size rfl [.int .i64 k, .int .i64 s, .int .i64 b, .int .i64 h, .int .i64 l] 58
  have r := hF.rule 0 rfl
  go_enter Tryz.func61, Tryz.ntmps61
  go_wp2_with (first
    |
      (with_reducible refine (within_any _ _ _ _).mono ?_; rintro e w1 ⟨rfl, rfl⟩)
    |
      (with_reducible refine (isKind_any _ _).mono ?_; rintro e w1 ⟨rfl, rfl⟩)
    |
      (with_reducible refine (hasBuckets_any _ _ _ _ _ _).mono ?_; rintro e w1 ⟨rfl, hb⟩; replace hF := hF.over hb; clear hb r; have r := hF.rule 0 rfl)
    |
      (with_reducible refine (hasHeight_any _ _ _ _ _ _).mono ?_; rintro e w1 ⟨rfl, hb⟩; replace hF := hF.over hb; clear hb r; have r := hF.rule 0 rfl)
    )
  all_goals
    go_ret
    (try go_light)
    (try simp only [bne_iff_ne, ne_eq, bne_eq_false_iff_eq, beq_iff_eq, beq_eq_false_iff_ne, Bool.or_eq_true, Bool.and_eq_true, decide_eq_true_eq, decide_eq_false_iff_not, Bool.or_eq_false_iff, Bool.not_eq_true', Bool.not_eq_false'] at *)
    refine ⟨ret_int ?_, hF.below⟩
    simp [chkI, *]
end Go.Proofs.YtdknbegcflldjaaGreatDoor

/- Layer 1: the plain mathematics of fields of a word: numbers and bits. -/
namespace Go.Proofs.YtdknbegcflldjaaGreatDoor
open Go.RowKit
set_option maxRecDepth 100000

/-- A field can be. -/
def isB (a b : Int) : Bool := decide (0 ≤ a ∧ 1 ≤ b ∧ b ≤ 64 - a)
theorem isB_parts {a b : Int} (h : isB a b = true) : 0 ≤ a ∧ 1 ≤ b ∧ b ≤ 64 - a := by simpa [isB] using h

/-- The greatest number. -/
def maxI (a b : Int) : Int := if isB a b then 2 ^ b.toNat - 1 else 0
theorem maxI_yes {a b : Int} (h : isB a b = true) : maxI a b = 2 ^ b.toNat - 1 := by simp [maxI, h]
theorem maxI_no {a b : Int} (h : isB a b = false) : maxI a b = 0 := by simp [maxI, h]
theorem ones_shift (k : Nat) (h1 : k ≤ 64) : (18446744073709551615 : Int) / 2 ^ (64 - k) = 2 ^ k - 1 := by
  have h : ∀ k ≤ 64, (18446744073709551615 : Int) / 2 ^ (64 - k) = 2 ^ k - 1 := by decide
  exact h k h1

/-- The bits of a field that can be, as numbers: A and B. -/
theorem isB_nat {a b : Int} (h : isB a b = true) : ∃ A B : Nat, a = A ∧ b = B ∧ 1 ≤ B ∧ A + B ≤ 64 := by
  obtain ⟨h1, h2, h3⟩ := isB_parts h
  exact ⟨a.toNat, b.toNat, by omega, by omega, by omega, by omega⟩

theorem pow_le64 {k : Nat} (h : k ≤ 64) : 2 ^ k ≤ 18446744073709551616 := by
  have := Nat.pow_le_pow_right (n := 2) (by omega) h
  simpa using this

theorem maxI_nat {A B : Nat} (h1 : 1 ≤ B) (h2 : A + B ≤ 64) : maxI A B = ((2 ^ B - 1 : Nat) : Int) := by
  rw [maxI_yes (by simp [isB]; omega), Int.toNat_natCast, Int.natCast_sub (Nat.one_le_two_pow)]
  simp

theorem wrap_u8_small {a : Int} (h0 : 0 ≤ a) (h1 : a < 256) : IntKind.u8.wrap a = a := by rw [IntKind.wrap_u8]; omega

/-- The number in a word. -/
def getN (A B X : Nat) : Nat := X / 2 ^ A % 2 ^ B
def getI (a b x : Int) : Int := if isB a b then (getN a.toNat b.toNat x.toNat : Nat) else 0

theorem get_eq (a b x : Int) (h0 : 0 ≤ x) (h1 : x ≤ 18446744073709551615) :
    bits .and .u64 (x / 2 ^ min (IntKind.u8.wrap a).toNat 64) (maxI a b) = getI a b x := by
  obtain ⟨X, rfl⟩ := Int.eq_ofNat_of_zero_le h0
  have e : ∀ k : Nat, (X : Int) / 2 ^ k = ((X / 2 ^ k : Nat) : Int) := fun k => by simp
  have hlt : ∀ k : Nat, X / 2 ^ k < 18446744073709551616 := fun k => Nat.lt_of_le_of_lt (Nat.div_le_self _ _) (by omega)
  cases h : isB a b
  · rw [maxI_no h, e, show (0 : Int) = ((0 : Nat) : Int) from rfl, u64_and_nat _ _ (hlt _) (by decide)]
    simp [getI, h]
  · obtain ⟨A, B, rfl, rfl, hB, hAB⟩ := isB_nat h
    rw [wrap_u8_small (by omega) (by omega), maxI_nat hB hAB, e, u64_and_nat _ _ (hlt _) (by have := pow_le64 (k := B) (by omega); omega)]
    simp only [getI, h, if_true, Int.toNat_natCast, getN]
    rw [Nat.and_two_pow_sub_one_eq_mod, show min A 64 = A by omega]

/-- The field's bits in their places. -/
def maskN (A B : Nat) : Nat := (2 ^ B - 1) * 2 ^ A
def maskI (a b : Int) : Int := if isB a b then (maskN a.toNat b.toNat : Nat) else 0
theorem maskN_lt {A B : Nat} (h : A + B ≤ 64) : maskN A B < 18446744073709551616 := by
  unfold maskN
  have h1 : (2 ^ B - 1) * 2 ^ A < 2 ^ B * 2 ^ A := Nat.mul_lt_mul_of_pos_right (by have := Nat.one_le_two_pow (n := B); omega) (Nat.two_pow_pos A)
  rw [← Nat.pow_add] at h1
  have := pow_le64 (k := B + A) (by omega)
  omega
theorem mask_eq (a b : Int) : IntKind.u64.wrap (maxI a b * 2 ^ min (IntKind.u8.wrap a).toNat 64) = maskI a b := by
  cases h : isB a b
  · simp [maxI_no h, maskI, h, IntKind.wrap_u64]
  · obtain ⟨A, B, rfl, rfl, hB, hAB⟩ := isB_nat h
    rw [wrap_u8_small (by omega) (by omega), maxI_nat hB hAB]
    simp only [maskI, h, if_true, Int.toNat_natCast]
    rw [show min A 64 = A by omega, show (((2 ^ B - 1 : Nat) : Int) * 2 ^ A) = ((maskN A B : Nat) : Int) by simp [maskN], IntKind.wrap_u64]
    have := maskN_lt hAB
    omega

theorem maskN_testBit (A B k : Nat) : (maskN A B).testBit k = (decide (A ≤ k) && decide (k < A + B)) := by
  unfold maskN
  rw [Nat.testBit_mul_two_pow, Nat.testBit_two_pow_sub_one]
  by_cases h : A ≤ k
  · simp [h]; omega
  · simp [h]

/-- Another number there. -/
def putN (A B W X : Nat) : Nat := (W &&& (18446744073709551615 - maskN A B)) ||| X * 2 ^ A
def putI (a b w x : Int) : Int := (putN a.toNat b.toNat w.toNat x.toNat : Nat)
theorem putN_lt {A B W X : Nat} (hAB : A + B ≤ 64) (hW : W < 18446744073709551616) (hX : X < 2 ^ B) : putN A B W X < 18446744073709551616 := by
  have h1 : X * 2 ^ A < 2 ^ 64 := by
    have h1 : X * 2 ^ A < 2 ^ B * 2 ^ A := Nat.mul_lt_mul_of_pos_right hX (Nat.two_pow_pos A)
    rw [← Nat.pow_add] at h1
    have := pow_le64 (k := B + A) (by omega)
    simp only [Nat.reducePow]
    omega
  exact Nat.or_lt_two_pow (n := 64) (Nat.lt_of_le_of_lt Nat.and_le_left (by simpa using hW)) h1
theorem put_eq (a b w x : Int) (h : isB a b = true) (hw0 : 0 ≤ w) (hw1 : w ≤ 18446744073709551615) (hx0 : 0 ≤ x) (hx : x ≤ maxI a b) :
    bits .or .u64 (bits .andNot .u64 w (maskI a b)) (IntKind.u64.wrap (x * 2 ^ min (IntKind.u8.wrap a).toNat 64)) = putI a b w x := by
  obtain ⟨A, B, rfl, rfl, hB, hAB⟩ := isB_nat h
  obtain ⟨W, rfl⟩ := Int.eq_ofNat_of_zero_le hw0
  obtain ⟨X, rfl⟩ := Int.eq_ofNat_of_zero_le hx0
  rw [maxI_nat hB hAB] at hx
  have hX : X < 2 ^ B := by have := Nat.one_le_two_pow (n := B); omega
  have h1 : X * 2 ^ A < 18446744073709551616 := by
    have h1 : X * 2 ^ A < 2 ^ B * 2 ^ A := Nat.mul_lt_mul_of_pos_right hX (Nat.two_pow_pos A)
    rw [← Nat.pow_add] at h1
    have := pow_le64 (k := B + A) (by omega)
    omega
  have e1 : IntKind.u64.wrap ((X : Int) * 2 ^ min A 64) = ((X * 2 ^ A : Nat) : Int) := by
    rw [show min A 64 = A by omega, show ((X : Int) * 2 ^ A) = ((X * 2 ^ A : Nat) : Int) by simp, IntKind.wrap_u64]
    omega
  rw [wrap_u8_small (by omega) (by omega)]
  simp only [maskI, h, if_true, Int.toNat_natCast, putI]
  rw [e1, u64_andNot_nat _ _ (by omega) (maskN_lt hAB), u64_or_nat _ _ (Nat.lt_of_le_of_lt Nat.and_le_left (by omega)) h1]
  rfl

theorem ones_sub_testBit {m k : Nat} (h : m < 18446744073709551616) : (18446744073709551615 - m).testBit k = (decide (k < 64) && !m.testBit k) := by
  have := Nat.testBit_two_pow_sub_succ (n := 64) (x := m) (by simpa using h) k
  rw [← this]
  congr 1
  omega
theorem putN_testBit {A B W X : Nat} (hAB : A + B ≤ 64) (hW : W < 18446744073709551616) (hX : X < 2 ^ B) (k : Nat) :
    (putN A B W X).testBit k = if A ≤ k ∧ k < A + B then X.testBit (k - A) else W.testBit k := by
  unfold putN
  rw [Nat.testBit_or, Nat.testBit_and, ones_sub_testBit (maskN_lt hAB), maskN_testBit, Nat.testBit_mul_two_pow]
  by_cases h : A ≤ k ∧ k < A + B
  · simp [h.1, h.2]
  · rw [if_neg h]
    by_cases hk : A ≤ k
    · have hk2 : ¬ k < A + B := fun hh => h ⟨hk, hh⟩
      have hXk : X.testBit (k - A) = false := Nat.testBit_lt_two_pow (Nat.lt_of_lt_of_le hX (Nat.pow_le_pow_right (by omega) (by omega)))
      by_cases h64 : k < 64
      · simp [hk, hk2, hXk, h64]
      · have hWk : W.testBit k = false := Nat.testBit_lt_two_pow (Nat.lt_of_lt_of_le (show W < 2 ^ 64 by simpa using hW) (Nat.pow_le_pow_right (by omega) (by omega)))
        simp [hXk, hWk]
    · by_cases h64 : k < 64
      · simp [hk, h64]
      · omega
theorem getN_testBit (A B X k : Nat) : (getN A B X).testBit k = (decide (k < B) && X.testBit (A + k)) := by
  unfold getN
  rw [Nat.testBit_mod_two_pow, Nat.testBit_div_two_pow]
  rw [Nat.add_comm]
theorem getN_lt (A B X : Nat) : getN A B X < 2 ^ B := Nat.mod_lt _ (Nat.two_pow_pos B)

/-- Bit by bit, from the highest on. -/
def foldN (f : Nat → Nat) : Nat → Nat → Nat
  | _, 0 => 0
  | top, m + 1 => foldN f top m * 2 + f (top - m)
theorem foldN_testBit (f : Nat → Nat) (hf : ∀ i, f i < 2) (top m : Nat) : ∀ i, (foldN f top m).testBit i = (decide (i < m) && decide (f (top - (m - 1 - i)) = 1)) := by
  induction m with
  | zero => intro i; simp [foldN]
  | succ m ih =>
    intro i
    have h2 := hf (top - m)
    cases i with
    | zero =>
      simp only [foldN, Nat.testBit_zero, Nat.zero_lt_succ, decide_true, Bool.true_and]
      rw [show m + 1 - 1 - 0 = m by omega]
      congr 1
      apply propext
      omega
    | succ i =>
      rw [Nat.testBit_succ, foldN, show (foldN f top m * 2 + f (top - m)) / 2 = foldN f top m by omega, ih i]
      rw [show m + 1 - 1 - (i + 1) = m - 1 - i by omega]
      simp
theorem foldN_lt (f : Nat → Nat) (hf : ∀ i, f i < 2) (top m : Nat) : foldN f top m < 2 ^ m := by
  induction m with
  | zero => simp [foldN]
  | succ m ih =>
    have h2 := hf (top - m)
    simp only [foldN, Nat.pow_succ]
    omega
/-- All 64 bits, told one by one. -/
theorem foldN_eq {f : Nat → Nat} (hf : ∀ i, f i < 2) {Y : Nat} (hY : Y < 18446744073709551616) (h : ∀ i, i < 64 → decide (f i = 1) = Y.testBit i) : foldN f 63 64 = Y := by
  apply Nat.eq_of_testBit_eq
  intro i
  rw [foldN_testBit f hf]
  by_cases h64 : i < 64
  · rw [show 63 - (64 - 1 - i) = i by omega, h i h64]; simp [h64]
  · have hYk : Y.testBit i = false := Nat.testBit_lt_two_pow (Nat.lt_of_lt_of_le (show Y < 2 ^ 64 by simpa using hY) (Nat.pow_le_pow_right (by omega) (by omega)))
    simp [h64, hYk]

/-- The bit k of a word. -/
def bitN (X k : Nat) : Nat := X / 2 ^ k % 2
theorem bitN_lt (X k : Nat) : bitN X k < 2 := Nat.mod_lt _ (by omega)
theorem bitN_testBit (X k : Nat) : decide (bitN X k = 1) = X.testBit k := by
  unfold bitN
  rw [Nat.testBit_eq_decide_div_mod_eq]

/-- With a sign. -/
def sgnN (A B X : Nat) : Int := if 2 ^ (B - 1) ≤ getN A B X then (getN A B X : Int) - 2 ^ B else getN A B X
def sgnI (a b x : Int) : Int := if isB a b then sgnN a.toNat b.toNat x.toNat else 0

theorem sgn_eq (a b x : Int) (h : isB a b = true) (h0 : 0 ≤ x) :
    wrap64 (IntKind.u64.wrap (x * 2 ^ (64 - b - a).toNat)) / 2 ^ (64 - b).toNat = sgnI a b x := by
  obtain ⟨A, B, rfl, rfl, hB, hAB⟩ := isB_nat h
  obtain ⟨X, rfl⟩ := Int.eq_ofNat_of_zero_le h0
  simp only [sgnI, h, if_true, Int.toNat_natCast]
  rw [show (64 - (B : Int) - (A : Int)).toNat = 64 - B - A by omega, show (64 - (B : Int)).toNat = 64 - B by omega]
  -- the word, moved up
  have e1 : IntKind.u64.wrap ((X : Int) * 2 ^ (64 - B - A)) = ((X % 2 ^ (A + B) * 2 ^ (64 - B - A) : Nat) : Int) := by
    rw [show ((X : Int) * 2 ^ (64 - B - A)) = ((X * 2 ^ (64 - B - A) : Nat) : Int) by simp, IntKind.wrap_u64]
    have : (18446744073709551616 : Nat) = 2 ^ (A + B) * 2 ^ (64 - B - A) := by rw [← Nat.pow_add, show A + B + (64 - B - A) = 64 by omega]
    rw [← Nat.mul_mod_mul_right, ← this]
    omega
  rw [e1]
  have hsplit : (2 : Nat) ^ (64 - B) = 2 ^ A * 2 ^ (64 - B - A) := by rw [← Nat.pow_add]; congr 1; omega
  have hd : X % 2 ^ (A + B) * 2 ^ (64 - B - A) / 2 ^ (64 - B) = getN A B X := by
    rw [hsplit, Nat.mul_div_mul_right _ _ (Nat.two_pow_pos _), getN, Nat.pow_add, Nat.mod_mul_right_div_self]
  have hlt : X % 2 ^ (A + B) * 2 ^ (64 - B - A) < 18446744073709551616 := by
    have h1 : X % 2 ^ (A + B) * 2 ^ (64 - B - A) < 2 ^ (A + B) * 2 ^ (64 - B - A) := Nat.mul_lt_mul_of_pos_right (Nat.mod_lt _ (Nat.two_pow_pos _)) (Nat.two_pow_pos _)
    rw [← Nat.pow_add, show A + B + (64 - B - A) = 64 by omega] at h1
    simpa using h1
  generalize X % 2 ^ (A + B) * 2 ^ (64 - B - A) = Y at *
  have hhalf : (9223372036854775808 : Nat) = 2 ^ (B - 1) * 2 ^ (64 - B) := by rw [← Nat.pow_add, show B - 1 + (64 - B) = 63 by omega]
  have hwhole : (18446744073709551616 : Int) = 2 ^ B * 2 ^ (64 - B) := by rw [← Int.pow_add, show B + (64 - B) = 64 by omega]; rfl
  have hcmp : 2 ^ (B - 1) ≤ getN A B X ↔ 9223372036854775808 ≤ Y := by
    rw [← hd, hhalf, Nat.le_div_iff_mul_le (Nat.two_pow_pos _)]
  have hpos : (0 : Int) < 2 ^ (64 - B) := by exact_mod_cast Nat.two_pow_pos (64 - B)
  have hdI : (Y : Int) / 2 ^ (64 - B) = getN A B X := by rw [← hd]; simp
  unfold sgnN wrap64
  by_cases hc : 9223372036854775808 ≤ Y
  · rw [if_pos (hcmp.2 hc), show ((Y : Int) + 9223372036854775808) % 18446744073709551616 - 9223372036854775808 = (Y : Int) + (-18446744073709551616) by omega, hwhole, ← Int.neg_mul, Int.add_mul_ediv_right _ _ (by omega), hdI]
    omega
  · rw [if_neg (fun hh => hc (hcmp.1 hh)), show ((Y : Int) + 9223372036854775808) % 18446744073709551616 - 9223372036854775808 = (Y : Int) by omega, hdI]

/-- Bits, turned round by k towards the highest. -/
def turnN (W k : Nat) : Nat := W * 2 ^ k % 18446744073709551616 ||| W / 2 ^ (64 - k)
theorem turnN_lt {W k : Nat} (hW : W < 18446744073709551616) : turnN W k < 18446744073709551616 :=
  Nat.or_lt_two_pow (n := 64) (Nat.mod_lt _ (by decide)) (Nat.lt_of_le_of_lt (Nat.div_le_self _ _) (by simpa using hW))
theorem turnN_testBit {W k i : Nat} (hW : W < 18446744073709551616) (hk : k < 64) (hi : i < 64) : (turnN W k).testBit i = W.testBit ((i + 64 - k) % 64) := by
  unfold turnN
  rw [Nat.testBit_or, show (18446744073709551616 : Nat) = 2 ^ 64 by rfl, Nat.testBit_mod_two_pow, Nat.testBit_mul_two_pow, Nat.testBit_div_two_pow]
  by_cases h : k ≤ i
  · rw [show (i + 64 - k) % 64 = i - k by omega]
    have : W.testBit (i + (64 - k)) = false := Nat.testBit_lt_two_pow (Nat.lt_of_lt_of_le (show W < 2 ^ 64 by simpa using hW) (Nat.pow_le_pow_right (by omega) (by omega)))
    simp [hi, h, this]
  · rw [show (i + 64 - k) % 64 = i + (64 - k) by omega]
    simp [h]
/-- Turned by n, whatever n is. -/
def turnI (w n : Int) : Int := (turnN w.toNat (n % 64).toNat : Nat)
theorem turn_eq (w n : Int) (h0 : 0 ≤ w) (h1 : w ≤ 18446744073709551615) :
    bits .or .u64 (IntKind.u64.wrap (w * 2 ^ (n % 64).toNat)) (w / 2 ^ (64 - n % 64).toNat) = turnI w n := by
  obtain ⟨W, rfl⟩ := Int.eq_ofNat_of_zero_le h0
  obtain ⟨k, hk⟩ := Int.eq_ofNat_of_zero_le (show 0 ≤ n % 64 by omega)
  have hk64 : k < 64 := by omega
  unfold turnI
  rw [hk, show (64 - (k : Int)).toNat = 64 - k by omega]
  simp only [Int.toNat_natCast]
  rw [show IntKind.u64.wrap ((W : Int) * 2 ^ k) = ((W * 2 ^ k % 18446744073709551616 : Nat) : Int) by rw [IntKind.wrap_u64]; simp,
    show (W : Int) / 2 ^ (64 - k) = ((W / 2 ^ (64 - k) : Nat) : Int) by simp,
    u64_or_nat _ _ (Nat.mod_lt _ (by decide)) (Nat.lt_of_le_of_lt (Nat.div_le_self _ _) (by omega))]
  rfl

theorem foldN_get {A B X : Nat} : foldN (fun i => bitN X (A + i)) (B - 1) B = getN A B X := by
  apply Nat.eq_of_testBit_eq
  intro i
  rw [foldN_testBit _ (fun _ => bitN_lt _ _), getN_testBit]
  by_cases h : i < B
  · rw [show B - 1 - (B - 1 - i) = i by omega, bitN_testBit]
  · simp [h]

/-- A bit of the word with another number there. -/
def putF (A B W X k : Nat) : Nat := if A ≤ k ∧ k < A + B then bitN X (k - A) else bitN W k
theorem putF_lt (A B W X k : Nat) : putF A B W X k < 2 := by unfold putF; split <;> exact bitN_lt _ _
theorem foldN_put {A B W X : Nat} (hAB : A + B ≤ 64) (hW : W < 18446744073709551616) (hX : X < 2 ^ B) : foldN (putF A B W X) 63 64 = putN A B W X :=
  foldN_eq (putF_lt A B W X) (putN_lt hAB hW hX) fun i _ => by
    rw [putN_testBit hAB hW hX]
    unfold putF
    split <;> exact bitN_testBit _ _

/-- A bit of a word that is turned round. -/
def turnF (W k i : Nat) : Nat := bitN W ((i + 64 - k) % 64)
theorem foldN_turn {W k : Nat} (hW : W < 18446744073709551616) (hk : k < 64) : foldN (turnF W k) 63 64 = turnN W k :=
  foldN_eq (fun _ => bitN_lt _ _) (turnN_lt hW) fun i hi => by rw [turnN_testBit hW hk hi]; exact bitN_testBit _ _

/-- The number with a sign, bit by bit: the highest one counts below 0. -/
def sgnF (A B X m : Nat) : Int := (foldN (fun i => bitN X (A + i)) (B - 1) m : Nat) - (bitN X (A + (B - 1)) : Nat) * 2 ^ m
theorem sgnF_one (A B X : Nat) : sgnF A B X 1 = - (bitN X (A + (B - 1)) : Nat) := by
  simp only [sgnF, foldN, Nat.sub_zero]
  omega
theorem sgnF_succ (A B X m : Nat) : sgnF A B X (m + 1) = sgnF A B X m * 2 + (bitN X (A + (B - 1 - m)) : Nat) := by
  simp only [sgnF, foldN, Int.pow_succ]
  rw [← Int.mul_assoc]
  omega
theorem sgnF_bound (A B X m : Nat) (h : 1 ≤ m) : - 2 ^ (m - 1) ≤ sgnF A B X m ∧ sgnF A B X m ≤ 2 ^ (m - 1) - 1 := by
  induction m with
  | zero => omega
  | succ m ih =>
    have hb := bitN_lt X (A + (B - 1 - m))
    by_cases hm : m = 0
    · subst hm
      rw [sgnF_one]
      have := bitN_lt X (A + (B - 1))
      simp; omega
    · obtain ⟨h1, h2⟩ := ih (by omega)
      rw [sgnF_succ, show m + 1 - 1 = (m - 1) + 1 by omega, Int.pow_succ]
      omega
theorem sgnF_small (A B X m : Nat) (h : 1 ≤ m) (h63 : m ≤ 63) : -4611686018427387904 ≤ sgnF A B X m ∧ sgnF A B X m ≤ 4611686018427387903 := by
  obtain ⟨h1, h2⟩ := sgnF_bound A B X m h
  have : (2 : Int) ^ (m - 1) ≤ 2 ^ 62 := by exact_mod_cast Nat.pow_le_pow_right (by omega) (by omega)
  simp only [Int.reducePow] at this
  omega
theorem sgnF_all {A B X : Nat} (hB : 1 ≤ B) : sgnF A B X B = sgnN A B X := by
  unfold sgnF sgnN
  rw [foldN_get]
  have hg := getN_lt A B X
  have e : 2 ^ B = 2 * 2 ^ (B - 1) := by rw [← Nat.pow_succ', show (B - 1).succ = B by omega]
  have hbit : bitN X (A + (B - 1)) = getN A B X / 2 ^ (B - 1) := by
    unfold bitN getN
    rw [e, Nat.mul_comm 2, Nat.mod_mul_right_div_self, Nat.div_div_eq_div_mul, Nat.pow_add]
  have hp := Nat.two_pow_pos (B - 1)
  by_cases hc : 2 ^ (B - 1) ≤ getN A B X
  · have h1 : getN A B X / 2 ^ (B - 1) = 1 := by rw [Nat.div_eq_iff hp]; omega
    rw [if_pos hc, hbit, h1]
    simp
  · have h0 : getN A B X / 2 ^ (B - 1) = 0 := Nat.div_eq_of_lt (by omega)
    rw [if_neg hc, hbit, h0]
    simp
theorem foldN_small (f : Nat → Nat) (hf : ∀ i, f i < 2) (top m : Nat) (h : m ≤ 63) : foldN f top m ≤ 9223372036854775807 := by
  have h1 := foldN_lt f hf top m
  have h2 : 2 ^ m ≤ 2 ^ 63 := Nat.pow_le_pow_right (by omega) h
  simp only [Nat.reducePow] at h2
  omega

theorem tmod64 (n : Int) : (n.tmod 64 < 0 → wrap64 (n.tmod 64 + 64) = n % 64) ∧ (0 ≤ n.tmod 64 → n.tmod 64 = n % 64) := by
  have h : n.tmod 64 = n % 64 ∨ n.tmod 64 = n % 64 - 64 := by
    rw [Int.tmod_eq_emod]
    split
    · exact Or.inl (by omega)
    · exact Or.inr (by rfl)
  unfold wrap64
  omega
end Go.Proofs.YtdknbegcflldjaaGreatDoor

/- Contracts of layer 1's own functions: Is, Max, Get, mask, Put. -/
namespace Go.Proofs.YtdknbegcflldjaaGreatDoor
open Go.RowKit
set_option maxRecDepth 100000


set_option maxHeartbeats 400000 in
theorem is_any (a b : Int) (w : World) (ha : a ≤ 9223372036854775807) (_hb : -9223372036854775808 ≤ b) :
    Calls Tryz.prog 189 #[.agg #[.int .i64 a, .int .i64 b]] w fun e w' => e = .returned (.bool (isB a b)) ∧ Below w.heap.size w w' := by
  by_cases h1 : 0 ≤ a
  · by_cases h2 : 1 ≤ b
    · go_enter Tryz.func189, Tryz.ntmps189
      go_wp2
      go_ret
      exact ⟨ret_bool (by simp [isB, h1, h2]), (Below.refl _ _).alloc (Nat.le_refl _) _⟩
    · go_enter Tryz.func189, Tryz.ntmps189
      go_wp2
      go_ret
      exact ⟨ret_bool (by simp [isB]; omega), (Below.refl _ _).alloc (Nat.le_refl _) _⟩
  · go_enter Tryz.func189, Tryz.ntmps189
    go_wp2
    go_ret
    exact ⟨ret_bool (by simp [isB]; omega), (Below.refl _ _).alloc (Nat.le_refl _) _⟩

theorem ret_int_bool {k : IntKind} {x y : Int} {c : Bool} (h : x = y) : Ending.returned (.tuple #[.int k x, .bool c]) = .returned (.tuple #[.int k y, .bool c]) := by rw [h]

/-- What stood below B reads on as it did. -/
theorem old_cell {B : Nat} {v v' : World} (h : Below B v v') (n k : Nat) (hn : n < B) : v'.cell? ⟨n, k, none⟩ = v.cell? ⟨n, k, none⟩ := Below.cell h (p := ⟨n, k, none⟩) hn
theorem old_frozen {B : Nat} {v v' : World} (h : Below B v v') (n k : Nat) (hn : n < B) : v'.frozen? ⟨n, k, none⟩ = v.frozen? ⟨n, k, none⟩ := Below.frozen h (p := ⟨n, k, none⟩) hn

/-- What stands above block n is the call's own. -/
theorem hold_step {n : Nat} {w w1 w2 : World} {x y : Value} (c0 : w1.cell? ⟨n, 0, none⟩ = some x) (c1 : w1.cell? ⟨n, 1, none⟩ = some y) (hB : Below n w w1) (hs : n < w1.heap.size) (hb : Below w1.heap.size w1 w2) :
    w2.cell? ⟨n, 0, none⟩ = some x ∧ w2.cell? ⟨n, 1, none⟩ = some y ∧ Below n w w2 ∧ n < w2.heap.size :=
  ⟨by rw [hb.cell (p := ⟨n, 0, none⟩) hs]; exact c0, by rw [hb.cell (p := ⟨n, 1, none⟩) hs]; exact c1, hB.trans (hb.mono (by omega)), by have := hb.size; omega⟩

set_option maxHeartbeats 400000 in
theorem max_any (a b : Int) (w : World) (ha : a ≤ 9223372036854775807) (hb : -9223372036854775808 ≤ b) :
    Calls Tryz.prog 144 #[.agg #[.int .i64 a, .int .i64 b]] w fun e w' => e = .returned (.int .u64 (maxI a b)) ∧ Below w.heap.size w w' := by
  cases h : isB a b
  · have H := Lib.hid h
    clear h
    go_enter Tryz.func144, Tryz.ntmps144
    go_wp2_with fail
    refine (is_any a b _ ha hb).mono ?_
    rintro e w1 ⟨rfl, hb⟩
    rw [H.out]
    go_wp2
    go_ret
    exact ⟨ret_int (maxI_no H.out).symm, ((Below.refl _ _).alloc (Nat.le_refl _) _).trans (hb.mono (by simp))⟩
  · have hp := isB_parts h
    have H := Lib.hid h
    clear h
    go_enter Tryz.func144, Tryz.ntmps144
    go_wp2_with fail
    refine (is_any a b _ ha hb).mono ?_
    rintro e w1 ⟨rfl, hb⟩
    rw [H.out]
    have hc := old_cell hb
    have hf := old_frozen hb
    go_wp2
    go_ret
    refine ⟨ret_int ?_, ((Below.refl _ _).alloc (Nat.le_refl _) _).trans (hb.mono (by simp))⟩
    rw [maxI_yes H.out, show (64 - b).toNat = 64 - b.toNat by omega]
    exact ones_shift _ (by omega)

set_option maxHeartbeats 400000 in
theorem get_any (a b x : Int) (w : World) (ha : a ≤ 9223372036854775807) (hb : -9223372036854775808 ≤ b) (h0 : 0 ≤ x) (h1 : x ≤ 18446744073709551615) :
    Calls Tryz.prog 93 #[.agg #[.int .i64 a, .int .i64 b], .int .u64 x] w fun e w' => e = .returned (.int .u64 (getI a b x)) ∧ Below w.heap.size w w' := by
  go_enter Tryz.func93, Tryz.ntmps93
  go_wp2_with fail
  go_region_held3 (fun w' => w'.cell? ⟨w.heap.size, 0, none⟩ = some (.int .i64 a) ∧ w'.cell? ⟨w.heap.size, 1, none⟩ = some (.int .i64 b) ∧ Below w.heap.size w w' ∧ w.heap.size < w'.heap.size)
    (first | (go_split_ands; exact hold_step (by assumption) (by assumption) (by assumption) (by assumption) (by assumption)) | (refine ⟨?_, ?_, ?_, ?_⟩ <;> first | exact ((Below.refl _ _).alloc (Nat.le_refl _) _).drew | go_keep | simp))
    (first | (go_at_call 144; refine (max_any a b _ ha hb).mono ?_; rintro e w1 ⟨rfl, hb1⟩))
  all_goals
    go_wp2
    go_ret
    go_split_ands
    exact ⟨ret_int (get_eq a b x h0 h1), by assumption⟩

set_option maxHeartbeats 400000 in
theorem mask_any (a b : Int) (w : World) (ha : a ≤ 9223372036854775807) (hb : -9223372036854775808 ≤ b) :
    Calls Tryz.prog 324 #[.agg #[.int .i64 a, .int .i64 b]] w fun e w' => e = .returned (.int .u64 (maskI a b)) ∧ Below w.heap.size w w' := by
  go_enter Tryz.func324, Tryz.ntmps324
  go_wp2_with fail
  go_region_held3 (fun w' => w'.cell? ⟨w.heap.size, 0, none⟩ = some (.int .i64 a) ∧ w'.cell? ⟨w.heap.size, 1, none⟩ = some (.int .i64 b) ∧ Below w.heap.size w w' ∧ w.heap.size < w'.heap.size)
    (first | (go_split_ands; exact hold_step (by assumption) (by assumption) (by assumption) (by assumption) (by assumption)) | (refine ⟨?_, ?_, ?_, ?_⟩ <;> first | exact ((Below.refl _ _).alloc (Nat.le_refl _) _).drew | go_keep | simp))
    (first | (go_at_call 144; refine (max_any a b _ ha hb).mono ?_; rintro e w1 ⟨rfl, hb1⟩))
  all_goals
    go_wp2
    go_ret
    go_split_ands
    exact ⟨ret_int (mask_eq a b), by assumption⟩

set_option maxHeartbeats 400000 in
theorem put_no (a b x y : Int) (w : World) (ha : a ≤ 9223372036854775807) (hb : -9223372036854775808 ≤ b) (h : isB a b = false) :
    Calls Tryz.prog 307 #[.agg #[.int .i64 a, .int .i64 b], .int .u64 x, .int .u64 y] w fun e w' => e = .returned (.tuple #[.int .u64 0, .bool false]) ∧ Below w.heap.size w w' := by
  have H := Lib.hid h
  clear h
  go_enter Tryz.func307, Tryz.ntmps307
  go_wp2_with fail
  refine (is_any a b _ ha hb).mono ?_
  rintro e w1 ⟨rfl, hb⟩
  rw [H.out]
  go_wp2_with fail
  go_ret2
  exact ⟨rfl, ((Below.refl _ _).alloc (Nat.le_refl _) _).trans (hb.mono (by simp))⟩

set_option maxHeartbeats 400000 in
theorem put_above (a b x y : Int) (w : World) (ha : a ≤ 9223372036854775807) (hb : -9223372036854775808 ≤ b) (h : isB a b = true) (hy : maxI a b < y) :
    Calls Tryz.prog 307 #[.agg #[.int .i64 a, .int .i64 b], .int .u64 x, .int .u64 y] w fun e w' => e = .returned (.tuple #[.int .u64 0, .bool false]) ∧ Below w.heap.size w w' := by
  have H := Lib.hid h
  clear h
  go_enter Tryz.func307, Tryz.ntmps307
  go_wp2_with fail
  refine (is_any a b _ ha hb).mono ?_
  rintro e w1 ⟨rfl, hb1⟩
  rw [H.out]
  have hc := old_cell hb1
  have hf := old_frozen hb1
  go_wp2_with fail
  refine (max_any a b _ ha hb).mono ?_
  rintro e w2 ⟨rfl, hb2⟩
  go_wp2_with fail
  go_ret2
  exact ⟨rfl, (((Below.refl _ _).alloc (Nat.le_refl _) _).trans (hb1.mono (by simp))).trans (hb2.mono (by have := hb1.size; simp at this; omega))⟩

set_option maxHeartbeats 400000 in
theorem put_yes (a b x y : Int) (w : World) (ha : a ≤ 9223372036854775807) (hb : -9223372036854775808 ≤ b) (h : isB a b = true) (hx0 : 0 ≤ x) (hx1 : x ≤ 18446744073709551615) (hy0 : 0 ≤ y) (hy : y ≤ maxI a b) :
    Calls Tryz.prog 307 #[.agg #[.int .i64 a, .int .i64 b], .int .u64 x, .int .u64 y] w fun e w' => e = .returned (.tuple #[.int .u64 (putI a b x y), .bool true]) ∧ Below w.heap.size w w' := by
  have hp := isB_parts h
  have H := Lib.hid h
  clear h
  go_enter Tryz.func307, Tryz.ntmps307
  go_wp2_with fail
  refine (is_any a b _ ha hb).mono ?_
  rintro e w1 ⟨rfl, hb1⟩
  rw [H.out]
  have hc := old_cell hb1
  have hf := old_frozen hb1
  go_wp2_with fail
  refine (max_any a b _ ha hb).mono ?_
  rintro e w2 ⟨rfl, hb2⟩
  have hs1 := hb1.size
  have hs2 := hb2.size
  simp at hs1
  have c0 : w2.cell? ⟨w.heap.size, 0, none⟩ = some (.int .i64 a) := by rw [hb2.cell (p := ⟨w.heap.size, 0, none⟩) (by simp; omega), hc _ _ (by simp)]; simp
  have c1 : w2.cell? ⟨w.heap.size, 1, none⟩ = some (.int .i64 b) := by rw [hb2.cell (p := ⟨w.heap.size, 1, none⟩) (by simp; omega), hc _ _ (by simp)]; simp
  have hB : Below w.heap.size w w2 := (((Below.refl _ _).alloc (Nat.le_refl _) _).trans (hb1.mono (by simp))).trans (hb2.mono (by omega))
  have hlt : w.heap.size < w2.heap.size := by omega
  clear hc hf hb1 hb2 hs1 hs2
  go_wp2_with fail
  go_region_held3 (fun w' => w'.cell? ⟨w.heap.size, 0, none⟩ = some (.int .i64 a) ∧ w'.cell? ⟨w.heap.size, 1, none⟩ = some (.int .i64 b) ∧ Below w.heap.size w w' ∧ w.heap.size < w'.heap.size)
    (first | (go_split_ands; exact hold_step (by assumption) (by assumption) (by assumption) (by assumption) (by assumption)) | exact ⟨c0, c1, hB.drew, hlt⟩)
    (first | (go_at_call 324; refine (mask_any a b _ ha hb).mono ?_; rintro e w1 ⟨rfl, hb1⟩))
  all_goals
    go_wp2
    go_ret2
    go_split_ands
    exact ⟨ret_int_bool (put_eq a b x y H.out hx0 hx1 hy0 hy), by assumption⟩
end Go.Proofs.YtdknbegcflldjaaGreatDoor

/- Layer 2: the plain mathematics of links: words, slots, versions, marks. -/
namespace Go.Proofs.YtdknbegcflldjaaGreatDoor
open Go.RowKit
set_option maxRecDepth 100000

/-- A word's parts. -/
def slotI (x : Int) : Int := x / 1099511627776 % 8388608
def verI (x : Int) : Int := x % 1099511627776
def markB (x : Int) : Bool := decide (9223372036854775808 ≤ x)
def isS (s : Int) : Bool := decide (0 ≤ s ∧ s ≤ 8388607)
def isL (s v : Int) : Bool := decide (0 ≤ s ∧ s ≤ 8388607 ∧ 0 ≤ v ∧ v ≤ 1099511627775)
def bitI (m : Bool) : Int := if m then 9223372036854775808 else 0
def wordI (m : Bool) (s v : Int) : Int := if isL s v then v + s * 1099511627776 + bitI m else 0

theorem isL_parts {s v : Int} (h : isL s v = true) : 0 ≤ s ∧ s ≤ 8388607 ∧ 0 ≤ v ∧ v ≤ 1099511627775 := by simpa [isL] using h
theorem isL_mk {s v : Int} (h1 : 0 ≤ s) (h2 : s ≤ 8388607) (h3 : 0 ≤ v) (h4 : v ≤ 1099511627775) : isL s v = true := by simp [isL, h1, h2, h3, h4]
theorem isS_parts {s : Int} (h : isS s = true) : 0 ≤ s ∧ s ≤ 8388607 := by simpa [isS] using h
theorem isS_mk {s : Int} (h1 : 0 ≤ s) (h2 : s ≤ 8388607) : isS s = true := by simp [isS, h1, h2]
theorem slotI_in (x : Int) : 0 ≤ slotI x ∧ slotI x ≤ 8388607 := by unfold slotI; omega
theorem verI_in (x : Int) : 0 ≤ verI x ∧ verI x ≤ 1099511627775 := by unfold verI; omega
theorem bitI_in (m : Bool) : 0 ≤ bitI m ∧ bitI m ≤ 9223372036854775808 := by cases m <;> simp [bitI]
theorem wordI_in (m : Bool) (s v : Int) : 0 ≤ wordI m s v ∧ wordI m s v ≤ 18446744073709551615 := by
  unfold wordI
  split
  · have := isL_parts ‹_›
    cases m <;> simp [bitI] <;> omega
  · omega
theorem wordI_yes {m : Bool} {s v : Int} (h : isL s v = true) : wordI m s v = v + s * 1099511627776 + bitI m := by simp [wordI, h]
theorem wordI_no {m : Bool} {s v : Int} (h : isL s v = false) : wordI m s v = 0 := by simp [wordI, h]

theorem slot_word {m : Bool} {s v : Int} (h : isL s v = true) : slotI (wordI m s v) = s := by
  have := isL_parts h
  rw [wordI_yes h]
  cases m <;> simp only [bitI, slotI, if_true, if_false, Bool.false_eq_true] <;> omega
theorem ver_word {m : Bool} {s v : Int} (h : isL s v = true) : verI (wordI m s v) = v := by
  have := isL_parts h
  rw [wordI_yes h]
  cases m <;> simp only [bitI, verI, if_true, if_false, Bool.false_eq_true] <;> omega
theorem mark_word {m : Bool} {s v : Int} (h : isL s v = true) : markB (wordI m s v) = m := by
  have := isL_parts h
  rw [wordI_yes h]
  cases m <;> simp only [bitI, markB, if_true, if_false, Bool.false_eq_true, decide_eq_true_eq, decide_eq_false_iff_not] <;> omega
theorem isL_of (x : Int) : isL (slotI x) (verI x) = true := isL_mk (slotI_in x).1 (slotI_in x).2 (verI_in x).1 (verI_in x).2
theorem word_of (x : Int) (h0 : 0 ≤ x) (h1 : x ≤ 18446744073709551615) : wordI (markB x) (slotI x) (verI x) = x := by
  rw [wordI_yes (isL_of x)]
  by_cases h : 9223372036854775808 ≤ x
  · simp only [markB, h, decide_true, bitI, if_true, slotI, verI]; omega
  · simp only [markB, h, decide_false, bitI, Bool.false_eq_true, if_false, slotI, verI]; omega
theorem word_inj {m n : Bool} {s v t u : Int} (h : isL s v = true) (h' : isL t u = true) (e : wordI m s v = wordI n t u) : m = n ∧ s = t ∧ v = u := by
  have e1 := congrArg markB e
  have e2 := congrArg slotI e
  have e3 := congrArg verI e
  rw [mark_word h, mark_word h'] at e1
  rw [slot_word h, slot_word h'] at e2
  rw [ver_word h, ver_word h'] at e3
  exact ⟨e1, e2, e3⟩

/-- The three fields, of a word. -/
theorem get_version (x : Int) (h0 : 0 ≤ x) : getI 0 40 x = verI x := by
  obtain ⟨X, rfl⟩ := Int.eq_ofNat_of_zero_le h0
  simp only [getI, show isB 0 40 = true from rfl, if_true, getN, verI, Int.toNat_natCast]
  simp
theorem get_slot (x : Int) (h0 : 0 ≤ x) : getI 40 23 x = slotI x := by
  obtain ⟨X, rfl⟩ := Int.eq_ofNat_of_zero_le h0
  simp only [getI, show isB 40 23 = true from rfl, if_true, getN, slotI, Int.toNat_natCast]
  simp
theorem get_mark (x : Int) (h0 : 0 ≤ x) : getI 63 1 x = x / 9223372036854775808 % 2 := by
  obtain ⟨X, rfl⟩ := Int.eq_ofNat_of_zero_le h0
  simp only [getI, show isB 63 1 = true from rfl, if_true, getN, Int.toNat_natCast]
  simp
theorem mark_one (x : Int) (h0 : 0 ≤ x) (h1 : x ≤ 18446744073709551615) : decide (getI 63 1 x = 1) = markB x := by
  rw [get_mark x h0]
  unfold markB
  by_cases h : 9223372036854775808 ≤ x
  · simp only [h, decide_true, decide_eq_true_eq]; omega
  · simp only [h, decide_false, decide_eq_false_iff_not]; omega

/-- To put above all that is there is to add. -/
theorem putN_above {A B W X : Nat} (hAB : A + B ≤ 64) (hW : W < 2 ^ A) : putN A B W X = W + X * 2 ^ A := by
  have e1 : W &&& (18446744073709551615 - maskN A B) = W := by
    apply Nat.eq_of_testBit_eq
    intro i
    rw [Nat.testBit_and, ones_sub_testBit (maskN_lt hAB), maskN_testBit]
    by_cases hi : i < A
    · have h1 : ¬ A ≤ i := by omega
      have h2 : i < 64 := by omega
      simp [h1, h2]
    · have := Nat.testBit_lt_two_pow (Nat.lt_of_lt_of_le hW (Nat.pow_le_pow_right (n := 2) (by omega) (show A ≤ i by omega)))
      simp [this]
  unfold putN
  rw [e1, Nat.or_comm, Nat.mul_comm, ← Nat.two_pow_add_eq_or_of_lt hW]
  omega
theorem put_version (v : Int) (h0 : 0 ≤ v) : putI 0 40 0 v = v := by
  obtain ⟨V, rfl⟩ := Int.eq_ofNat_of_zero_le h0
  have := putN_above (A := 0) (B := 40) (W := 0) (X := V) (by omega) (by simp)
  simp only [putI, Int.toNat_natCast, Int.toNat_zero, show (40 : Int).toNat = 40 from rfl]
  rw [this]
  simp
theorem put_slot (v s : Int) (h0 : 0 ≤ v) (h1 : v ≤ 1099511627775) (h2 : 0 ≤ s) : putI 40 23 v s = v + s * 1099511627776 := by
  obtain ⟨V, rfl⟩ := Int.eq_ofNat_of_zero_le h0
  obtain ⟨S, rfl⟩ := Int.eq_ofNat_of_zero_le h2
  have := putN_above (A := 40) (B := 23) (W := V) (X := S) (by omega) (by simp; omega)
  simp only [putI, Int.toNat_natCast, show (40 : Int).toNat = 40 from rfl, show (23 : Int).toNat = 23 from rfl]
  rw [this]
  simp
theorem put_mark (x : Int) (h0 : 0 ≤ x) (h1 : x < 9223372036854775808) : putI 63 1 x 1 = x + 9223372036854775808 := by
  obtain ⟨X, rfl⟩ := Int.eq_ofNat_of_zero_le h0
  have := putN_above (A := 63) (B := 1) (W := X) (X := 1) (by omega) (by simp; omega)
  simp only [putI, Int.toNat_natCast, show (63 : Int).toNat = 63 from rfl, show (1 : Int).toNat = 1 from rfl]
  rw [this]
  simp
theorem max_parts : maxI 0 40 = 1099511627775 ∧ maxI 40 23 = 8388607 ∧ maxI 63 1 = 1 ∧ isB 0 40 = true ∧ isB 40 23 = true ∧ isB 63 1 = true := by decide +kernel

/-- How two numbers stand. -/
def cmpI (a b : Int) : Int := if a < b then -1 else if b < a then 1 else 0
theorem cmpI_self (a : Int) : cmpI a a = 0 := by simp [cmpI]
theorem cmpI_lt {a b : Int} (h : a < b) : cmpI a b = -1 := by simp [cmpI, h]
theorem cmpI_gt {a b : Int} (h : b < a) : cmpI a b = 1 := by unfold cmpI; rw [if_neg (by omega), if_pos h]
theorem cmpI_in (a b : Int) : -1 ≤ cmpI a b ∧ cmpI a b ≤ 1 := by unfold cmpI; split; omega; split <;> omega

/-- The next version's link. -/
def nextE (x s : Int) : Int := if isS s then (if verI x = 1099511627775 then 7 else 0) else 3
def nextW (x s : Int) : Int := if isS s then (if verI x = 1099511627775 then 0 else wordI false s (verI x + 1)) else 0
/-- With a mark; what is marked stays. -/
def markedW (x s v : Int) : Int := if markB x then x else wordI true s v
theorem markedW_in (x s v : Int) (h0 : 0 ≤ x) (h1 : x ≤ 18446744073709551615) : 0 ≤ markedW x s v ∧ markedW x s v ≤ 18446744073709551615 := by
  unfold markedW
  split
  · exact ⟨h0, h1⟩
  · exact wordI_in _ _ _
end Go.Proofs.YtdknbegcflldjaaGreatDoor
