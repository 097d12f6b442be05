/- What is proved on the way to the statement, part 4 of 17: contracts of the functions, among other things in memory. -/
import Derived.Test.YtdknbegcflldjaaGreatDoorE3
import Derived.WalkKit
import Derived.Orders
import Derived.Test.YtdknbegcflldjaaGreatDoorChecked
import Derived.Laws.EntriesVeiled

/- Contracts of the functions of layer 2. -/
namespace Go.Proofs.YtdknbegcflldjaaGreatDoor
open Go.RowKit
set_option maxRecDepth 100000

/-- The three fields stand in their variables. -/
def Glo (w : World) : Prop :=
  (w.cell? ⟨2, 0, none⟩ = some (.int .i64 0) ∧ w.cell? ⟨2, 1, none⟩ = some (.int .i64 40)) ∧
  (w.cell? ⟨0, 0, none⟩ = some (.int .i64 40) ∧ w.cell? ⟨0, 1, none⟩ = some (.int .i64 23)) ∧
  (w.cell? ⟨1, 0, none⟩ = some (.int .i64 63) ∧ w.cell? ⟨1, 1, none⟩ = some (.int .i64 1)) ∧
  2 < w.heap.size ∧ 0 < w.heap.size ∧ 1 < w.heap.size
theorem Glo.keep {n : Nat} {w w' : World} (h : Glo w) (hb : Below n w w') (hn : w.heap.size ≤ n) : Glo w' := by
  obtain ⟨⟨a0, a1⟩, ⟨b0, b1⟩, ⟨c0, c1⟩, h1, h2, h3⟩ := h
  have := hb.size
  refine ⟨⟨?_, ?_⟩, ⟨?_, ?_⟩, ⟨?_, ?_⟩, by omega, by omega, by omega⟩
  · rw [hb.cell (p := ⟨_, 0, none⟩) (by simp; omega)]; exact a0
  · rw [hb.cell (p := ⟨_, 1, none⟩) (by simp; omega)]; exact a1
  · rw [hb.cell (p := ⟨_, 0, none⟩) (by simp; omega)]; exact b0
  · rw [hb.cell (p := ⟨_, 1, none⟩) (by simp; omega)]; exact b1
  · rw [hb.cell (p := ⟨_, 0, none⟩) (by simp; omega)]; exact c0
  · rw [hb.cell (p := ⟨_, 1, none⟩) (by simp; omega)]; exact c1
theorem Glo.keep' {w1 w2 : World} (h : Glo w1) (hb : Below w1.heap.size w1 w2) : Glo w2 := h.keep hb (Nat.le_refl _)
theorem Glo.alloc {w : World} (h : Glo w) (o : Obj) : Glo (w.alloc o) := h.keep ((Below.refl _ _).alloc (Nat.le_refl _) _) (Nat.le_refl _)

set_option maxHeartbeats 400000 in
theorem isSlot_any (s : Int) (w : World) : Calls Tryz.prog 323 #[.int .i64 s] w fun e w' => e = .returned (.bool (isS s)) ∧ w = w' := by
  by_cases h1 : 0 ≤ s
  · go_enter Tryz.func323, Tryz.ntmps323
    go_wp2
    go_ret
    exact ⟨ret_bool (by simp [isS, h1]), rfl⟩
  · have hd : decide (0 ≤ s) = false := by simpa using h1
    go_enter Tryz.func323, Tryz.ntmps323
    go_wp2
    go_ret
    exact ⟨ret_bool (by simp [isS]; omega), rfl⟩

set_option maxHeartbeats 400000 in
theorem slot_any (x : Int) (w : World) (hg : Glo w) (h0 : 0 ≤ x) (h1 : x ≤ 18446744073709551615) :
    Calls Tryz.prog 54 #[.int .u64 x] w fun e w' => e = .returned (.int .i64 (slotI x)) ∧ Below w.heap.size w w' := by
  obtain ⟨-, ⟨c0, c1⟩, -, -, hs, -⟩ := hg
  obtain ⟨k0, k1⟩ := slotI_in x
  have HG := Lib.hid (get_slot x h0)
  go_enter Tryz.func54, Tryz.ntmps54
  go_wp2_with fail
  refine (get_any 40 23 x _ (by decide) (by decide) h0 h1).mono ?_
  rintro e w1 ⟨rfl, hb⟩
  rw [HG.out]
  go_wp2
  go_ret
  exact ⟨rfl, hb⟩

theorem hold3 {n : Nat} {w w1 w2 : World} {x y z : Value} (c0 : w1.cell? ⟨n, 0, none⟩ = some x) (c1 : w1.cell? ⟨n, 1, none⟩ = some y) (c2 : w1.cell? ⟨n, 2, none⟩ = some z) (hB : Below n w w1) (hs : n < w1.heap.size) (hb : Below w1.heap.size w1 w2) :
    w2.cell? ⟨n, 0, none⟩ = some x ∧ w2.cell? ⟨n, 1, none⟩ = some y ∧ w2.cell? ⟨n, 2, none⟩ = some z ∧ Below n w w2 ∧ n < w2.heap.size :=
  ⟨by rw [hb.cell (p := ⟨n, 0, none⟩) hs]; exact c0, by rw [hb.cell (p := ⟨n, 1, none⟩) hs]; exact c1, by rw [hb.cell (p := ⟨n, 2, none⟩) hs]; exact c2, hB.trans (hb.mono (by omega)), by have := hb.size; omega⟩

/-- A block of the call's own that may be written. -/
theorem thaw3 {n : Nat} {w1 w2 : World} (f0 : w1.frozen? ⟨n, 0, none⟩ = false) (f1 : w1.frozen? ⟨n, 1, none⟩ = false) (f2 : w1.frozen? ⟨n, 2, none⟩ = false) (hs : n < w1.heap.size) (hb : Below w1.heap.size w1 w2) :
    w2.frozen? ⟨n, 0, none⟩ = false ∧ w2.frozen? ⟨n, 1, none⟩ = false ∧ w2.frozen? ⟨n, 2, none⟩ = false :=
  ⟨by rw [hb.frozen (p := ⟨n, 0, none⟩) hs]; exact f0, by rw [hb.frozen (p := ⟨n, 1, none⟩) hs]; exact f1, by rw [hb.frozen (p := ⟨n, 2, none⟩) hs]; exact f2⟩

set_option maxHeartbeats 400000 in
theorem linkIs_any (m : Bool) (s v : Int) (w : World) :
    Calls Tryz.prog 306 #[.agg #[.bool m, .int .i64 s, .int .i64 v]] w fun e w' => e = .returned (.bool (isL s v)) ∧ Below w.heap.size w w' := by
  cases hS : isS s
  · have H := Lib.hid hS
    go_enter Tryz.func306, Tryz.ntmps306
    go_wp2_with fail
    refine (isSlot_any s _).mono ?_
    rintro e w1 ⟨rfl, rfl⟩
    rw [H.out]
    go_wp2
    go_ret
    exact ⟨ret_bool (by have := H.out; simp [isS] at this; simp [isL]; omega), (Below.refl _ _).alloc (Nat.le_refl _) _⟩
  · obtain ⟨k0, k1⟩ := isS_parts hS
    have H := Lib.hid hS
    clear hS
    by_cases h2 : 0 ≤ v
    · go_enter Tryz.func306, Tryz.ntmps306
      go_wp2_with fail
      refine (isSlot_any s _).mono ?_
      rintro e w1 ⟨rfl, rfl⟩
      rw [H.out]
      go_wp2
      go_ret
      exact ⟨ret_bool (by simp [isL, h2, k0, k1]), (Below.refl _ _).alloc (Nat.le_refl _) _⟩
    · have hd : decide (0 ≤ v) = false := by simpa using h2
      go_enter Tryz.func306, Tryz.ntmps306
      go_wp2_with fail
      refine (isSlot_any s _).mono ?_
      rintro e w1 ⟨rfl, rfl⟩
      rw [H.out]
      go_wp2
      go_ret
      exact ⟨ret_bool (by simp [isL]; omega), (Below.refl _ _).alloc (Nat.le_refl _) _⟩

/-- The three Puts that make a link's word. -/
theorem put1 (v : Int) (w : World) (h0 : 0 ≤ v) (h1 : v ≤ 1099511627775) :
    Calls Tryz.prog 307 #[.agg #[.int .i64 0, .int .i64 40], .int .u64 0, .int .u64 v] w fun e w' => e = .returned (.tuple #[.int .u64 v, .bool true]) ∧ Below w.heap.size w w' := by
  have := put_yes 0 40 0 v w (by decide) (by decide) max_parts.2.2.2.1 (by decide) (by decide) h0 (by rw [max_parts.1]; exact h1)
  rw [put_version v h0] at this
  exact this
theorem put2 (v s : Int) (w : World) (h0 : 0 ≤ v) (h1 : v ≤ 1099511627775) (h2 : 0 ≤ s) (h3 : s ≤ 8388607) :
    Calls Tryz.prog 307 #[.agg #[.int .i64 40, .int .i64 23], .int .u64 v, .int .u64 s] w fun e w' => e = .returned (.tuple #[.int .u64 (v + s * 1099511627776), .bool true]) ∧ Below w.heap.size w w' := by
  have := put_yes 40 23 v s w (by decide) (by decide) max_parts.2.2.2.2.1 h0 (by omega) h2 (by rw [max_parts.2.1]; exact h3)
  rw [put_slot v s h0 h1 h2] at this
  exact this
theorem put3 (x : Int) (w : World) (h0 : 0 ≤ x) (h1 : x < 9223372036854775808) :
    Calls Tryz.prog 307 #[.agg #[.int .i64 63, .int .i64 1], .int .u64 x, .int .u64 1] w fun e w' => e = .returned (.tuple #[.int .u64 (x + 9223372036854775808), .bool true]) ∧ Below w.heap.size w w' := by
  have := put_yes 63 1 x 1 w (by decide) (by decide) max_parts.2.2.2.2.2 h0 (by omega) (by decide) (by rw [max_parts.2.2.1]; decide)
  rw [put_mark x h0 h1] at this
  exact this

set_option maxHeartbeats 800000 in
theorem word_any (m : Bool) (s v : Int) (w : World) (hg : Glo w) :
    Calls Tryz.prog 289 #[.agg #[.bool m, .int .i64 s, .int .i64 v]] w fun e w' => e = .returned (.int .u64 (wordI m s v)) ∧ Below w.heap.size w w' := by
  cases h : isL s v
  · have H := Lib.hid h
    clear h
    go_enter Tryz.func289, Tryz.ntmps289
    go_wp2_with fail
    refine (linkIs_any m s v _).mono ?_
    rintro e w1 ⟨rfl, hb⟩
    rw [H.out]
    go_wp2
    go_ret
    exact ⟨ret_int (wordI_no H.out).symm, ((Below.refl _ _).alloc (Nat.le_refl _) _).trans (hb.mono (by simp))⟩
  · have hp := isL_parts h
    have H := Lib.hid h
    clear h
    obtain ⟨k0, k1, k2, k3⟩ := hp
    have hA := hg.alloc (.cells #[.bool m, .int .i64 s, .int .i64 v] 339)
    clear hg
    go_enter Tryz.func289, Tryz.ntmps289
    go_wp2_with fail
    refine (linkIs_any m s v _).mono ?_
    rintro e w1 ⟨rfl, hb⟩
    have hA1 := hA.keep' hb
    obtain ⟨d0, d1, d2, hB, hs⟩ := hold3 (n := w.heap.size) (w := w) (x := .bool m) (y := .int .i64 s) (z := .int .i64 v) (by simp) (by simp) (by simp) ((Below.refl _ _).alloc (Nat.le_refl _) _) (by simp) hb
    clear hb hA
    rw [H.out]
    obtain ⟨⟨a0, a1⟩, ⟨b0, b1⟩, ⟨c0, c1⟩, g1, g2, g3⟩ := id hA1
    go_wp2_with fail
    refine (put1 v _ k2 k3).mono ?_
    rintro e w2 ⟨rfl, hb⟩
    have hA2 := hA1.keep' hb
    obtain ⟨e0, e1, e2, hB2, hs2⟩ := hold3 d0 d1 d2 hB hs hb
    clear hb hA1 d0 d1 d2 hB hs a0 a1 b0 b1 c0 c1 g1 g2 g3
    obtain ⟨⟨a0, a1⟩, ⟨b0, b1⟩, ⟨c0, c1⟩, g1, g2, g3⟩ := id hA2
    go_wp2_with fail
    refine (put2 v s _ k2 k3 k0 k1).mono ?_
    rintro e w3 ⟨rfl, hb⟩
    have hA3 := hA2.keep' hb
    obtain ⟨d0, d1, d2, hB, hs⟩ := hold3 e0 e1 e2 hB2 hs2 hb
    clear hb hA2 e0 e1 e2 hB2 hs2 a0 a1 b0 b1 c0 c1 g1 g2 g3
    obtain ⟨⟨a0, a1⟩, ⟨b0, b1⟩, ⟨c0, c1⟩, g1, g2, g3⟩ := id hA3
    have q0 : 0 ≤ v + s * 1099511627776 := by omega
    have q1 : v + s * 1099511627776 < 9223372036854775808 := by omega
    cases m
    · have HW := Lib.hid (wordI_yes (m := false) H.out)
      clear hA3
      go_wp2_with fail
      go_ret
      exact ⟨ret_int (by rw [HW.out]; simp [bitI]), hB⟩
    · have HW := Lib.hid (wordI_yes (m := true) H.out)
      clear hA3
      go_wp2_with fail
      refine (put3 _ _ q0 q1).mono ?_
      rintro e w4 ⟨rfl, hb⟩
      go_wp2_with fail
      go_ret
      exact ⟨ret_int (by rw [HW.out]; simp [bitI]), hB.trans (hb.mono (by omega))⟩
end Go.Proofs.YtdknbegcflldjaaGreatDoor

/- Threads: contracts of New, To, Mark, Lead. -/
namespace Go.Proofs.YtdknbegcflldjaaGreatDoor
open Go.RowKit Go.Maps
set_option maxRecDepth 100000


section
variable {w0 w : World} {L : List Item}
set_option maxHeartbeats 1600000 in
theorem newNo_c (k s b h l : Int) (hc : chkI k s b h l ≠ 0) (w : World) :
    Calls Tryz.prog 20 #[.agg #[.int .i64 k, .int .i64 s, .int .i64 b, .int .i64 h, .int .i64 l]] w fun o w' => o = .returned (.pointer none) ∧ Below w.heap.size w w' := by
  have hF := (Fr.start w).push w.heap.size rfl [.int .i64 k, .int .i64 s, .int .i64 b, .int .i64 h, .int .i64 l] 58
  have r := hF.rule 0 rfl
  have hn : (chkI k s b h l != 0) = true := by simpa using hc
  go_enter Tryz.func20, Tryz.ntmps20
  go_wp2_with fail
  refine (check_any k s b h l _).mono ?_
  rintro o w1 ⟨rfl, hb⟩
  replace hF := hF.over hb
  clear hb r
  go_wp2_with fail
  go_ret
  exact ⟨rfl, hF.below⟩

set_option maxHeartbeats 1600000 in
theorem newYes_c (k s b h l : Int) (hc : chkI k s b h l = 0) (hE : Env w0 L w) :
    Calls Tryz.prog 20 #[.agg #[.int .i64 k, .int .i64 s, .int .i64 b, .int .i64 h, .int .i64 l]] w fun o w' => ∃ c q F, o = .returned (.pointer (some ⟨c, 0, none⟩)) ∧ Env w0 (coreI c k s b h l 0 0 0 0 q :: queueI q F [] 2 :: L) w' := by
  have HC := Lib.hid hc
  clear hc
  have hE1 := hE.box w.heap.size rfl [.int .i64 k, .int .i64 s, .int .i64 b, .int .i64 h, .int .i64 l] 58
  clear hE
  have r := hE1.rule 0 rfl
  go_enter Tryz.func20, Tryz.ntmps20
  go_wp2_with fail
  refine (check_any k s b h l _).mono ?_
  rintro o w1 ⟨rfl, hb⟩
  rw [HC.out]
  replace hE1 := hE1.over hb
  clear hb r
  generalize w.heap.size = X at *
  go_wp2_with fail
  refine Ord3.wp_chain [?_, ?_, ?_, ?_, ?_] [1, 2, 3, 4] (fun w' => Blk 0 w' X [.int .i64 k, .int .i64 s, .int .i64 b, .int .i64 h, .int .i64 l]) (Ord3.Stage fun κs => [Env w0 (boxI X [.int .i64 k, .int .i64 s, .int .i64 b, .int .i64 h, .int .i64 l] :: L), fun w' => ∃ q, κs.getD 0 undef = .pointer (some ⟨q, 0, none⟩) ∧ ∃ F, Env w0 (queueI q F [] 2 :: boxI X [.int .i64 k, .int .i64 s, .int .i64 b, .int .i64 h, .int .i64 l] :: L) w', fun w' => ∃ q, κs.getD 1 undef = (.agg #[.int .i64 k, .int .i64 s, .int .i64 b, .int .i64 h, .int .i64 l, .int .i64 0, .int .i64 0, .int .i64 0, .int .i64 0, .pointer (some ⟨q, 0, none⟩)]) ∧ ∃ F, Env w0 (queueI q F [] 2 :: boxI X [.int .i64 k, .int .i64 s, .int .i64 b, .int .i64 h, .int .i64 l] :: L) w', fun w' => ∃ c, κs.getD 2 undef = .pointer (some ⟨c, 0, none⟩) ∧ ∃ q F, Env w0 (coreI c k s b h l 0 0 0 0 q :: queueI q F [] 2 :: boxI X [.int .i64 k, .int .i64 s, .int .i64 b, .int .i64 h, .int .i64 l] :: L) w', fun w' => ∃ c, κs.getD 3 undef = .pointer (some ⟨c, 0, none⟩) ∧ ∃ q F, Env w0 (coreI c k s b h l 0 0 0 0 q :: queueI q F [] 2 :: boxI X [.int .i64 k, .int .i64 s, .int .i64 b, .int .i64 h, .int .i64 l] :: L) w']) (by kernel_rfl) (by kernel_rfl) (by kernel_rfl) (hE1.drew.get 0 rfl) ⟨_, rfl, hE1.drew⟩ (fun hT => ?_)
  rotate_left 5
  have hT9 := Lib.hid hT
  clear hT
  repeat (first
    | (focus (refine Ord3.in_value (v := ?_) hT9.out (by decide) ?_ (by rfl) ?_ ?_; rotate_left 2; (focus (intro w5 hS; have r := Blk.rule hS; go_simp <;> with_reducible rfl)); rotate_right; (focus rfl); (try simp only [Act.put, List.setIfInBounds_toArray, List.set_cons_zero, List.set_cons_succ])))
    | (focus (refine Ord3.in_off hT9.out (by decide) ?_ (by rfl) ?_; (focus rfl); (try simp only [Act.put, List.setIfInBounds_toArray, List.set_cons_zero, List.set_cons_succ]))))
  refine Ord3.in_turn (fun u => ∃ q, u = .pointer (some ⟨q, 0, none⟩)) _ ⟨0, rfl⟩ hT9.out rfl (by decide) (by rfl) ?_ (Or.inl rfl) (by rfl) ?_ ?_
  · rfl
  · rintro w7 hC7 ⟨P7, hP7, hA7⟩
    cases hP7
    go_simp
    simp only [Ord3.Lands]
    refine (newQ_any (xs := []) (A := none) (cap := 0) (by simp) Row3.nil).mono ?_
    rintro o w8 ⟨q8, F8, k8, rfl, hrm, hQ, hb8, hF8⟩
    have hk8 := hrm.unique (Rm.same (by simp))
    subst hk8
    have hE8 := hA7.madeQ hQ hF8 hb8
    exact ⟨_, rfl, ⟨q8, rfl⟩, hE8.get 1 rfl, _, rfl, q8, rfl, F8, hE8⟩
  rintro _ ⟨q9, rfl⟩
  (try simp only [Act.put, List.setIfInBounds_toArray, List.set_cons_zero, List.set_cons_succ])
  refine Ord3.in_turn (fun u => ∃ q, u = (.agg #[.int .i64 k, .int .i64 s, .int .i64 b, .int .i64 h, .int .i64 l, .int .i64 0, .int .i64 0, .int .i64 0, .int .i64 0, .pointer (some ⟨q, 0, none⟩)])) _ ⟨0, rfl⟩ hT9.out rfl (by decide) (by rfl) ?_ (Or.inr ⟨_, 1, [], rfl, by kernel_rfl, by kernel_rfl, rfl⟩) (by rfl) ?_ ?_
  · rfl
  · rintro w7 hC7 ⟨P7, hP7, hA7⟩
    cases hP7
    obtain ⟨q8, he, F8, hA7⟩ := hA7
    cases he
    go_simp
    simp only [Ord3.Lands]
    exact ⟨⟨_, rfl⟩, hC7, _, rfl, q9, rfl, F8, hA7⟩
  rintro _ ⟨q10, rfl⟩
  (try simp only [Act.put, List.setIfInBounds_toArray, List.set_cons_zero, List.set_cons_succ])
  refine Ord3.in_turn (fun u => ∃ c, u = .pointer (some ⟨c, 0, none⟩)) _ ⟨0, rfl⟩ hT9.out rfl (by decide) (by rfl) ?_ (Or.inr ⟨_, 2, [], rfl, by kernel_rfl, by kernel_rfl, rfl⟩) (by rfl) ?_ ?_
  · rfl
  · rintro w7 hC7 ⟨P7, hP7, hA7⟩
    cases hP7
    obtain ⟨q8, he, F8, hA7⟩ := hA7
    cases he
    go_simp
    simp only [Ord3.Lands]
    have hE8 := hA7.box w7.heap.size rfl (crv k s b h l 0 0 0 0 q10) 138
    exact ⟨⟨_, rfl⟩, hE8.get 2 rfl, _, rfl, w7.heap.size, rfl, q10, F8, hE8⟩
  rintro _ ⟨c8, rfl⟩
  (try simp only [Act.put, List.setIfInBounds_toArray, List.set_cons_zero, List.set_cons_succ])
  refine Ord3.in_turn (fun u => ∃ c, u = .pointer (some ⟨c, 0, none⟩)) _ ⟨0, rfl⟩ hT9.out rfl (by decide) (by rfl) ?_ (Or.inr ⟨_, 3, [], rfl, by kernel_rfl, by kernel_rfl, rfl⟩) (by rfl) ?_ ?_
  · rfl
  · rintro w7 hC7 ⟨P7, hP7, hA7⟩
    cases hP7
    obtain ⟨c7, he, q8, F8, hA7⟩ := hA7
    cases he
    go_simp
    simp only [Ord3.Lands]
    exact ⟨⟨_, rfl⟩, hC7, _, rfl, c8, rfl, q8, F8, hA7⟩
  rintro _ ⟨c9, rfl⟩
  (try simp only [Act.put, List.setIfInBounds_toArray, List.set_cons_zero, List.set_cons_succ])
  refine Ord3.in_nil rfl ?_
  rintro w9 hC9 ⟨P9, hP9, hA9⟩
  cases hP9
  obtain ⟨c8, he, q8, F8, hA9⟩ := hA9
  cases he
  clear hT9 hC9
  go_wp2_with fail
  go_ret
  exact ⟨c9, q8, F8, rfl, hA9.sub (.cons_cons _ (.cons_cons _ (.cons _ (List.Sublist.refl _))))⟩
end

section
variable {w : World} {c q : Nat} {k s b h l e r hs hi : Int}
end

set_option maxHeartbeats 1600000 in
theorem lead_c (v d : Int) (t : Bool) (w : World) (hv : InU v) (hg : Glo w) :
    Calls Tryz.prog 205 #[.agg #[.int .u64 v, .int .i64 d, .bool t]] w fun o w' => o = .returned (.agg #[.int .i64 (slotI v), .int .i64 d]) ∧ Below w.heap.size w w' := by
  unfold InU at hv
  have HGB := Lib.hid fun (x : World) (hx : Below w.heap.size w x) => slot_any v x (hg.keep' hx) hv.1 hv.2
  clear hg
  have hF := ((Fr.start w).push w.heap.size rfl [.int .u64 v, .int .i64 d, .bool t] 180).push (w.heap.size + 1) (by simp) [.int .i64 0, .int .i64 0] 136
  have hX := hF.blk 1 rfl (by omega)
  have hZ := hF.blk 0 rfl (by omega)
  have hE := hF.below
  clear hF
  go_enter Tryz.func205, Tryz.ntmps205
  go_wp2_with fail
  refine Ord.wp_chain [6] (fun w' => Below w.heap.size w w' ∧ Blk 0 w' w.heap.size [.int .u64 v, .int .i64 d, .bool t]) (fun j w' => Blk 0 w' (w.heap.size + 1) (if j = 0 then [.int .i64 0, .int .i64 0] else [.int .i64 (slotI v), .int .i64 d])) (by kernel_rfl) (by kernel_rfl) (by kernel_rfl) ⟨hE.drew, hX.drew⟩ hZ.drew (fun hT => ?_)
  have hT9 := Lib.hid hT
  clear hT
  repeat (first
    | (refine Ord.ch_value (v := ?_) hT9.out (by decide) (by rfl) ?_ ?_; rotate_left; (focus (intro w5 hS; have r := Blk.rule hS.2; go_simp <;> with_reducible rfl)); (try simp only [Act.put, List.setIfInBounds_toArray, List.set_cons_zero, List.set_cons_succ]))
    | (refine Ord.ch_off hT9.out (by decide) (by rfl) ?_; (try simp only [Act.put, List.setIfInBounds_toArray, List.set_cons_zero, List.set_cons_succ]))
    | (refine Ord.ch_call (v := ?_) (f := ?_) (args := ?_) hT9.out (by decide) (by rfl) ?_ ?_ ?_; rotate_left 3; (focus (intro w5 hS; have r := Blk.rule hS.2; go_simp; constructor <;> with_reducible rfl)); (focus (intro w5 hS; (first | (with_reducible refine (HGB.out _ hS.1).mono ?_; rintro o w6 ⟨rfl, hb6⟩; constructor; with_reducible rfl; exact ⟨⟨hS.1.trans (hb6.mono hS.1.size), hS.2.under hb6⟩, fun _ h => h.under hb6⟩)))); (try simp only [Act.put, List.setIfInBounds_toArray, List.set_cons_zero, List.set_cons_succ])))
  refine Ord.ch_turn (v := undef) 0 hT9.out rfl (by decide) (Or.inl rfl) (by rfl) ?_ ?_
  · rintro w5 hS hA2
    simp only [if_true] at hA2
    have r := hA2.rule
    have f0 := hA2.thaw 0 (by simp)
    have f1 := hA2.thaw 1 (by simp)
    have hz := hS.1.size
    go_simp
    refine ⟨rfl, ⟨?_, ?_⟩, ?_⟩
    · exact below_set (below_set hS.1 hz (by omega) _) (by simp; omega) (by omega) _
    · exact (hS.2.off (by omega) _).off (by omega) _
    · exact (hA2.set (i := 0) (by simp) _).set (i := 1) (by simp) _
  (try simp only [Act.put, List.setIfInBounds_toArray, List.set_cons_zero, List.set_cons_succ])
  repeat (first
    | (refine Ord.ch_value (v := ?_) hT9.out (by decide) (by rfl) ?_ ?_; rotate_left; (focus (intro w5 hS; skip; go_simp <;> with_reducible rfl)); (try simp only [Act.put, List.setIfInBounds_toArray, List.set_cons_zero, List.set_cons_succ]))
    | (refine Ord.ch_off hT9.out (by decide) (by rfl) ?_; (try simp only [Act.put, List.setIfInBounds_toArray, List.set_cons_zero, List.set_cons_succ])))
  refine Ord.InText.nil fun w5 hS => ?_
  clear hT9
  obtain ⟨hC9, hA9⟩ := Ord.chain_end hS
  clear hS
  have q := hA9.rule
  simp only [show ¬ [6].length = 0 by decide, if_false] at q
  go_wp2
  exact bodyPost_ret (v := .agg #[.int .i64 (slotI v), .int .i64 d]) (by simp [results, Tryz.results205, go_sem, q]) rfl ⟨rfl, hC9.1⟩
end Go.Proofs.YtdknbegcflldjaaGreatDoor

/- Threads: contracts of New, To, Mark, Lead. -/
namespace Go.Proofs.YtdknbegcflldjaaGreatDoor
open Go.RowKit Go.Maps
set_option maxRecDepth 100000


section
variable {w0 w : World} {L : List Item}
end

section
variable {w : World} {c q : Nat} {k s b h l e r hs hi : Int}
end

end Go.Proofs.YtdknbegcflldjaaGreatDoor

/- A drawn region whose operations each come to one value, whatever the order: walked once, in the order of the text. S says what every world on the way keeps (cells that are read, what has not turned); loads, arithmetic and calls (of functions that may make memory) go by it. -/
namespace Go.Proofs.YtdknbegcflldjaaGreatDoor
open Go
set_option maxRecDepth 100000

section
variable {P : Program} {ops : Array Oper} {Q : Exit → Act → World → Prop} {md : Region.Mode} {S : World → Prop}

/-- What a run comes to: the value v, or a call that comes to v; S is kept. -/
def LandsIn (P : Program) (S : World → Prop) (v : Value) : Result Next → Prop
  | .ok (.value u) w' => u = v ∧ S w'
  | .ok .skip w' => v = undef ∧ S w'
  | .ok (.enter f args) w' => Calls P f args w' fun e w'' => e = .returned v ∧ S w''
  | _ => False

/-- In frame a the operation comes to v from every world that meets S. -/
def Settles (P : Program) (ops : Array Oper) (S : World → Prop) (o : Oper) (v : Value) (a : Act) : Prop :=
  (Region.wanted o (yielded ops a.tmps) = true ∧ ∀ w, S w → LandsIn P S v ((execOp a.eval o).run P w)) ∨ (Region.wanted o (yielded ops a.tmps) = false ∧ v = undef)

theorem Settles.of_same {o : Oper} {v : Value} {a a' : Act} (h : Settles P ops S o v a) (he : execOp a'.eval o = execOp a.eval o)
    (hw : Region.wanted o (yielded ops a'.tmps) = Region.wanted o (yielded ops a.tmps)) : Settles P ops S o v a' := by
  unfold Settles at *
  rw [he, hw]
  exact h

theorem Settles.wpOp {i : Nat} {o : Oper} {v : Value} {a : Act} (hi : ops[i]? = some o) (h : Settles P ops S o v a) {K : Act → World → Prop} {w : World} (hS : S w)
    (hK : ∀ w', S w' → K (a.put o.dst v) w') : wpOp P ops Q i K a w := by
  unfold Go.wpOp
  simp only [hi]
  rcases h with ⟨hw, hv⟩ | ⟨hw, rfl⟩
  · simp only [hw, if_true]
    have := hv w hS
    refine .inl ?_
    unfold Oper.wp
    generalize (execOp a.eval o).run P w = r at *
    cases r with
    | ok n w' =>
      cases n <;> simp only [LandsIn] at this <;> simp only [Oper.upon]
      case value u => obtain ⟨rfl, h2⟩ := this; exact hK _ h2
      case skip => obtain ⟨rfl, h2⟩ := this; exact hK _ h2
      case enter f args =>
        refine Calls.mono this fun e w'' he => ?_
        obtain ⟨rfl, h2⟩ := he
        exact hK _ h2
    | halt x w' => simp only [LandsIn] at this
  · simp only [hw, Bool.false_eq_true, if_false]
    exact hK _ hS

/-- Whatever order is picked: each operation comes to a value that hangs on the frame alone. -/
def Every (P : Program) (md : Region.Mode) (ops : Array Oper) (Q : Exit → Act → World → Prop) (S : World → Prop) : Nat → Array Bool → Act → Prop
  | 0, listed, a => Region.ready md ops listed = [] ∧ ∀ w, S w → Q .normal a w
  | fuel + 1, listed, a => (Region.ready md ops listed = [] → ∀ w, S w → Q .normal a w) ∧
    ∀ i ∈ Region.ready md ops listed, ∃ o v, ops[i]? = some o ∧ Settles P ops S o v a ∧ Every P md ops Q S fuel (listed.setIfInBounds i true) (a.put o.dst v)

theorem Every.sound : ∀ (fuel : Nat) (listed : Array Bool) (a : Act), Every P md ops Q S fuel listed a → ∀ w, S w → wpAny P md ops Q fuel listed a w
  | 0, _, _, h, w, hS => ⟨h.1, h.2 w hS⟩
  | fuel + 1, listed, a, h, w, hS => ⟨fun h0 => h.1 h0 w hS, fun i hi => by
      obtain ⟨o, v, ho, hs, hE⟩ := h.2 i hi
      exact hs.wpOp ho hS fun w' hS' => Every.sound fuel _ _ hE w' hS'⟩

theorem Every.first {i : Nat} {oi : Oper} {v : Value} (hi : ops[i]? = some oi) (hsel : ∀ (j : Nat) (o : Oper) cs b, ops[j]? = some o → o.op ≠ .select cs b) :
    ∀ (fuel : Nat) (listed : Array Bool) (a : Act),
      (∀ j oj, ops[j]? = some oj → j ≠ i → listed.getD j true = false → (∀ e ∈ oj.after, Region.binds md e = true → e.on ≠ i) → oi.apart ops oj = true) →
      i ∈ Region.ready md ops listed → Settles P ops S oi v a →
      Every P md ops Q S fuel (listed.setIfInBounds i true) (a.put oi.dst v) → Every P md ops Q S (fuel + 1) listed a := by
  intro fuel
  induction fuel with
  | zero =>
    intro listed a _ hr hy H
    refine ⟨fun h => (by rw [h] at hr; cases hr), fun j hj => ?_⟩
    by_cases hji : j = i
    · subst hji; exact ⟨oi, v, hi, hy, H⟩
    · have := ready_mono hj hji
      rw [H.1] at this
      cases this
  | succ fuel ih =>
    intro listed a hfree hr hy H
    refine ⟨fun h => (by rw [h] at hr; cases hr), fun j hj => ?_⟩
    by_cases hji : j = i
    · subst hji; exact ⟨oi, v, hi, hy, H⟩
    · obtain ⟨oj, u, hoj, hsj, hE⟩ := H.2 j (ready_mono hj hji)
      obtain ⟨hjun, oj', hoj', hall⟩ := mem_ready.1 hj
      obtain rfl : oj = oj' := Option.some.inj (hoj.symm.trans hoj')
      have hnot : ∀ e ∈ oj.after, Region.binds md e = true → e.on ≠ i := fun e he hb heq => by
        have h1 := hall e he hb
        have h0 := (mem_ready.1 hr).1
        rw [heq] at h1
        rcases Nat.lt_or_ge i listed.size with h' | h'
        · simp [h'] at h0 h1; rw [h0] at h1; cases h1
        · simp [Array.getElem?_eq_none h'] at h1
      have hap := hfree j oj hoj hji hjun hnot
      obtain ⟨p1, p2, p3⟩ := Oper.apart_spec hap
      have hfree' : ∀ k ok, ops[k]? = some ok → k ≠ i → (listed.setIfInBounds j true).getD k true = false →
          (∀ e ∈ ok.after, Region.binds md e = true → e.on ≠ i) → oi.apart ops ok = true := fun k ok hk hki hun hno => by
        refine hfree k ok hk hki ?_ hno
        by_cases hjk : j = k
        · subst hjk; exact hjun
        · rw [getD_set_ne true hjk] at hun; exact hun
      refine ⟨oj, u, hoj, hsj.of_same (execOp_put oj (fun cs b => hsel j oj cs b hoj) a oi.dst v p1).symm (wanted_put oj a oi.dst v p1).symm, ?_⟩
      refine ih (listed.setIfInBounds j true) (a.put oj.dst u) hfree' (ready_mono hr (Ne.symm hji)) (hy.of_same (execOp_put oi (fun cs b => hsel i oi cs b hi) a oj.dst u p3) (wanted_put oi a oj.dst u p3)) ?_
      rw [Array.setIfInBounds_comm _ _ hji, ← Act.put_comm a v u p2]
      exact hE

/-- The operations of the text from k on, in its order. -/
def firstK (n k : Nat) : Array Bool := Array.ofFn (n := n) fun i => decide (i.1 < k)
def textFits (md : Region.Mode) (ops : Array Oper) : Bool :=
  Region.noSelect ops && (List.range ops.size).all fun k => Region.free md ops (firstK ops.size k) k && (Region.ready md ops (firstK ops.size k)).contains k
def InText (P : Program) (md : Region.Mode) (ops : Array Oper) (Q : Exit → Act → World → Prop) (S : World → Prop) (rest : List Oper) (a : Act) : Prop :=
  ∀ k, k + rest.length = ops.size → ops.toList.drop k = rest → Every P md ops Q S rest.length (firstK ops.size k) a

theorem firstK_succ (n k : Nat) : (firstK n k).setIfInBounds k true = firstK n (k + 1) := by
  apply Array.ext
  · simp [firstK]
  · intro i h1 h2
    by_cases hik : i = k
    · subst hik
      simp [firstK]
    · have e := Array.getElem_setIfInBounds_ne (xs := firstK n k) (i := k) (j := i) (a := true) (by simpa using h1) (by omega)
      rw [e]
      simp only [firstK, Array.getElem_ofFn]
      congr 1
      apply propext
      omega

theorem InText.nil {a : Act} (h : ∀ w, S w → Q .normal a w) : InText P md ops Q S [] a := fun k hk _ => by
  refine ⟨?_, h⟩
  have hk' : k = ops.size := by simpa using hk
  subst hk'
  unfold Region.ready
  rw [List.filter_eq_nil_iff]
  intro i hi
  have : i < ops.size := by simpa using hi
  simp [firstK, this]

theorem InText.cons {o : Oper} {rest : List Oper} {a : Act} {v : Value} (hf : textFits md ops = true) (hs : Settles P ops S o v a) (h : InText P md ops Q S rest (a.put o.dst v)) : InText P md ops Q S (o :: rest) a := fun k hk hd => by
  unfold textFits at hf
  rw [Bool.and_eq_true, List.all_eq_true] at hf
  have hlt : k < ops.size := by simp at hk; omega
  have hf2 := hf.2 k (by simpa using hlt)
  rw [Bool.and_eq_true] at hf2
  have ho : ops[k]? = some o := by
    have h0 : (ops.toList.drop k)[0]? = some o := by rw [hd]; rfl
    simpa using h0
  have hsel : ∀ (j : Nat) (o : Oper) cs b, ops[j]? = some o → o.op ≠ .select cs b := Region.noSelect_spec hf.1
  refine Every.first ho hsel rest.length (firstK ops.size k) a (Region.free_spec ho hf2.1) (by simpa using hf2.2) hs ?_
  rw [firstK_succ]
  refine h (k + 1) (by simp at hk; omega) ?_
  rw [← List.drop_drop, hd]
  rfl

/-- The start. -/
theorem wp_text {id : Nat} {a : Act} {w : World} (hm : P.follows .mixedOrders = true) (hf : textFits .any ops = true) (hS : S w.drew) (h : textFits .any ops = true → InText P .any ops Q S ops.toList a) : (Code.region id ops true).wp P Q a w :=
  wp_region_any hm (by
    have h0 := h hf 0 (by simp) rfl
    have e : firstK ops.size 0 = Array.replicate ops.size false := by
      apply Array.ext
      · simp [firstK]
      · intro i h1 h2; simp [firstK]
    rw [e] at h0
    simpa using Every.sound _ _ _ h0 _ hS)

/-- One step each: a value (arithmetic, a load, a move). -/
theorem text_value {o : Oper} {rest : List Oper} {a : Act} {v : Value} (hf : textFits md ops = true) (hw : Region.wanted o (yielded ops a.tmps) = true) (hv : ∀ w, S w → (execOp a.eval o).run P w = .ok (.value v) w)
    (h : InText P md ops Q S rest (a.put o.dst v)) : InText P md ops Q S (o :: rest) a :=
  InText.cons hf (Or.inl ⟨hw, fun w hS => by rw [hv w hS]; exact ⟨rfl, hS⟩⟩) h
/-- .. an operation that is not wanted .. -/
theorem text_off {o : Oper} {rest : List Oper} {a : Act} (hf : textFits md ops = true) (hw : Region.wanted o (yielded ops a.tmps) = false) (h : InText P md ops Q S rest (a.put o.dst undef)) : InText P md ops Q S (o :: rest) a :=
  InText.cons hf (Or.inr ⟨hw, rfl⟩) h
/-- .. a call. -/
theorem text_call {o : Oper} {rest : List Oper} {a : Act} {v : Value} {f : FuncId} {args : Array Value} (hf : textFits md ops = true) (hw : Region.wanted o (yielded ops a.tmps) = true) (hr : ∀ w, S w → (execOp a.eval o).run P w = .ok (.enter f args) w)
    (hc : ∀ w, S w → Calls P f args w fun e w' => e = .returned v ∧ S w') (h : InText P md ops Q S rest (a.put o.dst v)) : InText P md ops Q S (o :: rest) a :=
  InText.cons hf (Or.inl ⟨hw, fun w hS => by rw [hr w hS]; exact hc w hS⟩) h
end
end Go.Proofs.YtdknbegcflldjaaGreatDoor

/- Threads: contracts of Hold, Take, Drop. -/
namespace Go.Proofs.YtdknbegcflldjaaGreatDoor
open Go.RowKit Go.Maps
set_option maxRecDepth 100000

section
variable {w0 w : World} {L : List Item} {c q kq : Nat} {F : Nat → Prop} {ql : List Trip} {k s b h l e r hs hi : Int}

set_option maxHeartbeats 1600000 in
theorem holdState_c (a d : Int) (hh : hs ≠ 0) (hb : Blk 0 w c (crv k s b h l e r hs hi q)) :
    Calls Tryz.prog 313 #[.pointer (some ⟨c, 0, none⟩), .agg #[.int .i64 a, .int .i64 d]] w fun o w' => o = .returned (.int .i64 10) ∧ Below w.heap.size w w' := by
  have hF := (Fr.start w).push w.heap.size rfl [.int .i64 a, .int .i64 d] 136
  have hb1 := hb.under hF.below
  have hn : (hs != 0) = true := by simpa using hh
  clear hb hh
  go_enter Tryz.func313, Tryz.ntmps313
  go_wp2_with fail
  refine (held_c hb1).mono ?_
  rintro o w1 ⟨rfl, hb⟩
  rw [hn]
  replace hF := hF.over hb
  clear hb hb1
  go_wp2_with fail
  go_ret
  exact ⟨rfl, hF.below.alloc hF.below.size _⟩

set_option maxHeartbeats 1600000 in
theorem holdArg_c (a d : Int) (hh : hs = 0) (ha : a < 1 ∨ s < a) (hb : Blk 0 w c (crv k s b h l e r hs hi q)) :
    Calls Tryz.prog 313 #[.pointer (some ⟨c, 0, none⟩), .agg #[.int .i64 a, .int .i64 d]] w fun o w' => o = .returned (.int .i64 1) ∧ Below w.heap.size w w' := by
  have hF := (Fr.start w).push w.heap.size rfl [.int .i64 a, .int .i64 d] 136
  have hb1 := hb.under hF.below
  have hn : (hs != 0) = false := by simpa using hh
  clear hh
  clear hb
  go_enter Tryz.func313, Tryz.ntmps313
  go_wp2_with fail
  refine (held_c hb1).mono ?_
  rintro o w1 ⟨rfl, hb⟩
  rw [hn]
  replace hF := hF.over hb
  replace hb1 := hb1.under hb
  clear hb
  unfold crv at hb1
  replace hF := hF.push w1.heap.size rfl [.int .i64 hs, .int .i64 hi] 136
  replace hb1 := hb1.more (.cells [.int .i64 hs, .int .i64 hi].toArray 136)
  have hX := hF.blk 1 rfl (by omega)
  have hE := hF.below
  clear hF
  go_wp2_with fail
  by_cases ha1 : a < 1
  · have hd : decide (a < 1) = true := by simpa using ha1
    refine wp_text (S := (fun w' => Below w.heap.size w w' ∧ Blk 0 w' c [.int .i64 k, .int .i64 s, .int .i64 b, .int .i64 h, .int .i64 l, .int .i64 e, .int .i64 r, .int .i64 hs, .int .i64 hi, .pointer (some ⟨q, 0, none⟩)] ∧ Blk 0 w' w.heap.size [.int .i64 a, .int .i64 d])) (by kernel_rfl) (by kernel_rfl) ⟨hE.drew, hb1.drew, hX.drew⟩ (fun hT => ?_)
    have hT9 := Lib.hid hT
    clear hT
    repeat (first
      | (refine text_value (v := ?_) hT9.out (by rfl) ?_ ?_; rotate_left; (focus (intro w5 hS; have r1 := Blk.rule hS.2.1; have r2 := Blk.rule hS.2.2; go_simp <;> with_reducible rfl)); (try simp only [Act.put, List.setIfInBounds_toArray, List.set_cons_zero, List.set_cons_succ]))
      | (refine text_off hT9.out (by rfl) ?_; (try simp only [Act.put, List.setIfInBounds_toArray, List.set_cons_zero, List.set_cons_succ]))
      | (refine text_call (v := ?_) (f := ?_) (args := ?_) hT9.out (by rfl) ?_ ?_ ?_; rotate_left 3; (focus (intro w5 hS; have r1 := Blk.rule hS.2.1; have r2 := Blk.rule hS.2.2; go_simp; constructor <;> with_reducible rfl)); (focus (intro w5 hS; (first | fail))); (try simp only [Act.put, List.setIfInBounds_toArray, List.set_cons_zero, List.set_cons_succ])))
    refine InText.nil fun w5 hS5 => ?_
    clear hT9
    go_wp2_with fail
    go_ret
    exact ⟨rfl, hS5.1⟩
  · have hd : decide (a < 1) = false := by simpa using ha1
    have hd2 : decide (s < a) = true := by simp; omega
    refine wp_text (S := (fun w' => Below w.heap.size w w' ∧ Blk 0 w' c [.int .i64 k, .int .i64 s, .int .i64 b, .int .i64 h, .int .i64 l, .int .i64 e, .int .i64 r, .int .i64 hs, .int .i64 hi, .pointer (some ⟨q, 0, none⟩)] ∧ Blk 0 w' w.heap.size [.int .i64 a, .int .i64 d])) (by kernel_rfl) (by kernel_rfl) ⟨hE.drew, hb1.drew, hX.drew⟩ (fun hT => ?_)
    have hT9 := Lib.hid hT
    clear hT
    repeat (first
      | (refine text_value (v := ?_) hT9.out (by rfl) ?_ ?_; rotate_left; (focus (intro w5 hS; have r1 := Blk.rule hS.2.1; have r2 := Blk.rule hS.2.2; go_simp <;> with_reducible rfl)); (try simp only [Act.put, List.setIfInBounds_toArray, List.set_cons_zero, List.set_cons_succ]))
      | (refine text_off hT9.out (by rfl) ?_; (try simp only [Act.put, List.setIfInBounds_toArray, List.set_cons_zero, List.set_cons_succ]))
      | (refine text_call (v := ?_) (f := ?_) (args := ?_) hT9.out (by rfl) ?_ ?_ ?_; rotate_left 3; (focus (intro w5 hS; have r1 := Blk.rule hS.2.1; have r2 := Blk.rule hS.2.2; go_simp; constructor <;> with_reducible rfl)); (focus (intro w5 hS; (first | fail))); (try simp only [Act.put, List.setIfInBounds_toArray, List.set_cons_zero, List.set_cons_succ])))
    refine InText.nil fun w5 hS5 => ?_
    clear hT9
    go_wp2_with fail
    go_ret
    exact ⟨rfl, hS5.1⟩

set_option maxHeartbeats 1600000 in
theorem holdYes_c (a d : Int) (hh : hs = 0) (ha : 1 ≤ a ∧ a ≤ s) (m : Nat) (hE : Env w0 L w) (hm : L[m]? = some (coreI c k s b h l e r hs hi q)) :
    Calls Tryz.prog 313 #[.pointer (some ⟨c, 0, none⟩), .agg #[.int .i64 a, .int .i64 d]] w fun o w' => o = .returned (.int .i64 0) ∧ Env w0 (L.set m (coreI c k s b h l e r a d q)) w' := by
  have hE1 := hE.box w.heap.size rfl [.int .i64 a, .int .i64 d] 136
  have hm1 : (boxI w.heap.size [.int .i64 a, .int .i64 d] :: L)[m + 1]? = some (coreI c k s b h l e r hs hi q) := hm
  have hn : (hs != 0) = false := by simpa using hh
  clear hh
  have hd : decide (a < 1) = false := by simp; omega
  have hd2 : decide (s < a) = false := by simp; omega
  clear hE
  go_enter Tryz.func313, Tryz.ntmps313
  go_wp2_with fail
  refine (held_c (hE1.get (m + 1) hm1)).mono ?_
  rintro o w1 ⟨rfl, hb⟩
  rw [hn]
  replace hE1 := hE1.over hb
  clear hb
  replace hE1 := hE1.box w1.heap.size rfl [.int .i64 hs, .int .i64 hi] 136
  generalize w.heap.size = X at *
  go_wp2_with fail
  generalize w1.heap.size = Y at *
  generalize w1.alloc _ = w2 at *
  have hm2 : (boxI Y [.int .i64 hs, .int .i64 hi] :: boxI X [.int .i64 a, .int .i64 d] :: L)[m + 2]? = some (coreI c k s b h l e r hs hi q) := hm
  have HCB : Hid (∀ v, Env w0 (boxI Y [.int .i64 hs, .int .i64 hi] :: boxI X [.int .i64 a, .int .i64 d] :: L) v → Blk 0 v c [.int .i64 k, .int .i64 s, .int .i64 b, .int .i64 h, .int .i64 l, .int .i64 e, .int .i64 r, .int .i64 hs, .int .i64 hi, .pointer (some ⟨q, 0, none⟩)]) := Lib.hid fun v hv => hv.get (m + 2) hm2
  refine wp_text (S := (Env w0 (boxI Y [.int .i64 hs, .int .i64 hi] :: boxI X [.int .i64 a, .int .i64 d] :: L))) (by kernel_rfl) (by kernel_rfl) hE1.drew (fun hT => ?_)
  have hT9 := Lib.hid hT
  clear hT
  repeat (first
    | (refine text_value (v := ?_) hT9.out (by rfl) ?_ ?_; rotate_left; (focus (intro w5 hS; have r1 := Blk.rule (HCB.out _ hS); have r2 := hS.rule 1 rfl; go_simp <;> with_reducible rfl)); (try simp only [Act.put, List.setIfInBounds_toArray, List.set_cons_zero, List.set_cons_succ]))
    | (refine text_off hT9.out (by rfl) ?_; (try simp only [Act.put, List.setIfInBounds_toArray, List.set_cons_zero, List.set_cons_succ]))
    | (refine text_call (v := ?_) (f := ?_) (args := ?_) hT9.out (by rfl) ?_ ?_ ?_; rotate_left 3; (focus (intro w5 hS; have r1 := Blk.rule (HCB.out _ hS); have r2 := hS.rule 1 rfl; go_simp; constructor <;> with_reducible rfl)); (focus (intro w5 hS; (first | fail))); (try simp only [Act.put, List.setIfInBounds_toArray, List.set_cons_zero, List.set_cons_succ])))
  refine InText.nil fun w5 hS5 => ?_
  clear hT9
  clear hE1
  have r1 := Blk.rule (HCB.out _ hS5)
  have r2 := hS5.rule 1 rfl
  have ff := hS5.thaw (m + 2) hm2
  have f7 := ff 7 (by simp [crv])
  have f8 := ff 8 (by simp [crv])
  clear ff
  go_wp2_with fail
  go_ret
  have hE9 := hS5.put (m + 2) hm2 (j := 7) (by simp [crv]) (.int .i64 a)
  have hml : m < L.length := (List.getElem?_eq_some_iff.1 hm).1
  have hE10 := hE9.put (m + 2) (by rw [List.getElem?_set_self (by simpa using hml)]) (j := 8) (by simp [crv]) (.int .i64 d)
  rw [List.set_set] at hE10
  exact ⟨rfl, hE10.sub (.cons _ (.cons _ (List.Sublist.refl _)))⟩

end
end Go.Proofs.YtdknbegcflldjaaGreatDoor

/- Contracts of layer 5: a slot's place. -/
namespace Go.Proofs.YtdknbegcflldjaaGreatDoor
open Go.RowKit
set_option maxRecDepth 100000

set_option maxHeartbeats 400000 in
theorem placeOf_any (y z : Int) (w : World) : Calls Tryz.prog 56 #[.int .i64 y, .int .i64 z] w fun e w' => e = .returned (.agg #[.int .i64 5, .int .i64 y, .int .i64 z]) ∧ Below w.heap.size w w' := by
  go_enter Tryz.func56, Tryz.ntmps56
  go_wp2
  exact bodyPost_ret (v := .agg #[.int .i64 5, .int .i64 y, .int .i64 z]) (by simp [results, Tryz.results56, go_sem]) rfl ⟨rfl, (Below.refl _ _).alloc (Nat.le_refl _) _⟩
end Go.Proofs.YtdknbegcflldjaaGreatDoor

/- Layer 5: Pool and Fresh. -/
namespace Go.Proofs.YtdknbegcflldjaaGreatDoor
open Go.RowKit
set_option maxRecDepth 100000

set_option maxHeartbeats 400000 in
theorem pool_any (w : World) : Calls Tryz.prog 228 #[] w fun e w' => e = .returned (.agg #[.int .i64 2, .int .i64 0, .int .i64 0]) ∧ Below w.heap.size w w' := by
  go_enter Tryz.func228, Tryz.ntmps228
  go_wp2
  exact bodyPost_ret (v := .agg #[.int .i64 2, .int .i64 0, .int .i64 0]) (by simp [results, Tryz.results228, go_sem]) rfl ⟨rfl, (Below.refl _ _).alloc (Nat.le_refl _) _⟩
set_option maxHeartbeats 400000 in
theorem fresh_any (w : World) : Calls Tryz.prog 310 #[] w fun e w' => e = .returned (.agg #[.int .i64 3, .int .i64 0, .int .i64 0]) ∧ Below w.heap.size w w' := by
  go_enter Tryz.func310, Tryz.ntmps310
  go_wp2
  exact bodyPost_ret (v := .agg #[.int .i64 3, .int .i64 0, .int .i64 0]) (by simp [results, Tryz.results310, go_sem]) rfl ⟨rfl, (Below.refl _ _).alloc (Nat.le_refl _) _⟩
end Go.Proofs.YtdknbegcflldjaaGreatDoor

/- Contracts of functions of layer 2 that go by the others: To, Marked. -/
namespace Go.Proofs.YtdknbegcflldjaaGreatDoor
open Go.RowKit
set_option maxRecDepth 100000

set_option maxHeartbeats 400000 in
theorem to_any (s v : Int) (w : World) (hg : Glo w) :
    Calls Tryz.prog 264 #[.int .i64 s, .int .i64 v] w fun e w' => e = .returned (.int .u64 (wordI false s v)) ∧ Below w.heap.size w w' := by
  go_enter Tryz.func264, Tryz.ntmps264
  go_wp2_with fail
  refine (word_any false s v _ hg).mono ?_
  rintro e w1 ⟨rfl, hb⟩
  go_wp2_with fail
  go_ret
  exact ⟨rfl, hb⟩

end Go.Proofs.YtdknbegcflldjaaGreatDoor

/- Contracts of the functions of layer 2. -/
namespace Go.Proofs.YtdknbegcflldjaaGreatDoor
open Go.RowKit
set_option maxRecDepth 100000

set_option maxHeartbeats 400000 in
theorem version_any (x : Int) (w : World) (hg : Glo w) (h0 : 0 ≤ x) (h1 : x ≤ 18446744073709551615) :
    Calls Tryz.prog 261 #[.int .u64 x] w fun e w' => e = .returned (.int .i64 (verI x)) ∧ Below w.heap.size w w' := by
  obtain ⟨⟨c0, c1⟩, -, -, hs, -, -⟩ := hg
  obtain ⟨k0, k1⟩ := verI_in x
  have HG := Lib.hid (get_version x h0)
  go_enter Tryz.func261, Tryz.ntmps261
  go_wp2_with fail
  refine (get_any 0 40 x _ (by decide) (by decide) h0 h1).mono ?_
  rintro e w1 ⟨rfl, hb⟩
  rw [HG.out]
  go_wp2
  go_ret
  exact ⟨rfl, hb⟩

end Go.Proofs.YtdknbegcflldjaaGreatDoor

/- Contracts of the functions of layer 2 that go by the others: Of, To, Marked, Newer, Next. -/
namespace Go.Proofs.YtdknbegcflldjaaGreatDoor
open Go.RowKit
set_option maxRecDepth 100000

theorem ret_int2 {k l : IntKind} {x y u v : Int} (h : x = y) (g : u = v) : Ending.returned (.tuple #[.int k x, .int l u]) = .returned (.tuple #[.int k y, .int l v]) := by rw [h, g]

set_option maxHeartbeats 400000 in
theorem next_any (x s : Int) (w : World) (hg : Glo w) (h0 : 0 ≤ x) (h1 : x ≤ 18446744073709551615) :
    Calls Tryz.prog 308 #[.int .u64 x, .int .i64 s] w fun e w' => e = .returned (.tuple #[.int .u64 (nextW x s), .int .i64 (nextE x s)]) ∧ Below w.heap.size w w' := by
  cases hS : isS s
  · have HW := Lib.hid (show nextW x s = 0 by simp [nextW, hS])
    have HE := Lib.hid (show nextE x s = 3 by simp [nextE, hS])
    have H := Lib.hid hS
    clear hS
    go_enter Tryz.func308, Tryz.ntmps308
    go_wp2_with fail
    refine (isSlot_any s _).mono ?_
    rintro e w1 ⟨rfl, rfl⟩
    rw [H.out]
    go_wp2_with fail
    go_ret2
    exact ⟨ret_int2 HW.out.symm HE.out.symm, Below.refl _ _⟩
  · obtain ⟨k0, k1⟩ := verI_in x
    by_cases hv : verI x = 1099511627775
    · have HW := Lib.hid (show nextW x s = 0 by simp [nextW, hS, hv])
      have HE := Lib.hid (show nextE x s = 7 by simp [nextE, hS, hv])
      have H := Lib.hid hS
      have HV := Lib.hid hv
      clear hS hv
      go_enter Tryz.func308, Tryz.ntmps308
      go_wp2_with fail
      refine (isSlot_any s _).mono ?_
      rintro e w1 ⟨rfl, rfl⟩
      rw [H.out]
      go_wp2_with fail
      refine (version_any x _ hg h0 h1).mono ?_
      rintro e w1 ⟨rfl, hb⟩
      rw [HV.out]
      go_wp2_with fail
      go_ret2
      exact ⟨ret_int2 HW.out.symm HE.out.symm, hb⟩
    · have HW := Lib.hid (show nextW x s = wordI false s (verI x + 1) by simp [nextW, hS, hv])
      have HE := Lib.hid (show nextE x s = 0 by simp [nextE, hS, hv])
      have H := Lib.hid hS
      have hv2 : verI x < 1099511627775 := by omega
      clear hS hv
      generalize hy : verI x = y at *
      have HY := Lib.hid hy
      clear hy
      go_enter Tryz.func308, Tryz.ntmps308
      go_wp2_with fail
      refine (isSlot_any s _).mono ?_
      rintro e w1 ⟨rfl, rfl⟩
      rw [H.out]
      go_wp2_with fail
      refine (version_any x _ hg h0 h1).mono ?_
      rintro e w1 ⟨rfl, hb⟩
      rw [HY.out]
      have hg1 := hg.keep' hb
      go_wp2_with fail
      refine (version_any x _ hg1 h0 h1).mono ?_
      rintro e w2 ⟨rfl, hb2⟩
      rw [HY.out]
      have hg2 := hg1.keep' hb2
      go_wp2_with fail
      refine (to_any s _ _ hg2).mono ?_
      rintro e w3 ⟨rfl, hb3⟩
      go_wp2_with fail
      go_ret2
      exact ⟨ret_int2 HW.out.symm HE.out.symm, (hb.trans (hb2.mono (by have := hb.size; omega))).trans (hb3.mono (by have := hb.size; have := hb2.size; omega))⟩
end Go.Proofs.YtdknbegcflldjaaGreatDoor

/- A thread's things and the world's, in an order; makeFunc. General. -/
namespace Go.Proofs.YtdknbegcflldjaaGreatDoor
open Go.RowKit Go.Maps
set_option maxRecDepth 100000

/-- A thread's things, and the world's. -/
structure ST where
  (c q p cc : Nat)
  (ck cs cb ch cl ce cr hs : Int)
  (F : Nat → Prop)
  (ql : List Trip)
  (kq : Nat)
  (G : Nat → Prop)
  (f : Plc → Int)
  (qc : Cnt)
  (m : Nat)
def LT (S : ST) (R : List Item) : List Item := coreI S.c S.ck S.cs S.cb S.ch S.cl S.ce S.cr S.hs 0 S.q :: queueI S.q S.F S.ql S.kq :: wbox S.p S.cc :: cellI S.cc S.G S.f S.qc S.m :: R
theorem slot_of (v : World) (a b : Int) : (Instr.field 136 (.agg #[.int .i64 a, .int .i64 b]) 0).run Tryz.prog v = .ok (.int .i64 a) v := by kernel_rfl
theorem makeF (fn : Fn) (first cap : Array Value) (w : World) : (Instr.makeFunc fn first cap).run Tryz.prog w = .ok (.func fn first cap) w := rfl
end Go.Proofs.YtdknbegcflldjaaGreatDoor

/- Machines' rows: which one is next; how they end; a step of theirs; what is played. -/
namespace Go.Proofs.YtdknbegcflldjaaGreatDoor
open Go.RowKit Go.Maps
set_option maxRecDepth 100000

/-- A method value. -/
def mvL (f a : Nat) : Value := .func (.func f) #[.pointer (some ⟨a, 0, none⟩)] #[]
section
variable {w0 w : World} {L : List Item} {a o : Nat} {vs : List Value}
set_option maxHeartbeats 800000 in
theorem goOn_r (m : Nat) (fn : Fn) (fs cs : Array Value) (hv : o < vs.length) (hE : Env w0 L w) (hm : L[m]? = some (boxI a vs)) :
    Calls Tryz.prog 116 #[.pointer (some ⟨a, o, none⟩), .func fn fs cs] w fun r w' => r = .returned (.int .i64 0) ∧ Env w0 (L.set m (boxI a (vs.set o (.func fn fs cs)))) w' := by
  have f1 := hE.thaw m hm o hv
  have r1 : ∃ u, w.cell? ⟨a, o, none⟩ = some u := ⟨_, (hE.rule m hm o).trans (List.getElem?_eq_getElem hv)⟩
  obtain ⟨u1, r1⟩ := r1
  have hP := hE.put m hm (j := o) hv (.func fn fs cs)
  clear hv hm hE
  go_enter Tryz.func116, Tryz.ntmps116
  go_wp2_with fail
  go_ret
  exact ⟨rfl, hP⟩
set_option maxHeartbeats 800000 in
theorem end_r (m : Nat) (s : Int) (hv : o + 1 < vs.length) (hE : Env w0 L w) (hm : L[m]? = some (boxI a vs)) :
    Calls Tryz.prog 194 #[.pointer (some ⟨a, o, none⟩), .int .i64 s] w fun r w' => r = .returned (.int .i64 s) ∧ Env w0 (L.set m (boxI a (vs.set (o + 1) (.int .i64 s)))) w' := by
  have f1 := hE.thaw m hm (o + 1) hv
  have r1 : ∃ u, w.cell? ⟨a, o + 1, none⟩ = some u := ⟨_, (hE.rule m hm (o + 1)).trans (List.getElem?_eq_getElem hv)⟩
  obtain ⟨u1, r1⟩ := r1
  have hP := hE.put m hm (j := o + 1) hv (.int .i64 s)
  clear hv hm hE
  go_enter Tryz.func194, Tryz.ntmps194
  go_wp2_with fail
  go_ret
  exact ⟨rfl, hP⟩
theorem caught_r (w : World) : CallsD Tryz.prog 118 #[] .returning w fun e u' w' => u' = .returning ∧ e = .returned (.tuple #[]) ∧ w' = w := by
  refine callsD_of_wpS Tryz.func118 rfl fun c₀ cs hu => ?_
  apply wpS_region
  cases c₀
  simp_all [wpOpsS, go_sem, recoverD, Tryz.ntmps118, Exit.thenS, bodyPostS, results, Tryz.results118]
set_option maxHeartbeats 800000 in
theorem stepMv_r (X : Nat) (hx : ∀ (ar : Array Value) (v : World), (callFunc X ar).run Tryz.prog v = .ok (.enter X ar) v) (r u : Value) (Q : Ending → World → Prop) (hn : w.cell? ⟨a, o, none⟩ = some (.func (.func X) #[r] #[])) (hs : w.cell? ⟨a, o + 1, none⟩ = some (.int .i64 0)) (hc : Calls Tryz.prog X #[r, u] w fun e w' => ∃ s, e = .returned (.int .i64 s) ∧ Q (.returned (.int .i64 s)) w') :
    Calls Tryz.prog 67 #[.pointer (some ⟨a, o, none⟩), u] w Q := by
  have hmf := makeF
  go_enter_defers Tryz.func67, Tryz.ntmps67
  go_wp2_with fail
  refine hc.mono ?_
  rintro e w1 ⟨s, rfl, hQ⟩
  go_wp2_with fail
  refine leaves_cons (f := 118) (args := #[]) (by simp) (by simp [go_sem]) ?_
  refine (caught_r _).mono ?_
  rintro e u' w'' ⟨rfl, rfl, rfl⟩
  exact ⟨.int .i64 s, by simp [results, Tryz.results67, go_sem], hQ⟩
set_option maxHeartbeats 800000 in
theorem stepCv_r (X b1 b2 : Nat) (hx : ∀ (ar : Array Value) (v : World), (callFunc X ar).run Tryz.prog v = .ok (.enter X ar) v) (u : Value) (Q : Ending → World → Prop) (hn : w.cell? ⟨a, o, none⟩ = some (.func (.func X) #[] #[.pointer (some ⟨b1, 0, none⟩), .pointer (some ⟨b2, 0, none⟩)])) (hs : w.cell? ⟨a, o + 1, none⟩ = some (.int .i64 0)) (hc : Calls Tryz.prog X #[u, .pointer (some ⟨b1, 0, none⟩), .pointer (some ⟨b2, 0, none⟩)] w fun e w' => ∃ s, e = .returned (.int .i64 s) ∧ Q (.returned (.int .i64 s)) w') :
    Calls Tryz.prog 67 #[.pointer (some ⟨a, o, none⟩), u] w Q := by
  have hmf := makeF
  go_enter_defers Tryz.func67, Tryz.ntmps67
  go_wp2_with fail
  refine hc.mono ?_
  rintro e w1 ⟨s, rfl, hQ⟩
  go_wp2_with fail
  refine leaves_cons (f := 118) (args := #[]) (by simp) (by simp [go_sem]) ?_
  refine (caught_r _).mono ?_
  rintro e u' w'' ⟨rfl, rfl, rfl⟩
  exact ⟨.int .i64 s, by simp [results, Tryz.results67, go_sem], hQ⟩
/-- The row that is next of a machine that begins with its thread, as a box's second and third cell. -/
theorem goOn_m (m : Nat) (fn : Fn) (fs cs : Array Value) (hv : 1 < vs.length) (hz : vs[2]? = some (.int .i64 0)) (hE : Env w0 L w) (hm : L[m]? = some (boxI a vs)) :
    Calls Tryz.prog 116 #[.pointer (some ⟨a, 1, none⟩), .func fn fs cs] w fun o w' => o = .returned (.int .i64 0) ∧ Env w0 (L.set m (boxI a ((vs.set 1 (.func fn fs cs)).set 2 (.int .i64 0)))) w' := by
  refine (goOn_r (o := 1) m fn fs cs hv hE hm).mono ?_
  rintro o w1 ⟨rfl, h⟩
  have h2 : (vs.set 1 (.func fn fs cs)).set 2 (.int .i64 0) = vs.set 1 (.func fn fs cs) := by
    apply List.ext_getElem?
    intro i
    by_cases hi : i = 2
    · subst hi
      have hl : 2 < vs.length := (List.getElem?_eq_some_iff.1 hz).1
      rw [List.getElem?_set_self (by rw [List.length_set]; exact hl), List.getElem?_set_ne (by decide), hz]
    · rw [List.getElem?_set_ne (fun e => hi e.symm)]
  rw [h2]
  exact ⟨rfl, h⟩
theorem end_m (m : Nat) (s : Int) (hv : 2 < vs.length) (hE : Env w0 L w) (hm : L[m]? = some (boxI a vs)) :
    Calls Tryz.prog 194 #[.pointer (some ⟨a, 1, none⟩), .int .i64 s] w fun o w' => o = .returned (.int .i64 s) ∧ ∃ nx : Value × Value, Env w0 (L.set m (boxI a ((vs.set 1 nx.1).set 2 nx.2))) w' := by
  refine (end_r (o := 1) m s hv hE hm).mono ?_
  rintro o w1 ⟨rfl, h⟩
  refine ⟨rfl, (vs[1], .int .i64 s), ?_⟩
  show Env w0 (L.set m (boxI a ((vs.set 1 vs[1]).set 2 (.int .i64 s)))) w1
  rw [List.set_getElem_self]
  exact h
end
end Go.Proofs.YtdknbegcflldjaaGreatDoor

/- Allocs, Retires, Gives: small functions. -/
namespace Go.Proofs.YtdknbegcflldjaaGreatDoor
open Go.RowKit Go.Maps
set_option maxRecDepth 100000

set_option maxHeartbeats 800000 in
theorem shared_any (x y z : Int) (w : World) : Calls Tryz.prog 227 #[.agg #[.int .i64 x, .int .i64 y, .int .i64 z]] w fun e w' => e = .returned (.agg #[.int .i64 x, .int .i64 y, .int .i64 z, .int .i64 0]) ∧ Below w.heap.size w w' := by
  have hE := ((Env.start w).box w.heap.size rfl [.int .i64 x, .int .i64 y, .int .i64 z] 105).box (w.heap.size + 1) (by simp) [.int .i64 0, .int .i64 0, .int .i64 0, .int .i64 0] 185
  have r := hE.rule 1 rfl
  have f := hE.thaw 0 rfl
  have f0 := f 0 (by simp)
  have f1 := f 1 (by simp)
  have f2 := f 2 (by simp)
  have f3 := f 3 (by simp)
  clear f
  go_enter Tryz.func227, Tryz.ntmps227
  go_wp2
  have hP := (((hE.put 0 rfl (j := 0) (by simp) (.int .i64 x)).put 0 rfl (j := 1) (by simp) (.int .i64 y)).put 0 rfl (j := 2) (by simp) (.int .i64 z)).put 0 rfl (j := 3) (by simp) (.int .i64 0)
  have q := hP.rule 0 rfl
  exact bodyPost_ret (v := .agg #[.int .i64 x, .int .i64 y, .int .i64 z, .int .i64 0]) (by simp [results, Tryz.results227, go_sem, q]) rfl ⟨rfl, ((Below.refl _ _).alloc (Nat.le_refl _) _).alloc (by simp) _⟩

set_option maxHeartbeats 1600000 in
theorem part_any (s d n : Int) (w : World) : Calls Tryz.prog 262 #[.agg #[.int .i64 s, .int .i64 d], .int .i64 n] w fun e w' => e = .returned (.agg #[.int .i64 5, .int .i64 s, .int .i64 n, .int .i64 d]) ∧ Below w.heap.size w w' := by
  have hF := ((Fr.start w).push w.heap.size rfl [.int .i64 s, .int .i64 d] 136).push (w.heap.size + 1) (by simp) [.int .i64 0, .int .i64 0, .int .i64 0, .int .i64 0] 185
  have hX := hF.blk 1 rfl (by omega)
  have hZ := hF.blk 0 rfl (by omega)
  have hE := hF.below
  clear hF
  go_enter Tryz.func262, Tryz.ntmps262
  go_wp2_with fail
  refine Ord.wp_chain [7] (fun w' => Below w.heap.size w w' ∧ Blk 0 w' w.heap.size [.int .i64 s, .int .i64 d]) (fun j w' => Blk 0 w' (w.heap.size + 1) (if j = 0 then [.int .i64 0, .int .i64 0, .int .i64 0, .int .i64 0] else [.int .i64 5, .int .i64 s, .int .i64 n, .int .i64 d])) (by kernel_rfl) (by kernel_rfl) (by kernel_rfl) ⟨hE.drew, hX.drew⟩ hZ.drew (fun hT => ?_)
  have hT9 := Lib.hid hT
  clear hT
  repeat (first
    | (refine Ord.ch_value (v := ?_) hT9.out (by decide) (by rfl) ?_ ?_; rotate_left; (focus (intro w5 hS; have r := Blk.rule hS.2; go_simp <;> with_reducible rfl)); (try simp only [Act.put, List.setIfInBounds_toArray, List.set_cons_zero, List.set_cons_succ]))
    | (refine Ord.ch_off hT9.out (by decide) (by rfl) ?_; (try simp only [Act.put, List.setIfInBounds_toArray, List.set_cons_zero, List.set_cons_succ]))
    | (refine Ord.ch_call (v := ?_) (f := ?_) (args := ?_) hT9.out (by decide) (by rfl) ?_ ?_ ?_; rotate_left 3; (focus (intro w5 hS; have r := Blk.rule hS.2; go_simp; constructor <;> with_reducible rfl)); (focus (intro w5 hS; (first | (with_reducible refine (placeOf_any _ _ _).mono ?_; rintro o w6 ⟨rfl, hb6⟩; constructor; with_reducible rfl; exact ⟨⟨hS.1.trans (hb6.mono hS.1.size), hS.2.under hb6⟩, fun _ h => h.under hb6⟩)))); (try simp only [Act.put, List.setIfInBounds_toArray, List.set_cons_zero, List.set_cons_succ])))
  refine Ord.ch_turn (v := undef) 0 hT9.out rfl (by decide) (Or.inl rfl) (by rfl) ?_ ?_
  · rintro w5 hS hA2
    simp only [if_true] at hA2
    have r := hA2.rule
    have f0 := hA2.thaw 0 (by simp)
    have f1 := hA2.thaw 1 (by simp)
    have f2 := hA2.thaw 2 (by simp)
    have f3 := hA2.thaw 3 (by simp)
    have hz := hS.1.size
    go_simp
    refine ⟨rfl, ⟨?_, ?_⟩, ?_⟩
    · exact below_set (below_set (below_set (below_set hS.1 hz (by omega) _) (by simp; omega) (by omega) _) (by simp; omega) (by omega) _) (by simp; omega) (by omega) _
    · exact (((hS.2.off (by omega) _).off (by omega) _).off (by omega) _).off (by omega) _
    · exact (((hA2.set (i := 0) (by simp) _).set (i := 1) (by simp) _).set (i := 2) (by simp) _).set (i := 3) (by simp) _
  (try simp only [Act.put, List.setIfInBounds_toArray, List.set_cons_zero, List.set_cons_succ])
  repeat (first
    | (refine Ord.ch_value (v := ?_) hT9.out (by decide) (by rfl) ?_ ?_; rotate_left; (focus (intro w5 hS; skip; go_simp <;> with_reducible rfl)); (try simp only [Act.put, List.setIfInBounds_toArray, List.set_cons_zero, List.set_cons_succ]))
    | (refine Ord.ch_off hT9.out (by decide) (by rfl) ?_; (try simp only [Act.put, List.setIfInBounds_toArray, List.set_cons_zero, List.set_cons_succ])))
  refine Ord.InText.nil fun w5 hS => ?_
  clear hT9
  obtain ⟨hC9, hA9⟩ := Ord.chain_end hS
  clear hS
  have q := hA9.rule
  simp only [show ¬ [7].length = 0 by decide, if_false] at q
  go_wp2
  exact bodyPost_ret (v := .agg #[.int .i64 5, .int .i64 s, .int .i64 n, .int .i64 d]) (by simp [results, Tryz.results262, go_sem, q]) rfl ⟨rfl, hC9.1⟩

set_option maxHeartbeats 800000 in
theorem epochOf_any (x d : Int) (t : Bool) (hx : InU x) (w : World) : Calls Tryz.prog 339 #[.agg #[.int .u64 x, .int .i64 d, .bool t]] w fun e w' => e = .returned (.int .i64 (epI x)) ∧ Below w.heap.size w w' := by
  have hE := (Env.start w).box w.heap.size rfl [.int .u64 x, .int .i64 d, .bool t] 180
  have r := hE.rule 0 rfl
  go_enter Tryz.func339, Tryz.ntmps339
  go_wp2_with fail
  refine (fint_any x hx _).mono ?_
  rintro e w1 ⟨rfl, rfl⟩
  go_wp2_with fail
  go_ret
  exact ⟨rfl, hE.below⟩

end Go.Proofs.YtdknbegcflldjaaGreatDoor

/- Queues: the contracts of Head, Pop, Find. -/
namespace Go.Proofs.YtdknbegcflldjaaGreatDoor
open Go.RowKit Go.Maps
set_option maxRecDepth 100000

set_option maxHeartbeats 800000 in
theorem head_any {w : World} {q k : Nat} {F : Nat → Prop} {l : List Trip} (x y z : Int) (hQ : IsQ w q F ((x, y, z) :: l) k) :
    Calls Tryz.prog 288 #[.pointer (some ⟨q, 0, none⟩)] w fun e w' => e = .returned (.tuple #[tv (x, y, z), .bool true]) ∧ Below w.heap.size w w' := by
  obtain ⟨hl1, hl2, hk2, hk⟩ := hQ.len
  have hQ0 := Lib.hid hQ
  obtain ⟨R, g, r, hq, hr, hring, _, _, hne, hF⟩ := hQ
  obtain ⟨hx, -⟩ := hring.pop
  have hrl := hring.1
  have h4 := pow_four hk2
  have hlt : g % 2 ^ k < 2 ^ k := Nat.mod_lt _ (by omega)
  have hcell : ∀ w', Blk 0 w' R (flat3 r) → w'.cell? ⟨R, g % 2 ^ k * 3, none⟩ = some (.int .i64 x) ∧ w'.cell? ⟨R, g % 2 ^ k * 3 + 1, none⟩ = some (.int .i64 y) ∧ w'.cell? ⟨R, g % 2 ^ k * 3 + 2, none⟩ = some (.int .i64 z) := fun w' h => by
    have e := fun c hc => (h.rule (g % 2 ^ k * 3 + c)).trans (flat3_get r (g % 2 ^ k) c (by omega) hc)
    rw [hx] at e
    exact ⟨e 0 (by omega), e 1 (by omega), e 2 (by omega)⟩
  have HA := Lib.hid fun w' => at_any R k g w' hk
  have hB := Blk.new 0 w [.int .i64 0, .int .i64 0, .int .i64 0] 158
  have hq1 := hq.more (.cells [.int .i64 0, .int .i64 0, .int .i64 0].toArray 158)
  have hr1 := hr.more (.cells [.int .i64 0, .int .i64 0, .int .i64 0].toArray 158)
  have hE := (Below.refl w.heap.size w).alloc (Nat.le_refl _) (.cells [.int .i64 0, .int .i64 0, .int .i64 0].toArray 158)
  have hqR : q < w.heap.size ∧ R < w.heap.size := ⟨hq.1, hr.1⟩
  have hz : ((((x, y, z) :: l).length : Int) == 0) = false := by simp; omega
  unfold qv at hq1
  generalize hG : (cnt g) = G at *
  generalize (cnt (g + ((x, y, z) :: l).length)) = C at *
  generalize ((x, y, z) :: l).length = n at *
  clear hq hr hring hF hx
  generalize g % 2 ^ k = p at *
  generalize 2 ^ k = N at *
  have HC := Lib.hid hcell
  clear hcell
  go_enter Tryz.func288, Tryz.ntmps288
  go_wp2_with fail
  refine (len_any (hQ0.out.below hE)).mono ?_
  rintro e w1 ⟨rfl, hb⟩
  have hB1 : Blk 0 w1 w.heap.size [.int .i64 0, .int .i64 0, .int .i64 0] := hB.kept hb.size (hb.block _ hB.1)
  have hq2 : Blk 0 w1 q _ := hq1.kept hb.size (hb.block _ hq1.1)
  have hr2 : Blk 0 w1 R _ := hr1.kept hb.size (hb.block _ hr1.1)
  have hE1 : Below w.heap.size w w1 := hE.trans (hb.mono (by simp))
  have hs1 : w.heap.size + 1 ≤ w1.heap.size := by have := hb.size; simpa using this
  clear hB hq1 hr1 hE hb hQ0
  have hz' : ((n : Int) == 0) = false := by simpa using hz
  go_wp2_with fail
  refine Ord.wp_chain [11] (fun w' => Blk 0 w' q [.slice (some ⟨R, 0, none⟩) N N, .int .u64 G, .int .u64 C] ∧ Blk 0 w' R (flat3 r)) (fun j w' => w.heap.size + 1 ≤ w'.heap.size ∧ Below w.heap.size w w' ∧ Blk 0 w' w.heap.size (if j = 0 then [.int .i64 0, .int .i64 0, .int .i64 0] else [.int .i64 x, .int .i64 y, .int .i64 z])) (by kernel_rfl) (by kernel_rfl) (by kernel_rfl) ⟨hq2.drew, hr2.drew⟩ ⟨hs1, hE1.drew, hB1.drew⟩ (fun hT => ?_)
  have hT9 := Lib.hid hT
  clear hT
  repeat (first
    | (refine Ord.ch_value (v := ?_) hT9.out (by decide) (by rfl) ?_ ?_; rotate_left; (focus (intro w5 hS; have r := Blk.rule hS.1; obtain ⟨c0, c1, c2⟩ := HC.out _ hS.2; go_simp <;> with_reducible rfl)); (try simp only [Act.put, List.setIfInBounds_toArray, List.set_cons_zero, List.set_cons_succ]))
    | (refine Ord.ch_off hT9.out (by decide) (by rfl) ?_; (try simp only [Act.put, List.setIfInBounds_toArray, List.set_cons_zero, List.set_cons_succ]))
    | (refine Ord.ch_call (v := ?_) (f := ?_) (args := ?_) hT9.out (by decide) (by rfl) ?_ ?_ ?_; rotate_left 3; (focus (intro w5 hS; have r := Blk.rule hS.1; obtain ⟨c0, c1, c2⟩ := HC.out _ hS.2; go_simp; constructor <;> with_reducible rfl)); (focus (intro w5 hS; (first | (with_reducible refine (HA.out w5).mono ?_; rintro e w6 ⟨rfl, rfl⟩; constructor; with_reducible rfl; exact ⟨hS, fun _ h => h⟩)))); (try simp only [Act.put, List.setIfInBounds_toArray, List.set_cons_zero, List.set_cons_succ])))
  refine Ord.ch_turn (v := undef) 0 hT9.out rfl (by decide) (Or.inl rfl) (by rfl) ?_ ?_
  · rintro w5 hS ⟨hA0, hA1, hA2⟩
    simp only [if_true] at hA2
    have r := hA2.rule
    have f0 := hA2.thaw 0 (by simp)
    have f1 := hA2.thaw 1 (by simp)
    have f2 := hA2.thaw 2 (by simp)
    go_simp
    refine ⟨rfl, ⟨((hS.1.off (by omega) _).off (by omega) _).off (by omega) _, ((hS.2.off (by omega) _).off (by omega) _).off (by omega) _⟩, by simpa using hA0, ?_, ?_⟩
    · exact below_set (below_set (below_set hA1 (by omega) (Nat.le_refl _) _) (by simp; omega) (Nat.le_refl _) _) (by simp; omega) (Nat.le_refl _) _
    · exact Blk.put3 hA2 _ _ _
  (try simp only [Act.put, List.setIfInBounds_toArray, List.set_cons_zero, List.set_cons_succ])
  repeat (first
    | (refine Ord.ch_value (v := ?_) hT9.out (by decide) (by rfl) ?_ ?_; rotate_left; (focus (intro w5 hS; skip; go_simp <;> with_reducible rfl)); (try simp only [Act.put, List.setIfInBounds_toArray, List.set_cons_zero, List.set_cons_succ]))
    | (refine Ord.ch_off hT9.out (by decide) (by rfl) ?_; (try simp only [Act.put, List.setIfInBounds_toArray, List.set_cons_zero, List.set_cons_succ])))
  refine Ord.InText.nil fun w5 hS => ?_
  clear hT9
  obtain ⟨hC9, hA9⟩ := Ord.chain_end hS
  clear hS
  obtain ⟨hA0, hA1, hA2⟩ := hA9
  have q := hA2.rule
  simp only [show ¬ [11].length = 0 by decide, if_false] at q
  go_wp2
  exact bodyPost_ret (v := .tuple #[tv (x, y, z), .bool true]) (by simp [results, Tryz.results288, go_sem, q, tv]) rfl ⟨rfl, hA1⟩

theorem headNone_any {w : World} {q k : Nat} {F : Nat → Prop} (hQ : IsQ w q F [] k) :
    Calls Tryz.prog 288 #[.pointer (some ⟨q, 0, none⟩)] w fun e w' => e = .returned (.tuple #[tv t0, .bool false]) ∧ Below w.heap.size w w' := by
  have hB := Blk.new 0 w [.int .i64 0, .int .i64 0, .int .i64 0] 158
  have hE := (Below.refl w.heap.size w).alloc (Nat.le_refl _) (.cells [.int .i64 0, .int .i64 0, .int .i64 0].toArray 158)
  go_enter Tryz.func288, Tryz.ntmps288
  go_wp2_with fail
  refine (len_any (hQ.below hE)).mono ?_
  rintro e w1 ⟨rfl, hb⟩
  have hB1 : Blk 0 w1 w.heap.size [.int .i64 0, .int .i64 0, .int .i64 0] := hB.kept hb.size (hb.block _ hB.1)
  have hE1 : Below w.heap.size w w1 := hE.trans (hb.mono (by simp))
  have hs1 : w.heap.size ≤ w1.heap.size := hE1.size
  have r := hB1.rule
  have f0 := hB1.thaw 0 (by simp)
  have f1 := hB1.thaw 1 (by simp)
  have f2 := hB1.thaw 2 (by simp)
  clear hB hE hb hQ
  go_wp2
  have hP := hB1.put3 (.int .i64 0) (.int .i64 0) (.int .i64 0)
  have q := hP.rule
  refine bodyPost_ret (v := .tuple #[tv t0, .bool false]) (by simp [results, Tryz.results288, go_sem, q, tv, t0]) rfl ⟨rfl, ?_⟩
  exact below_set (below_set (below_set hE1 (by omega) (Nat.le_refl _) _) (by simp; omega) (Nat.le_refl _) _) (by simp; omega) (Nat.le_refl _) _
theorem headNil_any (w : World) : Calls Tryz.prog 288 #[.pointer none] w fun e w' => e = .returned (.tuple #[tv t0, .bool false]) ∧ Below w.heap.size w w' := by
  have hB := Blk.new 0 w [.int .i64 0, .int .i64 0, .int .i64 0] 158
  have hE := (Below.refl w.heap.size w).alloc (Nat.le_refl _) (.cells [.int .i64 0, .int .i64 0, .int .i64 0].toArray 158)
  go_enter Tryz.func288, Tryz.ntmps288
  go_wp2_with fail
  refine (lenNil_any _).mono ?_
  rintro e w1 ⟨rfl, hb⟩
  have hB1 : Blk 0 w1 w.heap.size [.int .i64 0, .int .i64 0, .int .i64 0] := hB.kept hb.size (hb.block _ hB.1)
  have hE1 : Below w.heap.size w w1 := hE.trans (hb.mono (by simp))
  have hs1 : w.heap.size ≤ w1.heap.size := hE1.size
  have r := hB1.rule
  have f0 := hB1.thaw 0 (by simp)
  have f1 := hB1.thaw 1 (by simp)
  have f2 := hB1.thaw 2 (by simp)
  clear hB hE hb
  go_wp2
  have hP := hB1.put3 (.int .i64 0) (.int .i64 0) (.int .i64 0)
  have q := hP.rule
  refine bodyPost_ret (v := .tuple #[tv t0, .bool false]) (by simp [results, Tryz.results288, go_sem, q, tv, t0]) rfl ⟨rfl, ?_⟩
  exact below_set (below_set (below_set hE1 (by omega) (Nat.le_refl _) _) (by simp; omega) (Nat.le_refl _) _) (by simp; omega) (Nat.le_refl _) _
end Go.Proofs.YtdknbegcflldjaaGreatDoor

/- Queues: the contracts of Pop, Find. -/
namespace Go.Proofs.YtdknbegcflldjaaGreatDoor
open Go.RowKit Go.Maps
set_option maxRecDepth 100000

set_option maxHeartbeats 800000 in
theorem pop_any {w : World} {q k : Nat} {F : Nat → Prop} {l : List Trip} (x y z : Int) (hQ : IsQ w q F ((x, y, z) :: l) k) :
    Calls Tryz.prog 291 #[.pointer (some ⟨q, 0, none⟩)] w fun e w' => e = .returned (.tuple #[tv (x, y, z), .bool true]) ∧ IsQ w' q F l k ∧ Step F F w w' := by
  obtain ⟨hl1, hl2, hk2, hk⟩ := hQ.len
  have hQ0 := Lib.hid hQ
  obtain ⟨R, g, r, hq, hr, hring, _, _, hne, hF⟩ := hQ
  have hring' := hring.pop.2
  have hB := Blk.new 0 w [.int .i64 0, .int .i64 0, .int .i64 0] 158
  have hq1 := hq.more (.cells [.int .i64 0, .int .i64 0, .int .i64 0].toArray 158)
  have hr1 := hr.more (.cells [.int .i64 0, .int .i64 0, .int .i64 0].toArray 158)
  have hE := (Below.refl w.heap.size w).alloc (Nat.le_refl _) (.cells [.int .i64 0, .int .i64 0, .int .i64 0].toArray 158)
  have hqR : q < w.heap.size ∧ R < w.heap.size := ⟨hq.1, hr.1⟩
  have hG1 := round_up g 1
  have hset : (qv R (2 ^ k) g ((x, y, z) :: l).length).set 1 (.int .u64 (cnt (g + 1))) = qv R (2 ^ k) (g + 1) l.length := by
    simp only [qv, List.length_cons, List.set_cons_succ, List.set_cons_zero]
    rw [show g + (l.length + 1) = g + 1 + l.length by omega]
  clear hq hr hring
  go_enter Tryz.func291, Tryz.ntmps291
  go_wp2_with fail
  refine (head_any x y z (hQ0.out.below hE)).mono ?_
  rintro e w1 ⟨rfl, hb⟩
  have hB1 : Blk 0 w1 w.heap.size [.int .i64 0, .int .i64 0, .int .i64 0] := hB.kept hb.size (hb.block _ hB.1)
  have hq2 : Blk 0 w1 q _ := hq1.kept hb.size (hb.block _ hq1.1)
  have hr2 : Blk 0 w1 R _ := hr1.kept hb.size (hb.block _ hr1.1)
  have hE1 : Below w.heap.size w w1 := hE.trans (hb.mono (by simp))
  have hs1 : w.heap.size + 1 ≤ w1.heap.size := by have := hb.size; simpa using this
  clear hB hq1 hr1 hE hb hQ0
  have HQ2 := Lib.hid hq2
  have hq3 := hq2.more (.cells [.int .i64 x, .int .i64 y, .int .i64 z].toArray 158)
  have hB3 := hB1.more (.cells [.int .i64 x, .int .i64 y, .int .i64 z].toArray 158)
  have rq := hq3.rule
  have fq := hq3.thaw 1 (by simp [qv])
  have rB := hB3.rule
  have f0 := hB3.thaw 0 (by simp)
  have f1 := hB3.thaw 1 (by simp)
  have f2 := hB3.thaw 2 (by simp)
  unfold qv at rq
  have HSET := Lib.hid hset
  clear hset hq2 hq3 hB3
  simp only [Int.natCast_one] at hG1
  generalize hG : (cnt g) = G at *
  generalize hC : (cnt (g + ((x, y, z) :: l).length)) = C at *
  generalize hG' : (cnt (g + 1)) = G1 at *
  generalize hN : 2 ^ k = N at *
  simp only [tv]
  have HN := Lib.hid hN
  clear hN hG hC hG'
  go_wp2_with fail
  have hb9 := (((HQ2.out.more (.cells [.int .i64 x, .int .i64 y, .int .i64 z].toArray 158)).set (i := 1) (by simp [qv]) (.int .u64 G1)).off (B := w.heap.size) (i := 0) (by omega) (.int .i64 x)).off (B := w.heap.size) (i := 1) (by omega) (.int .i64 y) |>.off (B := w.heap.size) (i := 2) (by omega) (.int .i64 z)
  have hr9 := ((((hr2.more (.cells [.int .i64 x, .int .i64 y, .int .i64 z].toArray 158)).off (B := q) (i := 1) (fun e => hne e.symm) (.int .u64 G1)).off (B := w.heap.size) (i := 0) (by omega) (.int .i64 x)).off (B := w.heap.size) (i := 1) (by omega) (.int .i64 y)).off (B := w.heap.size) (i := 2) (by omega) (.int .i64 z)
  have hP := Blk.put3 ((hB1.more (.cells [.int .i64 x, .int .i64 y, .int .i64 z].toArray 158)).off (B := q) (i := 1) (by omega) (.int .u64 G1)) (.int .i64 x) (.int .i64 y) (.int .i64 z)
  rw [HSET.out] at hb9
  have q9 := hP.rule
  refine bodyPost_ret (v := .tuple #[tv (x, y, z), .bool true]) (by simp [results, Tryz.results291, go_sem, q9, tv]) rfl ⟨rfl, ⟨R, g + 1, r, by rw [HN.out]; exact hb9, hr9, by rw [HN.out]; exact hring', hk2, hk, hne, hF⟩, ?_, fun j hj => .inl hj⟩
  exact step_set (step_set (step_set ((((Turn.of_below hE1 : Turn F w w1).alloc _).setCell (p := ⟨q, 1, none⟩) (fun _ => (hF q).2 (.inl rfl)) _)) rfl (Nat.le_refl _) _) rfl (Nat.le_refl _) _) rfl (Nat.le_refl _) _

theorem popNone_any {w : World} {q k : Nat} {F : Nat → Prop} (hQ : IsQ w q F [] k) :
    Calls Tryz.prog 291 #[.pointer (some ⟨q, 0, none⟩)] w fun e w' => e = .returned (.tuple #[tv t0, .bool false]) ∧ Below w.heap.size w w' := by
  have hB := Blk.new 0 w [.int .i64 0, .int .i64 0, .int .i64 0] 158
  have hE := (Below.refl w.heap.size w).alloc (Nat.le_refl _) (.cells [.int .i64 0, .int .i64 0, .int .i64 0].toArray 158)
  go_enter Tryz.func291, Tryz.ntmps291
  go_wp2_with fail
  refine (headNone_any (hQ.below hE)).mono ?_
  rintro e w1 ⟨rfl, hb⟩
  have hB1 : Blk 0 w1 w.heap.size [.int .i64 0, .int .i64 0, .int .i64 0] := hB.kept hb.size (hb.block _ hB.1)
  have hE1 : Below w.heap.size w w1 := hE.trans (hb.mono (by simp))
  have hs1 : w.heap.size ≤ w1.heap.size := hE1.size
  have hB3 := hB1.more (.cells [.int .i64 0, .int .i64 0, .int .i64 0].toArray 158)
  have rB := hB3.rule
  have f0 := hB3.thaw 0 (by simp)
  have f1 := hB3.thaw 1 (by simp)
  have f2 := hB3.thaw 2 (by simp)
  clear hB hE hb
  simp only [tv, t0]
  go_wp2
  have hP := hB3.put3 (.int .i64 0) (.int .i64 0) (.int .i64 0)
  have q := hP.rule
  refine bodyPost_ret (v := .tuple #[tv t0, .bool false]) (by simp [results, Tryz.results291, go_sem, q, tv, t0]) rfl ⟨rfl, ?_⟩
  exact below_set (below_set (below_set (hE1.alloc hs1 _) (by simp; omega) (Nat.le_refl _) _) (by simp; omega) (Nat.le_refl _) _) (by simp; omega) (Nat.le_refl _) _
theorem popNil_any (w : World) : Calls Tryz.prog 291 #[.pointer none] w fun e w' => e = .returned (.tuple #[tv t0, .bool false]) ∧ Below w.heap.size w w' := by
  have hB := Blk.new 0 w [.int .i64 0, .int .i64 0, .int .i64 0] 158
  have hE := (Below.refl w.heap.size w).alloc (Nat.le_refl _) (.cells [.int .i64 0, .int .i64 0, .int .i64 0].toArray 158)
  go_enter Tryz.func291, Tryz.ntmps291
  go_wp2_with fail
  refine (headNil_any _).mono ?_
  rintro e w1 ⟨rfl, hb⟩
  have hB1 : Blk 0 w1 w.heap.size [.int .i64 0, .int .i64 0, .int .i64 0] := hB.kept hb.size (hb.block _ hB.1)
  have hE1 : Below w.heap.size w w1 := hE.trans (hb.mono (by simp))
  have hs1 : w.heap.size ≤ w1.heap.size := hE1.size
  have hB3 := hB1.more (.cells [.int .i64 0, .int .i64 0, .int .i64 0].toArray 158)
  have rB := hB3.rule
  have f0 := hB3.thaw 0 (by simp)
  have f1 := hB3.thaw 1 (by simp)
  have f2 := hB3.thaw 2 (by simp)
  clear hB hE hb
  simp only [tv, t0]
  go_wp2
  have hP := hB3.put3 (.int .i64 0) (.int .i64 0) (.int .i64 0)
  have q := hP.rule
  refine bodyPost_ret (v := .tuple #[tv t0, .bool false]) (by simp [results, Tryz.results291, go_sem, q, tv, t0]) rfl ⟨rfl, ?_⟩
  exact below_set (below_set (below_set (hE1.alloc hs1 _) (by simp; omega) (Nat.le_refl _) _) (by simp; omega) (Nat.le_refl _) _) (by simp; omega) (Nat.le_refl _) _

end Go.Proofs.YtdknbegcflldjaaGreatDoor

/- The plain world: contracts of its accesses: each is the cells' own, among whatever other things there are. -/
namespace Go.Proofs.YtdknbegcflldjaaGreatDoor
open Go.RowKit Go.Maps
set_option maxRecDepth 100000

section
variable {w0 w : World} {L : List Item} {p c n : Nat} {F : Nat → Prop} {f : Plc → Int} {q : Cnt}

set_option maxHeartbeats 1600000 in
theorem add_w (x y z d v : Int) (hx : Wf (x, y, z)) (hn : n < maxLen) (i j : Nat) (hij : j ≠ i) (hE : Env w0 L w) (hi : L[i]? = some (wbox p c)) (hj : L[j]? = some (cellI c F f q n)) :
    Calls Tryz.prog 357 #[.pointer (some ⟨p, 0, none⟩), .agg #[.int .i64 x, .int .i64 y, .int .i64 z, .int .i64 d], .int .u64 v] w fun e w' => e = .returned (.int .u64 (f (x, y, z))) ∧ ∃ F', Env w0 (L.set j (cellI c F' (upd f (x, y, z) (IntKind.u64.wrap (f (x, y, z) + v))) { q with a := wrap64 (q.a + 1) } (n + 1))) w' := by
  replace hE := (hE.box w.heap.size rfl [.int .i64 x, .int .i64 y, .int .i64 z, .int .i64 d] 185)
  have hi' : (boxI (w.heap.size) [.int .i64 x, .int .i64 y, .int .i64 z, .int .i64 d] :: L)[i + 1]? = some (wbox p c) := hi
  have hj' : (boxI (w.heap.size) [.int .i64 x, .int .i64 y, .int .i64 z, .int .i64 d] :: L)[j + 1]? = some (cellI c F f q n) := hj
  have HX := Lib.hid hx
  clear hx
  go_enter Tryz.func357, Tryz.ntmps357
  go_wp2_with fail
  generalize w.heap.size = X at *
  refine Ord.wp_chain [5] (fun w' => Blk 0 w' X [.int .i64 x, .int .i64 y, .int .i64 z, .int .i64 d] ∧ Blk 0 w' p [.pointer (some ⟨c, 0, none⟩)]) (Stage [Env w0 (boxI X [.int .i64 x, .int .i64 y, .int .i64 z, .int .i64 d] :: L), fun w' => ∃ F', Env w0 (boxI X [.int .i64 x, .int .i64 y, .int .i64 z, .int .i64 d] :: L.set j (cellI c F' (upd f (x, y, z) (IntKind.u64.wrap (f (x, y, z) + v))) { q with a := wrap64 (q.a + 1) } (n + 1))) w']) (by kernel_rfl) (by kernel_rfl) (by kernel_rfl) ⟨hE.drew.get 0 rfl, hE.drew.get (i + 1) hi'⟩ ⟨_, rfl, hE.drew⟩ (fun hT => ?_)
  have hT9 := Lib.hid hT
  clear hT
  repeat (first
    | (refine Ord.ch_value (v := ?_) hT9.out (by decide) (by rfl) ?_ ?_; rotate_left; (focus (intro w5 hS; have r0 := hS.1.rule; go_simp <;> with_reducible rfl)); (try simp only [Act.put, List.setIfInBounds_toArray, List.set_cons_zero, List.set_cons_succ]))
    | (refine Ord.ch_off hT9.out (by decide) (by rfl) ?_; (try simp only [Act.put, List.setIfInBounds_toArray, List.set_cons_zero, List.set_cons_succ]))
    | (refine Ord.ch_call (v := ?_) (f := ?_) (args := ?_) hT9.out (by decide) (by rfl) ?_ ?_ ?_; rotate_left 3; (focus (intro w5 hS; have r0 := hS.1.rule; go_simp; constructor <;> with_reducible rfl)); (focus (intro w5 hS; (first | (with_reducible refine (kept_any hS.2).mono ?_; rintro e w6 ⟨rfl, rfl⟩; constructor; with_reducible rfl; exact ⟨hS, fun _ h => h⟩)))); (try simp only [Act.put, List.setIfInBounds_toArray, List.set_cons_zero, List.set_cons_succ])))
  refine Ord.ch_turn (v := .int .u64 (f (x, y, z))) 0 hT9.out rfl (by decide) (Or.inl rfl) (by rfl) ?_ ?_
  · rintro w5 hC5 ⟨P5, hP5, hA5⟩
    cases hP5
    go_simp
    simp only [Ord.LandsIn]
    refine (add_any x y z v HX.out hn (hA5.cell (j + 1) hj')).mono ?_
    rintro e w6 ⟨rfl, F6, hC, hs⟩
    have hE6 := hA5.turn (j + 1) hj' hC hs
    exact ⟨rfl, ⟨hE6.get 0 rfl, hE6.get (i + 1) (wset (j := j + 1) (by omega) hi')⟩, _, rfl, F6, hE6⟩
  (try simp only [Act.put, List.setIfInBounds_toArray, List.set_cons_zero, List.set_cons_succ])
  repeat (first
    | (refine Ord.ch_value (v := ?_) hT9.out (by decide) (by rfl) ?_ ?_; rotate_left; (focus (intro w5 hS; skip; go_simp <;> with_reducible rfl)); (try simp only [Act.put, List.setIfInBounds_toArray, List.set_cons_zero, List.set_cons_succ]))
    | (refine Ord.ch_off hT9.out (by decide) (by rfl) ?_; (try simp only [Act.put, List.setIfInBounds_toArray, List.set_cons_zero, List.set_cons_succ])))
  refine Ord.InText.nil fun w5 hS => ?_
  clear hT9
  obtain ⟨hC9, hA9⟩ := Ord.chain_end hS
  clear hS
  obtain ⟨P9, hP9, hA9⟩ := hA9
  cases hP9
  obtain ⟨F9, hA9⟩ := hA9
  clear hC9
  go_wp2
  go_ret
  exact ⟨rfl, F9, hA9.sub (.cons _ (List.Sublist.refl _))⟩

end
end Go.Proofs.YtdknbegcflldjaaGreatDoor

/- Contracts of layer 4: Peek, Swap. -/
namespace Go.Proofs.YtdknbegcflldjaaGreatDoor
open Go.RowKit Go.Maps
set_option maxRecDepth 100000

/-- Whether it was, and the words and counts behind it. -/
def swq (q : Cnt) (b : Bool) : Cnt := { q with w := wrap64 (q.w + 1), f := if b then q.f else wrap64 (q.f + 1) }
def swf (f : Plc → Int) (x : Plc) (o v : Int) : Plc → Int := if f x = o then upd f x v else f

set_option maxHeartbeats 1600000 in
theorem swap_any {c n : Nat} {F : Nat → Prop} {f : Plc → Int} {q : Cnt} {w : World} (a b d o v : Int) (hx : Wf (a, b, d)) (hv : InU v) (hn : n < maxLen) (hC : IsC w c F f q n) :
    Calls Tryz.prog 365 #[.pointer (some ⟨c, 0, none⟩), .agg #[.int .i64 a, .int .i64 b, .int .i64 d], .int .u64 o, .int .u64 v] w fun e w' => e = .returned (.bool (decide (f (a, b, d) = o))) ∧ ∃ F', IsC w' c F' (swf f (a, b, d) o v) (swq q (decide (f (a, b, d) = o))) (n + 1) ∧ Step F F' w w' := by
  have hFc := hC.at
  obtain ⟨mp, hb, hm, hF⟩ := hC
  have r0 := hb.rule
  have hcl := hb.1
  have r1 := cell_more hcl r0
  have z1 := hb.thaw 3 (by simp [cv])
  have hS0 := ticked hb hm hFc (i := 3) (v := .int .i64 (wrap64 (q.w + 1))) (q1 := { q with w := wrap64 (q.w + 1) }) (by omega) rfl [.int .i64 a, .int .i64 b, .int .i64 d] 105
  unfold cv at r0 r1
  go_enter Tryz.func365, Tryz.ntmps365
  go_wp2_with fail
  generalize (w.setCell ⟨c, 3, none⟩ (.int .i64 (wrap64 (q.w + 1)))).alloc _ = w1 at *
  clear r0 r1 z1
  refine Ord.wp_chain [] (fun w' => At F c w w.heap.size [.int .i64 a, .int .i64 b, .int .i64 d] mp { q with w := wrap64 (q.w + 1) } w' ∧ MapIs w' mp f n) (fun _ _ => True) (by kernel_rfl) (by kernel_rfl) (by kernel_rfl) ⟨hS0.1.drew, hS0.2.drew⟩ trivial (fun hT => ?_)
  have hT9 := Lib.hid hT
  clear hT
  repeat (first
    | (refine Ord.ch_value (v := ?_) hT9.out (by decide) (by rfl) ?_ ?_; rotate_left; (focus (intro w5 hS; have r := hS.1.2.1.rule; unfold cv at r; have r2 := hS.1.2.2.rule; have hl := hS.2.look hx; simp only [pv] at hl; go_simp <;> with_reducible rfl)); (try simp only [Act.put, List.setIfInBounds_toArray, List.set_cons_zero, List.set_cons_succ]))
    | (refine Ord.ch_off hT9.out (by decide) (by rfl) ?_; (try simp only [Act.put, List.setIfInBounds_toArray, List.set_cons_zero, List.set_cons_succ])))
  refine Ord.InText.nil fun w5 hS => ?_
  clear hT9
  obtain ⟨hA9, hM9⟩ := Ord.chain_end hS
  clear hS
  have HX := Lib.hid hx
  clear hx
  by_cases he : f (a, b, d) = o
  · have r := hA9.1.2.1.rule
    have r2 := hA9.1.2.2.rule
    unfold cv at r
    have hb1 : (f (a, b, d) != o) = false := by simpa using he
    have hE := Lib.hid he
    clear he
    go_wp2_with fail
    refine (put_any a b d v HX.out hv hn (.of hA9.1 hA9.2 hF)).mono ?_
    rintro e w2 ⟨rfl, F', hC2, hs2⟩
    clear r r2
    go_wp2
    go_ret
    have hE' := hE.out
    refine ⟨by simp [hE'], F', ?_, (Step.mk hA9.1.1 fun k h => .inl h).trans hs2⟩
    simp only [swf, swq, hE', if_true, decide_true]
    exact hC2
  · have r := hA9.1.2.1.rule
    have r2 := hA9.1.2.2.rule
    have z4 := hA9.1.2.1.thaw 4 (by simp [cv])
    unfold cv at r
    have hb1 : (f (a, b, d) != o) = true := by simpa using he
    have hE := Lib.hid he
    clear he
    go_wp2
    go_ret
    have hE' := hE.out
    refine ⟨by simp [hE'], F, ?_, ⟨hA9.1.1.setCell (fun _ => hFc) _, fun k h => .inl h⟩⟩
    simp only [swf, swq, hE', if_false, decide_false, Bool.false_eq_true]
    exact (IsC.tick (.of hA9.1 hA9.2 hF) (by omega) fun _ => rfl).mono (Nat.le_succ _)
end Go.Proofs.YtdknbegcflldjaaGreatDoor

/- Contracts of layer 4: Peek, Swap. -/
namespace Go.Proofs.YtdknbegcflldjaaGreatDoor
open Go.RowKit Go.Maps
set_option maxRecDepth 100000

set_option maxHeartbeats 800000 in
theorem peek_any {c n : Nat} {F : Nat → Prop} {f : Plc → Int} {q : Cnt} {w : World} (a b d : Int) (hx : Wf (a, b, d)) (hC : IsC w c F f q n) :
    Calls Tryz.prog 92 #[.pointer (some ⟨c, 0, none⟩), .agg #[.int .i64 a, .int .i64 b, .int .i64 d]] w fun e w' => e = .returned (.int .u64 (f (a, b, d))) ∧ Below w.heap.size w w' := by
  obtain ⟨mp, hb, hm, hF⟩ := hC
  go_enter Tryz.func92, Tryz.ntmps92
  go_wp2_with fail
  refine Ord.wp_chain [] (fun w' => (Below w.heap.size w w' ∧ Blk 0 w' c (cv mp q) ∧ Blk 0 w' w.heap.size [.int .i64 a, .int .i64 b, .int .i64 d]) ∧ MapIs w' mp f n) (fun _ _ => True) (by kernel_rfl) (by kernel_rfl) (by kernel_rfl) ⟨⟨((Below.refl _ _).alloc (Nat.le_refl _) _).drew, (hb.more _).drew, (Blk.new 0 w _ _).drew⟩, (hm.more _).drew⟩ trivial (fun hT => ?_)
  have hT9 := Lib.hid hT
  clear hT
  repeat (first
    | (refine Ord.ch_value (v := ?_) hT9.out (by decide) (by rfl) ?_ ?_; rotate_left; (focus (intro w5 hS; have r := hS.1.2.1.rule; unfold cv at r; have r2 := hS.1.2.2.rule; have hl := hS.2.look hx; simp only [pv] at hl; go_simp <;> with_reducible rfl)); (try simp only [Act.put, List.setIfInBounds_toArray, List.set_cons_zero, List.set_cons_succ]))
    | (refine Ord.ch_off hT9.out (by decide) (by rfl) ?_; (try simp only [Act.put, List.setIfInBounds_toArray, List.set_cons_zero, List.set_cons_succ])))
  refine Ord.InText.nil fun w5 hS => ?_
  clear hT9
  obtain ⟨hA9, hM9⟩ := Ord.chain_end hS
  clear hS
  go_wp2
  go_ret
  exact ⟨rfl, hA9.1.1⟩

end Go.Proofs.YtdknbegcflldjaaGreatDoor

/- The plain world: contracts of Swap, Peek. -/
namespace Go.Proofs.YtdknbegcflldjaaGreatDoor
open Go.RowKit Go.Maps
set_option maxRecDepth 100000

section
variable {w0 w : World} {L : List Item} {p c n : Nat} {F : Nat → Prop} {f : Plc → Int} {q : Cnt}
set_option maxHeartbeats 1600000 in
theorem swap_w (x y z d o oe v e : Int) (ob b : Bool) (hx : Wf (x, y, z)) (hv : InU v) (hn : n < maxLen) (i j : Nat) (hij : j ≠ i) (hE : Env w0 L w) (hi : L[i]? = some (wbox p c)) (hj : L[j]? = some (cellI c F f q n)) :
    Calls Tryz.prog 361 #[.pointer (some ⟨p, 0, none⟩), .agg #[.int .i64 x, .int .i64 y, .int .i64 z, .int .i64 d], .agg #[.int .u64 o, .int .i64 oe, .bool ob], .agg #[.int .u64 v, .int .i64 e, .bool b]] w fun e w' => e = .returned (.bool (decide (f (x, y, z) = o))) ∧ ∃ F', Env w0 (L.set j (cellI c F' (swf f (x, y, z) o v) (swq q (decide (f (x, y, z) = o))) (n + 1))) w' := by
  replace hE := (((hE.box w.heap.size rfl [.int .i64 x, .int .i64 y, .int .i64 z, .int .i64 d] 185).box (w.heap.size + 1) (by simp) [.int .u64 o, .int .i64 oe, .bool ob] 180).box (w.heap.size + 1 + 1) (by simp) [.int .u64 v, .int .i64 e, .bool b] 180)
  have hi' : (boxI (w.heap.size + 1 + 1) [.int .u64 v, .int .i64 e, .bool b] :: boxI (w.heap.size + 1) [.int .u64 o, .int .i64 oe, .bool ob] :: boxI (w.heap.size) [.int .i64 x, .int .i64 y, .int .i64 z, .int .i64 d] :: L)[i + 3]? = some (wbox p c) := hi
  have hj' : (boxI (w.heap.size + 1 + 1) [.int .u64 v, .int .i64 e, .bool b] :: boxI (w.heap.size + 1) [.int .u64 o, .int .i64 oe, .bool ob] :: boxI (w.heap.size) [.int .i64 x, .int .i64 y, .int .i64 z, .int .i64 d] :: L)[j + 3]? = some (cellI c F f q n) := hj
  have HX := Lib.hid hx
  clear hx
  go_enter Tryz.func361, Tryz.ntmps361
  go_wp2_with fail
  generalize w.heap.size + 1 + 1 = Z at *
  generalize w.heap.size + 1 = Y at *
  generalize w.heap.size = X at *
  refine Ord.wp_chain [8] (fun w' => Blk 0 w' X [.int .i64 x, .int .i64 y, .int .i64 z, .int .i64 d] ∧ Blk 0 w' Y [.int .u64 o, .int .i64 oe, .bool ob] ∧ Blk 0 w' Z [.int .u64 v, .int .i64 e, .bool b] ∧ Blk 0 w' p [.pointer (some ⟨c, 0, none⟩)]) (Stage [Env w0 (boxI Z [.int .u64 v, .int .i64 e, .bool b] :: boxI Y [.int .u64 o, .int .i64 oe, .bool ob] :: boxI X [.int .i64 x, .int .i64 y, .int .i64 z, .int .i64 d] :: L), fun w' => ∃ F', Env w0 (boxI Z [.int .u64 v, .int .i64 e, .bool b] :: boxI Y [.int .u64 o, .int .i64 oe, .bool ob] :: boxI X [.int .i64 x, .int .i64 y, .int .i64 z, .int .i64 d] :: L.set j (cellI c F' (swf f (x, y, z) o v) (swq q (decide (f (x, y, z) = o))) (n + 1))) w']) (by kernel_rfl) (by kernel_rfl) (by kernel_rfl) ⟨hE.drew.get 2 rfl, hE.drew.get 1 rfl, hE.drew.get 0 rfl, hE.drew.get (i + 3) hi'⟩ ⟨_, rfl, hE.drew⟩ (fun hT => ?_)
  have hT9 := Lib.hid hT
  clear hT
  repeat (first
    | (refine Ord.ch_value (v := ?_) hT9.out (by decide) (by rfl) ?_ ?_; rotate_left; (focus (intro w5 hS; have r0 := hS.1.rule; have r1 := hS.2.1.rule; have r2 := hS.2.2.1.rule; go_simp <;> with_reducible rfl)); (try simp only [Act.put, List.setIfInBounds_toArray, List.set_cons_zero, List.set_cons_succ]))
    | (refine Ord.ch_off hT9.out (by decide) (by rfl) ?_; (try simp only [Act.put, List.setIfInBounds_toArray, List.set_cons_zero, List.set_cons_succ]))
    | (refine Ord.ch_call (v := ?_) (f := ?_) (args := ?_) hT9.out (by decide) (by rfl) ?_ ?_ ?_; rotate_left 3; (focus (intro w5 hS; have r0 := hS.1.rule; have r1 := hS.2.1.rule; have r2 := hS.2.2.1.rule; go_simp; constructor <;> with_reducible rfl)); (focus (intro w5 hS; (first | (with_reducible refine (kept_any hS.2.2.2).mono ?_; rintro e w6 ⟨rfl, rfl⟩; constructor; with_reducible rfl; exact ⟨hS, fun _ h => h⟩)))); (try simp only [Act.put, List.setIfInBounds_toArray, List.set_cons_zero, List.set_cons_succ])))
  refine Ord.ch_turn (v := .bool (decide (f (x, y, z) = o))) 0 hT9.out rfl (by decide) (Or.inl rfl) (by rfl) ?_ ?_
  · rintro w5 hC5 ⟨P5, hP5, hA5⟩
    cases hP5
    go_simp
    simp only [Ord.LandsIn]
    refine (swap_any x y z o v HX.out hv hn (hA5.cell (j + 3) hj')).mono ?_
    rintro e w6 ⟨rfl, F6, hC, hs⟩
    have hE6 := hA5.turn (j + 3) hj' hC hs
    exact ⟨rfl, ⟨hE6.get 2 rfl, hE6.get 1 rfl, hE6.get 0 rfl, hE6.get (i + 3) (wset (j := j + 3) (by omega) hi')⟩, _, rfl, F6, hE6⟩
  (try simp only [Act.put, List.setIfInBounds_toArray, List.set_cons_zero, List.set_cons_succ])
  repeat (first
    | (refine Ord.ch_value (v := ?_) hT9.out (by decide) (by rfl) ?_ ?_; rotate_left; (focus (intro w5 hS; skip; go_simp <;> with_reducible rfl)); (try simp only [Act.put, List.setIfInBounds_toArray, List.set_cons_zero, List.set_cons_succ]))
    | (refine Ord.ch_off hT9.out (by decide) (by rfl) ?_; (try simp only [Act.put, List.setIfInBounds_toArray, List.set_cons_zero, List.set_cons_succ])))
  refine Ord.InText.nil fun w5 hS => ?_
  clear hT9
  obtain ⟨hC9, hA9⟩ := Ord.chain_end hS
  clear hS
  obtain ⟨P9, hP9, hA9⟩ := hA9
  cases hP9
  obtain ⟨F9, hA9⟩ := hA9
  clear hC9
  go_wp2
  go_ret
  exact ⟨rfl, F9, hA9.sub (.cons _ (.cons _ (.cons _ (List.Sublist.refl _))))⟩
end
end Go.Proofs.YtdknbegcflldjaaGreatDoor

/- The plain world: contracts of Swap, Peek. -/
namespace Go.Proofs.YtdknbegcflldjaaGreatDoor
open Go.RowKit Go.Maps
set_option maxRecDepth 100000

section
variable {w0 w : World} {L : List Item} {p c n : Nat} {F : Nat → Prop} {f : Plc → Int} {q : Cnt}
set_option maxHeartbeats 1600000 in
theorem peek_w (x y z : Int) (hx : Wf (x, y, z)) (i j : Nat) (hE : Env w0 L w) (hi : L[i]? = some (wbox p c)) (hj : L[j]? = some (cellI c F f q n)) :
    Calls Tryz.prog 52 #[.pointer (some ⟨p, 0, none⟩), .agg #[.int .i64 x, .int .i64 y, .int .i64 z]] w fun e w' => e = .returned (.int .u64 (f (x, y, z))) ∧ Below w.heap.size w w' := by
  have hb := (Below.refl w.heap.size w).alloc (Nat.le_refl _) (.cells #[.int .i64 x, .int .i64 y, .int .i64 z] 105)
  replace hE := hE.box w.heap.size rfl [.int .i64 x, .int .i64 y, .int .i64 z] 105
  have HX := Lib.hid hx
  clear hx
  go_enter Tryz.func52, Tryz.ntmps52
  go_wp2_with fail
  obtain ⟨X, hXw⟩ : ∃ X, X = w.heap.size := ⟨_, rfl⟩
  rw [← hXw] at hE ⊢
  have HXW := Lib.hid hXw
  clear hXw
  have hi1 : (boxI X [.int .i64 x, .int .i64 y, .int .i64 z] :: L)[i + 1]? = some (wbox p c) := hi
  have hj1 : (boxI X [.int .i64 x, .int .i64 y, .int .i64 z] :: L)[j + 1]? = some (cellI c F f q n) := hj
  refine Ord.wp_chain [] (fun w' => Env w0 (boxI X [.int .i64 x, .int .i64 y, .int .i64 z] :: L) w' ∧ Below w.heap.size w w') (fun _ _ => True) (by kernel_rfl) (by kernel_rfl) (by kernel_rfl) ⟨hE.drew, hb.drew⟩ trivial (fun hT => ?_)
  have hT9 := Lib.hid hT
  clear hT
  repeat (first
    | (refine Ord.ch_value (v := ?_) hT9.out (by decide) (by rfl) ?_ ?_; rotate_left; (focus (intro w5 hS; have r := hS.1.rule 0 rfl; go_simp <;> with_reducible rfl)); (try simp only [Act.put, List.setIfInBounds_toArray, List.set_cons_zero, List.set_cons_succ]))
    | (refine Ord.ch_off hT9.out (by decide) (by rfl) ?_; (try simp only [Act.put, List.setIfInBounds_toArray, List.set_cons_zero, List.set_cons_succ]))
    | (refine Ord.ch_call (v := ?_) (f := ?_) (args := ?_) hT9.out (by decide) (by rfl) ?_ ?_ ?_; rotate_left 3; (focus (intro w5 hS; have r := hS.1.rule 0 rfl; go_simp; constructor <;> with_reducible rfl)); (focus (intro w5 hS; (first | (with_reducible refine (kept_any (hS.1.wblk (i + 1) hi1)).mono ?_; rintro e w6 ⟨rfl, rfl⟩; constructor; with_reducible rfl; exact ⟨hS, fun _ h => h⟩) | (with_reducible refine (peek_any x y z HX.out (hS.1.cell (j + 1) hj1)).mono ?_; rintro e w6 ⟨rfl, hb6⟩; constructor; with_reducible rfl; exact ⟨⟨hS.1.over hb6, hS.2.trans (hb6.mono hS.2.size)⟩, fun _ h => h⟩)))); (try simp only [Act.put, List.setIfInBounds_toArray, List.set_cons_zero, List.set_cons_succ])))
  refine Ord.InText.nil fun w5 hS => ?_
  clear hT9
  obtain ⟨hC9, hA9⟩ := Ord.chain_end hS
  clear hS
  go_wp2
  go_ret
  exact ⟨rfl, hC9.2⟩
end
end Go.Proofs.YtdknbegcflldjaaGreatDoor

/- Drawn regions with a chain whose values hang on the world (Ord3): calls beside the chain that leave all as it is. -/
namespace Go.Proofs.YtdknbegcflldjaaGreatDoor.Ord3
open Go Go.Proofs.YtdknbegcflldjaaGreatDoor.Ord
set_option maxRecDepth 100000
variable {P : Program} {md : Region.Mode} {ops : Array Oper} {Q : Exit → Act → World → Prop} {vs : List (Value → Prop)} {ps : List Nat} {C : World → Prop} {A : List Value → World → Prop}
theorem in_call {k : Nat} {o : Oper} {rest : List Oper} {a : Act} {v : Value} {f : FuncId} {args : Array Value} {κs : List Value} (hf : textFits md ops = true) (hk : k ∉ ps) (hvs : vs[k]? = some fun u => u = v) (hw : Region.wanted o (yielded ops a.tmps) = true)
    (hr : ∀ w, C w → (execOp a.eval o).run P w = .ok (.enter f args) w) (hc : ∀ w, C w → Calls P f args w fun e w' => e = .returned v ∧ C w' ∧ ∀ us, A us w → A us w')
    (h : In P md ops Q vs ps C A (k + 1) rest κs (a.put o.dst v)) : In P md ops Q vs ps C A k (o :: rest) κs a := fun κ hκ =>
  InText.cons hf v ⟨_, hvs, rfl⟩ (Or.inl ⟨hw, fun l ρ w hr' _ _ hS => by
    rw [hr w hS.2.2.1]
    refine (hc w hS.2.2.1).mono fun e w' he => ?_
    exact ⟨_, he.1, ⟨_, hvs, rfl⟩, chain_set hk hr' hS he.2.1 he.2.2⟩⟩)
    fun u ⟨p, hp, hu⟩ => by
      rw [hvs] at hp
      cases hp
      rw [hu]
      exact h _ (by rw [map_up (fun e => hk (List.mem_of_mem_take e))]; exact hκ)
theorem Stage.three {A1 A2 A3 : List Value → World → Prop} {κs : List Value} {w w' : World} (h : Stage (fun κs => [A1 κs, A2 κs, A3 κs]) κs w) (h1 : A1 κs w → A1 κs w') (h2 : A2 κs w → A2 κs w') (h3 : A3 κs w → A3 κs w') : Stage (fun κs => [A1 κs, A2 κs, A3 κs]) κs w' := by
  obtain ⟨T, hT, hw⟩ := h
  refine ⟨T, hT, ?_⟩
  have hm := List.mem_of_getElem? hT
  simp only [List.mem_cons, List.not_mem_nil, or_false] at hm
  rcases hm with rfl | rfl | rfl
  · exact h1 hw
  · exact h2 hw
  · exact h3 hw
end Go.Proofs.YtdknbegcflldjaaGreatDoor.Ord3
