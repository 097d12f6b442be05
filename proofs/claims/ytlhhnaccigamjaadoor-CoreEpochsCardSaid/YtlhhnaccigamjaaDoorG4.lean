/- What is proved on the way to the statement, part 4 of 5: contracts of the functions, among other things in memory. -/
import Derived.Test.YtlhhnaccigamjaaDoorG3
import Derived.WalkKit
import Derived.Orders
import Derived.Test.YtlhhnaccigamjaaDoorTie
import Derived.LaidMore
import Derived.Stop.Joined
import Derived.ProofKit
import Derived.OpenShut
import Derived.Deep.SlicePairs

/- Contracts of the functions of layer 2. -/
namespace Go.Proofs.YtlhhnaccigamjaaDoor
open Go.RowKit
set_option maxRecDepth 100000

/-- The three fields stand in their variables. -/
def Glo (w : World) : Prop :=
  (w.cell? ⟨1, 0, none⟩ = some (.int .i64 0) ∧ w.cell? ⟨1, 1, none⟩ = some (.int .i64 40)) ∧
  (w.cell? ⟨2, 0, none⟩ = some (.int .i64 40) ∧ w.cell? ⟨2, 1, none⟩ = some (.int .i64 23)) ∧
  (w.cell? ⟨0, 0, none⟩ = some (.int .i64 63) ∧ w.cell? ⟨0, 1, none⟩ = some (.int .i64 1)) ∧
  1 < w.heap.size ∧ 2 < w.heap.size ∧ 0 < w.heap.size
theorem Glo.keep {n : Nat} {w w' : World} (h : Glo w) (hb : Below n w w') (hn : w.heap.size ≤ n) : Glo w' := by
  obtain ⟨⟨a0, a1⟩, ⟨b0, b1⟩, ⟨c0, c1⟩, h1, h2, h3⟩ := h
  have := hb.size
  refine ⟨⟨?_, ?_⟩, ⟨?_, ?_⟩, ⟨?_, ?_⟩, by omega, by omega, by omega⟩
  · rw [hb.cell (p := ⟨_, 0, none⟩) (by simp; omega)]; exact a0
  · rw [hb.cell (p := ⟨_, 1, none⟩) (by simp; omega)]; exact a1
  · rw [hb.cell (p := ⟨_, 0, none⟩) (by simp; omega)]; exact b0
  · rw [hb.cell (p := ⟨_, 1, none⟩) (by simp; omega)]; exact b1
  · rw [hb.cell (p := ⟨_, 0, none⟩) (by simp; omega)]; exact c0
  · rw [hb.cell (p := ⟨_, 1, none⟩) (by simp; omega)]; exact c1
theorem Glo.keep' {w1 w2 : World} (h : Glo w1) (hb : Below w1.heap.size w1 w2) : Glo w2 := h.keep hb (Nat.le_refl _)
theorem Glo.alloc {w : World} (h : Glo w) (o : Obj) : Glo (w.alloc o) := h.keep ((Below.refl _ _).alloc (Nat.le_refl _) _) (Nat.le_refl _)

set_option maxHeartbeats 400000 in
theorem isSlot_any (s : Int) (w : World) : Calls Tryd.prog 77 #[.int .i64 s] w fun e w' => e = .returned (.bool (isS s)) ∧ w = w' := by
  by_cases h1 : 0 ≤ s
  · go_enter Tryd.func77, Tryd.ntmps77
    go_wp2
    go_ret
    exact ⟨ret_bool (by simp [isS, h1]), rfl⟩
  · have hd : decide (0 ≤ s) = false := by simpa using h1
    go_enter Tryd.func77, Tryd.ntmps77
    go_wp2
    go_ret
    exact ⟨ret_bool (by simp [isS]; omega), rfl⟩

set_option maxHeartbeats 400000 in
theorem slot_any (x : Int) (w : World) (hg : Glo w) (h0 : 0 ≤ x) (h1 : x ≤ 18446744073709551615) :
    Calls Tryd.prog 55 #[.int .u64 x] w fun e w' => e = .returned (.int .i64 (slotI x)) ∧ Below w.heap.size w w' := by
  obtain ⟨-, ⟨c0, c1⟩, -, -, hs, -⟩ := hg
  obtain ⟨k0, k1⟩ := slotI_in x
  have HG := Lib.hid (get_slot x h0)
  go_enter Tryd.func55, Tryd.ntmps55
  go_wp2_with fail
  refine (get_any 40 23 x _ (by decide) (by decide) h0 h1).mono ?_
  rintro e w1 ⟨rfl, hb⟩
  rw [HG.out]
  go_wp2
  go_ret
  exact ⟨rfl, hb⟩

set_option maxHeartbeats 400000 in
theorem version_any (x : Int) (w : World) (hg : Glo w) (h0 : 0 ≤ x) (h1 : x ≤ 18446744073709551615) :
    Calls Tryd.prog 34 #[.int .u64 x] w fun e w' => e = .returned (.int .i64 (verI x)) ∧ Below w.heap.size w w' := by
  obtain ⟨⟨c0, c1⟩, -, -, hs, -, -⟩ := hg
  obtain ⟨k0, k1⟩ := verI_in x
  have HG := Lib.hid (get_version x h0)
  go_enter Tryd.func34, Tryd.ntmps34
  go_wp2_with fail
  refine (get_any 0 40 x _ (by decide) (by decide) h0 h1).mono ?_
  rintro e w1 ⟨rfl, hb⟩
  rw [HG.out]
  go_wp2
  go_ret
  exact ⟨rfl, hb⟩

set_option maxHeartbeats 400000 in
theorem isMarked_any (x : Int) (w : World) (hg : Glo w) (h0 : 0 ≤ x) (h1 : x ≤ 18446744073709551615) :
    Calls Tryd.prog 33 #[.int .u64 x] w fun e w' => e = .returned (.bool (markB x)) ∧ Below w.heap.size w w' := by
  obtain ⟨-, -, ⟨c0, c1⟩, -, -, hs⟩ := hg
  have HG := Lib.hid (mark_one x h0 h1)
  go_enter Tryd.func33, Tryd.ntmps33
  go_wp2_with fail
  refine (get_any 63 1 x _ (by decide) (by decide) h0 h1).mono ?_
  rintro e w1 ⟨rfl, hb⟩
  generalize getI 63 1 x = y at *
  go_wp2
  go_ret
  exact ⟨ret_bool (by rw [← HG.out]; rfl), hb⟩

theorem hold3 {n : Nat} {w w1 w2 : World} {x y z : Value} (c0 : w1.cell? ⟨n, 0, none⟩ = some x) (c1 : w1.cell? ⟨n, 1, none⟩ = some y) (c2 : w1.cell? ⟨n, 2, none⟩ = some z) (hB : Below n w w1) (hs : n < w1.heap.size) (hb : Below w1.heap.size w1 w2) :
    w2.cell? ⟨n, 0, none⟩ = some x ∧ w2.cell? ⟨n, 1, none⟩ = some y ∧ w2.cell? ⟨n, 2, none⟩ = some z ∧ Below n w w2 ∧ n < w2.heap.size :=
  ⟨by rw [hb.cell (p := ⟨n, 0, none⟩) hs]; exact c0, by rw [hb.cell (p := ⟨n, 1, none⟩) hs]; exact c1, by rw [hb.cell (p := ⟨n, 2, none⟩) hs]; exact c2, hB.trans (hb.mono (by omega)), by have := hb.size; omega⟩

/-- A block of the call's own that may be written. -/
theorem thaw3 {n : Nat} {w1 w2 : World} (f0 : w1.frozen? ⟨n, 0, none⟩ = false) (f1 : w1.frozen? ⟨n, 1, none⟩ = false) (f2 : w1.frozen? ⟨n, 2, none⟩ = false) (hs : n < w1.heap.size) (hb : Below w1.heap.size w1 w2) :
    w2.frozen? ⟨n, 0, none⟩ = false ∧ w2.frozen? ⟨n, 1, none⟩ = false ∧ w2.frozen? ⟨n, 2, none⟩ = false :=
  ⟨by rw [hb.frozen (p := ⟨n, 0, none⟩) hs]; exact f0, by rw [hb.frozen (p := ⟨n, 1, none⟩) hs]; exact f1, by rw [hb.frozen (p := ⟨n, 2, none⟩) hs]; exact f2⟩

set_option maxHeartbeats 400000 in
theorem linkIs_any (m : Bool) (s v : Int) (w : World) :
    Calls Tryd.prog 73 #[.agg #[.bool m, .int .i64 s, .int .i64 v]] w fun e w' => e = .returned (.bool (isL s v)) ∧ Below w.heap.size w w' := by
  cases hS : isS s
  · have H := Lib.hid hS
    go_enter Tryd.func73, Tryd.ntmps73
    go_wp2_with fail
    refine (isSlot_any s _).mono ?_
    rintro e w1 ⟨rfl, rfl⟩
    rw [H.out]
    go_wp2
    go_ret
    exact ⟨ret_bool (by have := H.out; simp [isS] at this; simp [isL]; omega), (Below.refl _ _).alloc (Nat.le_refl _) _⟩
  · obtain ⟨k0, k1⟩ := isS_parts hS
    have H := Lib.hid hS
    clear hS
    by_cases h2 : 0 ≤ v
    · go_enter Tryd.func73, Tryd.ntmps73
      go_wp2_with fail
      refine (isSlot_any s _).mono ?_
      rintro e w1 ⟨rfl, rfl⟩
      rw [H.out]
      go_wp2
      go_ret
      exact ⟨ret_bool (by simp [isL, h2, k0, k1]), (Below.refl _ _).alloc (Nat.le_refl _) _⟩
    · have hd : decide (0 ≤ v) = false := by simpa using h2
      go_enter Tryd.func73, Tryd.ntmps73
      go_wp2_with fail
      refine (isSlot_any s _).mono ?_
      rintro e w1 ⟨rfl, rfl⟩
      rw [H.out]
      go_wp2
      go_ret
      exact ⟨ret_bool (by simp [isL]; omega), (Below.refl _ _).alloc (Nat.le_refl _) _⟩

/-- The three Puts that make a link's word. -/
theorem put1 (v : Int) (w : World) (h0 : 0 ≤ v) (h1 : v ≤ 1099511627775) :
    Calls Tryd.prog 74 #[.agg #[.int .i64 0, .int .i64 40], .int .u64 0, .int .u64 v] w fun e w' => e = .returned (.tuple #[.int .u64 v, .bool true]) ∧ Below w.heap.size w w' := by
  have := put_yes 0 40 0 v w (by decide) (by decide) max_parts.2.2.2.1 (by decide) (by decide) h0 (by rw [max_parts.1]; exact h1)
  rw [put_version v h0] at this
  exact this
theorem put2 (v s : Int) (w : World) (h0 : 0 ≤ v) (h1 : v ≤ 1099511627775) (h2 : 0 ≤ s) (h3 : s ≤ 8388607) :
    Calls Tryd.prog 74 #[.agg #[.int .i64 40, .int .i64 23], .int .u64 v, .int .u64 s] w fun e w' => e = .returned (.tuple #[.int .u64 (v + s * 1099511627776), .bool true]) ∧ Below w.heap.size w w' := by
  have := put_yes 40 23 v s w (by decide) (by decide) max_parts.2.2.2.2.1 h0 (by omega) h2 (by rw [max_parts.2.1]; exact h3)
  rw [put_slot v s h0 h1 h2] at this
  exact this
theorem put3 (x : Int) (w : World) (h0 : 0 ≤ x) (h1 : x < 9223372036854775808) :
    Calls Tryd.prog 74 #[.agg #[.int .i64 63, .int .i64 1], .int .u64 x, .int .u64 1] w fun e w' => e = .returned (.tuple #[.int .u64 (x + 9223372036854775808), .bool true]) ∧ Below w.heap.size w w' := by
  have := put_yes 63 1 x 1 w (by decide) (by decide) max_parts.2.2.2.2.2 h0 (by omega) (by decide) (by rw [max_parts.2.2.1]; decide)
  rw [put_mark x h0 h1] at this
  exact this

set_option maxHeartbeats 800000 in
theorem word_any (m : Bool) (s v : Int) (w : World) (hg : Glo w) :
    Calls Tryd.prog 60 #[.agg #[.bool m, .int .i64 s, .int .i64 v]] w fun e w' => e = .returned (.int .u64 (wordI m s v)) ∧ Below w.heap.size w w' := by
  cases h : isL s v
  · have H := Lib.hid h
    clear h
    go_enter Tryd.func60, Tryd.ntmps60
    go_wp2_with fail
    refine (linkIs_any m s v _).mono ?_
    rintro e w1 ⟨rfl, hb⟩
    rw [H.out]
    go_wp2
    go_ret
    exact ⟨ret_int (wordI_no H.out).symm, ((Below.refl _ _).alloc (Nat.le_refl _) _).trans (hb.mono (by simp))⟩
  · have hp := isL_parts h
    have H := Lib.hid h
    clear h
    obtain ⟨k0, k1, k2, k3⟩ := hp
    have hA := hg.alloc (.cells #[.bool m, .int .i64 s, .int .i64 v] 123)
    clear hg
    go_enter Tryd.func60, Tryd.ntmps60
    go_wp2_with fail
    refine (linkIs_any m s v _).mono ?_
    rintro e w1 ⟨rfl, hb⟩
    have hA1 := hA.keep' hb
    obtain ⟨d0, d1, d2, hB, hs⟩ := hold3 (n := w.heap.size) (w := w) (x := .bool m) (y := .int .i64 s) (z := .int .i64 v) (by simp) (by simp) (by simp) ((Below.refl _ _).alloc (Nat.le_refl _) _) (by simp) hb
    clear hb hA
    rw [H.out]
    obtain ⟨⟨a0, a1⟩, ⟨b0, b1⟩, ⟨c0, c1⟩, g1, g2, g3⟩ := id hA1
    go_wp2_with fail
    refine (put1 v _ k2 k3).mono ?_
    rintro e w2 ⟨rfl, hb⟩
    have hA2 := hA1.keep' hb
    obtain ⟨e0, e1, e2, hB2, hs2⟩ := hold3 d0 d1 d2 hB hs hb
    clear hb hA1 d0 d1 d2 hB hs a0 a1 b0 b1 c0 c1 g1 g2 g3
    obtain ⟨⟨a0, a1⟩, ⟨b0, b1⟩, ⟨c0, c1⟩, g1, g2, g3⟩ := id hA2
    go_wp2_with fail
    refine (put2 v s _ k2 k3 k0 k1).mono ?_
    rintro e w3 ⟨rfl, hb⟩
    have hA3 := hA2.keep' hb
    obtain ⟨d0, d1, d2, hB, hs⟩ := hold3 e0 e1 e2 hB2 hs2 hb
    clear hb hA2 e0 e1 e2 hB2 hs2 a0 a1 b0 b1 c0 c1 g1 g2 g3
    obtain ⟨⟨a0, a1⟩, ⟨b0, b1⟩, ⟨c0, c1⟩, g1, g2, g3⟩ := id hA3
    have q0 : 0 ≤ v + s * 1099511627776 := by omega
    have q1 : v + s * 1099511627776 < 9223372036854775808 := by omega
    cases m
    · have HW := Lib.hid (wordI_yes (m := false) H.out)
      clear hA3
      go_wp2_with fail
      go_ret
      exact ⟨ret_int (by rw [HW.out]; simp [bitI]), hB⟩
    · have HW := Lib.hid (wordI_yes (m := true) H.out)
      clear hA3
      go_wp2_with fail
      refine (put3 _ _ q0 q1).mono ?_
      rintro e w4 ⟨rfl, hb⟩
      go_wp2_with fail
      go_ret
      exact ⟨ret_int (by rw [HW.out]; simp [bitI]), hB.trans (hb.mono (by omega))⟩
end Go.Proofs.YtlhhnaccigamjaaDoor

/- Contracts of functions of layer 2 that go by the others: To, Marked. -/
namespace Go.Proofs.YtlhhnaccigamjaaDoor
open Go.RowKit
set_option maxRecDepth 100000

set_option maxHeartbeats 400000 in
theorem to_any (s v : Int) (w : World) (hg : Glo w) :
    Calls Tryd.prog 36 #[.int .i64 s, .int .i64 v] w fun e w' => e = .returned (.int .u64 (wordI false s v)) ∧ Below w.heap.size w w' := by
  go_enter Tryd.func36, Tryd.ntmps36
  go_wp2_with fail
  refine (word_any false s v _ hg).mono ?_
  rintro e w1 ⟨rfl, hb⟩
  go_wp2_with fail
  go_ret
  exact ⟨rfl, hb⟩

set_option maxHeartbeats 400000 in
theorem marked_any (x s v : Int) (w : World) (hg : Glo w) (h0 : 0 ≤ x) (h1 : x ≤ 18446744073709551615) :
    Calls Tryd.prog 54 #[.int .u64 x, .int .i64 s, .int .i64 v] w fun e w' => e = .returned (.int .u64 (markedW x s v)) ∧ Below w.heap.size w w' := by
  cases h : markB x
  · have hm : markedW x s v = wordI true s v := by simp [markedW, h]
    have H := Lib.hid h
    have HM := Lib.hid hm
    clear h hm
    go_enter Tryd.func54, Tryd.ntmps54
    go_wp2_with fail
    refine (isMarked_any x _ hg h0 h1).mono ?_
    rintro e w1 ⟨rfl, hb⟩
    rw [H.out]
    go_wp2_with fail
    refine (word_any true s v _ (hg.keep' hb)).mono ?_
    rintro e w2 ⟨rfl, hb2⟩
    go_wp2_with fail
    go_ret
    exact ⟨ret_int HM.out.symm, hb.trans (hb2.mono (by have := hb.size; omega))⟩
  · have hm : markedW x s v = x := by simp [markedW, h]
    have H := Lib.hid h
    have HM := Lib.hid hm
    clear h hm
    go_enter Tryd.func54, Tryd.ntmps54
    go_wp2_with fail
    refine (isMarked_any x _ hg h0 h1).mono ?_
    rintro e w1 ⟨rfl, hb⟩
    rw [H.out]
    go_wp2_with fail
    go_ret
    exact ⟨ret_int HM.out.symm, hb⟩
end Go.Proofs.YtlhhnaccigamjaaDoor

/- Threads: contracts of New, To, Mark, Lead. -/
namespace Go.Proofs.YtlhhnaccigamjaaDoor
open Go.RowKit Go.Maps
set_option maxRecDepth 100000


section
variable {w0 w : World} {L : List Item}
set_option maxHeartbeats 1600000 in
theorem newNo_c (k s b h l : Int) (hc : chkI k s b h l ≠ 0) (w : World) :
    Calls Tryd.prog 8 #[.agg #[.int .i64 k, .int .i64 s, .int .i64 b, .int .i64 h, .int .i64 l]] w fun o w' => o = .returned (.pointer none) ∧ Below w.heap.size w w' := by
  have hF := (Fr.start w).push w.heap.size rfl [.int .i64 k, .int .i64 s, .int .i64 b, .int .i64 h, .int .i64 l] 23
  have r := hF.rule 0 rfl
  have hn : (chkI k s b h l != 0) = true := by simpa using hc
  go_enter Tryd.func8, Tryd.ntmps8
  go_wp2_with fail
  refine (check_any k s b h l _).mono ?_
  rintro o w1 ⟨rfl, hb⟩
  replace hF := hF.over hb
  clear hb r
  go_wp2_with fail
  go_ret
  exact ⟨rfl, hF.below⟩

set_option maxHeartbeats 1600000 in
theorem newYes_c (k s b h l : Int) (hc : chkI k s b h l = 0) (hE : Env w0 L w) :
    Calls Tryd.prog 8 #[.agg #[.int .i64 k, .int .i64 s, .int .i64 b, .int .i64 h, .int .i64 l]] w fun o w' => ∃ c q F, o = .returned (.pointer (some ⟨c, 0, none⟩)) ∧ Env w0 (coreI c k s b h l 0 0 0 0 q :: queueI q F [] 2 :: L) w' := by
  have HC := Lib.hid hc
  clear hc
  have hE1 := hE.box w.heap.size rfl [.int .i64 k, .int .i64 s, .int .i64 b, .int .i64 h, .int .i64 l] 23
  clear hE
  have r := hE1.rule 0 rfl
  go_enter Tryd.func8, Tryd.ntmps8
  go_wp2_with fail
  refine (check_any k s b h l _).mono ?_
  rintro o w1 ⟨rfl, hb⟩
  rw [HC.out]
  replace hE1 := hE1.over hb
  clear hb r
  generalize w.heap.size = X at *
  go_wp2_with fail
  refine Ord3.wp_chain [?_, ?_, ?_, ?_, ?_] [1, 2, 3, 4] (fun w' => Blk 0 w' X [.int .i64 k, .int .i64 s, .int .i64 b, .int .i64 h, .int .i64 l]) (Ord3.Stage fun κs => [Env w0 (boxI X [.int .i64 k, .int .i64 s, .int .i64 b, .int .i64 h, .int .i64 l] :: L), fun w' => ∃ q, κs.getD 0 undef = .pointer (some ⟨q, 0, none⟩) ∧ ∃ F, Env w0 (queueI q F [] 2 :: boxI X [.int .i64 k, .int .i64 s, .int .i64 b, .int .i64 h, .int .i64 l] :: L) w', fun w' => ∃ q, κs.getD 1 undef = (.agg #[.int .i64 k, .int .i64 s, .int .i64 b, .int .i64 h, .int .i64 l, .int .i64 0, .int .i64 0, .int .i64 0, .int .i64 0, .pointer (some ⟨q, 0, none⟩)]) ∧ ∃ F, Env w0 (queueI q F [] 2 :: boxI X [.int .i64 k, .int .i64 s, .int .i64 b, .int .i64 h, .int .i64 l] :: L) w', fun w' => ∃ c, κs.getD 2 undef = .pointer (some ⟨c, 0, none⟩) ∧ ∃ q F, Env w0 (coreI c k s b h l 0 0 0 0 q :: queueI q F [] 2 :: boxI X [.int .i64 k, .int .i64 s, .int .i64 b, .int .i64 h, .int .i64 l] :: L) w', fun w' => ∃ c, κs.getD 3 undef = .pointer (some ⟨c, 0, none⟩) ∧ ∃ q F, Env w0 (coreI c k s b h l 0 0 0 0 q :: queueI q F [] 2 :: boxI X [.int .i64 k, .int .i64 s, .int .i64 b, .int .i64 h, .int .i64 l] :: L) w']) (by kernel_rfl) (by kernel_rfl) (by kernel_rfl) (hE1.drew.get 0 rfl) ⟨_, rfl, hE1.drew⟩ (fun hT => ?_)
  rotate_left 5
  have hT9 := Lib.hid hT
  clear hT
  repeat (first
    | (focus (refine Ord3.in_value (v := ?_) hT9.out (by decide) ?_ (by rfl) ?_ ?_; rotate_left 2; (focus (intro w5 hS; have r := Blk.rule hS; go_simp <;> with_reducible rfl)); rotate_right; (focus rfl); (try simp only [Act.put, List.setIfInBounds_toArray, List.set_cons_zero, List.set_cons_succ])))
    | (focus (refine Ord3.in_off hT9.out (by decide) ?_ (by rfl) ?_; (focus rfl); (try simp only [Act.put, List.setIfInBounds_toArray, List.set_cons_zero, List.set_cons_succ]))))
  refine Ord3.in_turn (fun u => ∃ q, u = .pointer (some ⟨q, 0, none⟩)) _ ⟨0, rfl⟩ hT9.out rfl (by decide) (by rfl) ?_ (Or.inl rfl) (by rfl) ?_ ?_
  · rfl
  · rintro w7 hC7 ⟨P7, hP7, hA7⟩
    cases hP7
    go_simp
    simp only [Ord3.Lands]
    refine (newQ_any (xs := []) (A := none) (cap := 0) (by simp) Row3.nil).mono ?_
    rintro o w8 ⟨q8, F8, k8, rfl, hrm, hQ, hb8, hF8⟩
    have hk8 := hrm.unique (Rm.same (by simp))
    subst hk8
    have hE8 := hA7.madeQ hQ hF8 hb8
    exact ⟨_, rfl, ⟨q8, rfl⟩, hE8.get 1 rfl, _, rfl, q8, rfl, F8, hE8⟩
  rintro _ ⟨q9, rfl⟩
  (try simp only [Act.put, List.setIfInBounds_toArray, List.set_cons_zero, List.set_cons_succ])
  refine Ord3.in_turn (fun u => ∃ q, u = (.agg #[.int .i64 k, .int .i64 s, .int .i64 b, .int .i64 h, .int .i64 l, .int .i64 0, .int .i64 0, .int .i64 0, .int .i64 0, .pointer (some ⟨q, 0, none⟩)])) _ ⟨0, rfl⟩ hT9.out rfl (by decide) (by rfl) ?_ (Or.inr ⟨_, 1, [], rfl, by kernel_rfl, by kernel_rfl, rfl⟩) (by rfl) ?_ ?_
  · rfl
  · rintro w7 hC7 ⟨P7, hP7, hA7⟩
    cases hP7
    obtain ⟨q8, he, F8, hA7⟩ := hA7
    cases he
    go_simp
    simp only [Ord3.Lands]
    exact ⟨⟨_, rfl⟩, hC7, _, rfl, q9, rfl, F8, hA7⟩
  rintro _ ⟨q10, rfl⟩
  (try simp only [Act.put, List.setIfInBounds_toArray, List.set_cons_zero, List.set_cons_succ])
  refine Ord3.in_turn (fun u => ∃ c, u = .pointer (some ⟨c, 0, none⟩)) _ ⟨0, rfl⟩ hT9.out rfl (by decide) (by rfl) ?_ (Or.inr ⟨_, 2, [], rfl, by kernel_rfl, by kernel_rfl, rfl⟩) (by rfl) ?_ ?_
  · rfl
  · rintro w7 hC7 ⟨P7, hP7, hA7⟩
    cases hP7
    obtain ⟨q8, he, F8, hA7⟩ := hA7
    cases he
    go_simp
    simp only [Ord3.Lands]
    have hE8 := hA7.box w7.heap.size rfl (crv k s b h l 0 0 0 0 q10) 98
    exact ⟨⟨_, rfl⟩, hE8.get 2 rfl, _, rfl, w7.heap.size, rfl, q10, F8, hE8⟩
  rintro _ ⟨c8, rfl⟩
  (try simp only [Act.put, List.setIfInBounds_toArray, List.set_cons_zero, List.set_cons_succ])
  refine Ord3.in_turn (fun u => ∃ c, u = .pointer (some ⟨c, 0, none⟩)) _ ⟨0, rfl⟩ hT9.out rfl (by decide) (by rfl) ?_ (Or.inr ⟨_, 3, [], rfl, by kernel_rfl, by kernel_rfl, rfl⟩) (by rfl) ?_ ?_
  · rfl
  · rintro w7 hC7 ⟨P7, hP7, hA7⟩
    cases hP7
    obtain ⟨c7, he, q8, F8, hA7⟩ := hA7
    cases he
    go_simp
    simp only [Ord3.Lands]
    exact ⟨⟨_, rfl⟩, hC7, _, rfl, c8, rfl, q8, F8, hA7⟩
  rintro _ ⟨c9, rfl⟩
  (try simp only [Act.put, List.setIfInBounds_toArray, List.set_cons_zero, List.set_cons_succ])
  refine Ord3.in_nil rfl ?_
  rintro w9 hC9 ⟨P9, hP9, hA9⟩
  cases hP9
  obtain ⟨c8, he, q8, F8, hA9⟩ := hA9
  cases he
  clear hT9 hC9
  go_wp2_with fail
  go_ret
  exact ⟨c9, q8, F8, rfl, hA9.sub (.cons_cons _ (.cons_cons _ (.cons _ (List.Sublist.refl _))))⟩
end

section
variable {w : World} {c q : Nat} {k s b h l e r hs hi : Int}
set_option maxHeartbeats 1600000 in
theorem to_c (a d : Int) (hg : Glo w) (hb : Blk 0 w c (crv k s b h l e r hs hi q)) :
    Calls Tryd.prog 24 #[.pointer (some ⟨c, 0, none⟩), .agg #[.int .i64 a, .int .i64 d]] w fun o w' => o = .returned (.agg #[.int .u64 (wordI false a e), .int .i64 d, .bool false]) ∧ Below w.heap.size w w' := by
  have hcl := hb.1
  have HGB := Lib.hid fun (v : World) (hv : Below w.heap.size w v) => to_any a e v (hg.keep' hv)
  clear hg
  have hb1 := (hb.more (.cells [.int .i64 a, .int .i64 d].toArray 43)).more (.cells [.int .u64 0, .int .i64 0, .bool false].toArray 45)
  have hX := (Blk.new 0 w [.int .i64 a, .int .i64 d] 43).more (.cells [.int .u64 0, .int .i64 0, .bool false].toArray 45)
  have hB := (Blk.new 0 (w.alloc (.cells [.int .i64 a, .int .i64 d].toArray 43)) [.int .u64 0, .int .i64 0, .bool false] 45).at (n' := w.heap.size + 1) (by simp)
  have hE := ((Below.refl w.heap.size w).alloc (Nat.le_refl _) (.cells [.int .i64 a, .int .i64 d].toArray 43)).alloc (by simp) (.cells [.int .u64 0, .int .i64 0, .bool false].toArray 45)
  unfold crv at hb1
  clear hb
  go_enter Tryd.func24, Tryd.ntmps24
  go_wp2_with fail
  refine Ord.wp_chain [10] (fun w' => Below w.heap.size w w' ∧ Blk 0 w' c [.int .i64 k, .int .i64 s, .int .i64 b, .int .i64 h, .int .i64 l, .int .i64 e, .int .i64 r, .int .i64 hs, .int .i64 hi, .pointer (some ⟨q, 0, none⟩)] ∧ Blk 0 w' w.heap.size [.int .i64 a, .int .i64 d]) (fun j w' => Blk 0 w' (w.heap.size + 1) (if j = 0 then [.int .u64 0, .int .i64 0, .bool false] else [.int .u64 (wordI false a e), .int .i64 d, .bool false])) (by kernel_rfl) (by kernel_rfl) (by kernel_rfl) ⟨hE.drew, hb1.drew, hX.drew⟩ hB.drew (fun hT => ?_)
  have hT9 := Lib.hid hT
  clear hT
  repeat (first
    | (refine Ord.ch_value (v := ?_) hT9.out (by decide) (by rfl) ?_ ?_; rotate_left; (focus (intro w5 hS; have r := Blk.rule hS.2.1; have r2 := Blk.rule hS.2.2; go_simp <;> with_reducible rfl)); (try simp only [Act.put, List.setIfInBounds_toArray, List.set_cons_zero, List.set_cons_succ]))
    | (refine Ord.ch_off hT9.out (by decide) (by rfl) ?_; (try simp only [Act.put, List.setIfInBounds_toArray, List.set_cons_zero, List.set_cons_succ]))
    | (refine Ord.ch_call (v := ?_) (f := ?_) (args := ?_) hT9.out (by decide) (by rfl) ?_ ?_ ?_; rotate_left 3; (focus (intro w5 hS; have r := Blk.rule hS.2.1; have r2 := Blk.rule hS.2.2; go_simp; constructor <;> with_reducible rfl)); (focus (intro w5 hS; (first | (with_reducible refine (HGB.out _ hS.1).mono ?_; rintro o w6 ⟨rfl, hb6⟩; constructor; with_reducible rfl; exact ⟨⟨hS.1.trans (hb6.mono hS.1.size), hS.2.1.under hb6, hS.2.2.under hb6⟩, fun _ h => h.under hb6⟩)))); (try simp only [Act.put, List.setIfInBounds_toArray, List.set_cons_zero, List.set_cons_succ])))
  refine Ord.ch_turn (v := undef) 0 hT9.out rfl (by decide) (Or.inl rfl) (by rfl) ?_ ?_
  · rintro w5 hS hA2
    simp only [if_true] at hA2
    have r := hA2.rule
    have f0 := hA2.thaw 0 (by simp)
    have f1 := hA2.thaw 1 (by simp)
    have f2 := hA2.thaw 2 (by simp)
    have hz := hS.1.size
    go_simp
    refine ⟨rfl, ⟨?_, ?_, ?_⟩, ?_⟩
    · exact below_set (below_set (below_set hS.1 hz (by omega) _) (by simp; omega) (by omega) _) (by simp; omega) (by omega) _
    · exact ((hS.2.1.off (by omega) _).off (by omega) _).off (by omega) _
    · exact ((hS.2.2.off (by omega) _).off (by omega) _).off (by omega) _
    · exact Blk.put3 hA2 _ _ _
  (try simp only [Act.put, List.setIfInBounds_toArray, List.set_cons_zero, List.set_cons_succ])
  repeat (first
    | (refine Ord.ch_value (v := ?_) hT9.out (by decide) (by rfl) ?_ ?_; rotate_left; (focus (intro w5 hS; skip; go_simp <;> with_reducible rfl)); (try simp only [Act.put, List.setIfInBounds_toArray, List.set_cons_zero, List.set_cons_succ]))
    | (refine Ord.ch_off hT9.out (by decide) (by rfl) ?_; (try simp only [Act.put, List.setIfInBounds_toArray, List.set_cons_zero, List.set_cons_succ])))
  refine Ord.InText.nil fun w5 hS => ?_
  clear hT9
  obtain ⟨hC9, hA9⟩ := Ord.chain_end hS
  clear hS
  have q := hA9.rule
  simp only [show ¬ [10].length = 0 by decide, if_false] at q
  go_wp2
  exact bodyPost_ret (v := .agg #[.int .u64 (wordI false a e), .int .i64 d, .bool false]) (by simp [results, Tryd.results24, go_sem, q]) rfl ⟨rfl, hC9.1⟩
set_option maxHeartbeats 1600000 in
theorem markStays_c (v d2 : Int) (t : Bool) (a d : Int) (hv : InU v) (hm : markB v = true) (hg : Glo w) (hb : Blk 0 w c (crv k s b h l e r hs hi q)) :
    Calls Tryd.prog 25 #[.pointer (some ⟨c, 0, none⟩), .agg #[.int .u64 v, .int .i64 d2, .bool t], .agg #[.int .i64 a, .int .i64 d]] w fun o w' => o = .returned (.agg #[.int .u64 v, .int .i64 d2, .bool t]) ∧ Below w.heap.size w w' := by
  unfold InU at hv
  have HM := Lib.hid hm
  clear hm hb
  have hF := (((Fr.start w).push w.heap.size rfl [.int .u64 v, .int .i64 d2, .bool t] 45).push (w.heap.size + 1) (by simp) [.int .i64 a, .int .i64 d] 43).push (w.heap.size + 1 + 1) (by simp) [.int .u64 0, .int .i64 0, .bool false] 45
  have r := hF.rule 2 rfl
  have hg1 := hg.keep' hF.below
  go_enter Tryd.func25, Tryd.ntmps25
  go_wp2_with fail
  refine (isMarked_any v _ hg1 hv.1 hv.2).mono ?_
  rintro o w1 ⟨rfl, hb⟩
  rw [HM.out]
  replace hF := hF.over hb
  clear hb r hg1
  have r := hF.rule 2 rfl
  have rz := hF.rule 0 rfl
  have ff := hF.thaw 0 rfl (by omega)
  have f0 := ff 0 (by simp)
  have f1 := ff 1 (by simp)
  have f2 := ff 2 (by simp)
  clear ff
  go_wp2_with fail
  have hF9 := hF.put3 (by omega) (by simp; omega) (.int .u64 v) (.int .i64 d2) (.bool t)
  have q := hF9.rule 0 rfl
  exact bodyPost_ret (v := .agg #[.int .u64 v, .int .i64 d2, .bool t]) (by simp [results, Tryd.results25, go_sem, q]) rfl ⟨rfl, hF9.below⟩

set_option maxHeartbeats 1600000 in
theorem markNew_c (v d2 : Int) (t : Bool) (a d : Int) (hv : InU v) (hm : markB v = false) (hg : Glo w) (hb : Blk 0 w c (crv k s b h l e r hs hi q)) :
    Calls Tryd.prog 25 #[.pointer (some ⟨c, 0, none⟩), .agg #[.int .u64 v, .int .i64 d2, .bool t], .agg #[.int .i64 a, .int .i64 d]] w fun o w' => o = .returned (.agg #[.int .u64 (wordI true a e), .int .i64 d, .bool false]) ∧ Below w.heap.size w w' := by
  unfold InU at hv
  have hmw : markedW v a e = wordI true a e := by simp [markedW, hm]
  have HGB : Hid (∀ (x : World) (hx : Below w.heap.size w x), Calls Tryd.prog 54 #[.int .u64 v, .int .i64 a, .int .i64 e] x fun o w' => o = .returned (.int .u64 (wordI true a e)) ∧ Below x.heap.size x w') := Lib.hid fun x hx => by
    rw [← hmw]; exact marked_any v a e x (hg.keep' hx) hv.1 hv.2
  have HM := Lib.hid hm
  clear hm hmw
  have hF := (((Fr.start w).push w.heap.size rfl [.int .u64 v, .int .i64 d2, .bool t] 45).push (w.heap.size + 1) (by simp) [.int .i64 a, .int .i64 d] 43).push (w.heap.size + 1 + 1) (by simp) [.int .u64 0, .int .i64 0, .bool false] 45
  have r := hF.rule 2 rfl
  have hg1 := hg.keep' hF.below
  have hcl := hb.1
  have hb1 := hb.under hF.below
  clear hb hg
  go_enter Tryd.func25, Tryd.ntmps25
  go_wp2_with fail
  refine (isMarked_any v _ hg1 hv.1 hv.2).mono ?_
  rintro o w1 ⟨rfl, hb⟩
  rw [HM.out]
  replace hF := hF.over hb
  replace hb1 := hb1.under hb
  clear hb r hg1
  unfold crv at hb1
  go_wp2_with fail
  have hX := hF.blk 2 rfl (by omega)
  have hY := hF.blk 1 rfl (by omega)
  have hZ := hF.blk 0 rfl (by omega)
  have hE := hF.below
  clear hF
  refine Ord.wp_chain [12] (fun w' => Below w.heap.size w w' ∧ Blk 0 w' c [.int .i64 k, .int .i64 s, .int .i64 b, .int .i64 h, .int .i64 l, .int .i64 e, .int .i64 r, .int .i64 hs, .int .i64 hi, .pointer (some ⟨q, 0, none⟩)] ∧ Blk 0 w' w.heap.size [.int .u64 v, .int .i64 d2, .bool t] ∧ Blk 0 w' (w.heap.size + 1) [.int .i64 a, .int .i64 d]) (fun j w' => Blk 0 w' (w.heap.size + 1 + 1) (if j = 0 then [.int .u64 0, .int .i64 0, .bool false] else [.int .u64 (wordI true a e), .int .i64 d, .bool false])) (by kernel_rfl) (by kernel_rfl) (by kernel_rfl) ⟨hE.drew, hb1.drew, hX.drew, hY.drew⟩ hZ.drew (fun hT => ?_)
  have hT9 := Lib.hid hT
  clear hT
  repeat (first
    | (refine Ord.ch_value (v := ?_) hT9.out (by decide) (by rfl) ?_ ?_; rotate_left; (focus (intro w5 hS; have r1 := Blk.rule hS.2.1; have r2 := Blk.rule hS.2.2.1; have r3 := Blk.rule hS.2.2.2; go_simp <;> with_reducible rfl)); (try simp only [Act.put, List.setIfInBounds_toArray, List.set_cons_zero, List.set_cons_succ]))
    | (refine Ord.ch_off hT9.out (by decide) (by rfl) ?_; (try simp only [Act.put, List.setIfInBounds_toArray, List.set_cons_zero, List.set_cons_succ]))
    | (refine Ord.ch_call (v := ?_) (f := ?_) (args := ?_) hT9.out (by decide) (by rfl) ?_ ?_ ?_; rotate_left 3; (focus (intro w5 hS; have r1 := Blk.rule hS.2.1; have r2 := Blk.rule hS.2.2.1; have r3 := Blk.rule hS.2.2.2; go_simp; constructor <;> with_reducible rfl)); (focus (intro w5 hS; (first | (with_reducible refine (HGB.out _ hS.1).mono ?_; rintro o w6 ⟨rfl, hb6⟩; constructor; with_reducible rfl; exact ⟨⟨hS.1.trans (hb6.mono hS.1.size), hS.2.1.under hb6, hS.2.2.1.under hb6, hS.2.2.2.under hb6⟩, fun _ h => h.under hb6⟩)))); (try simp only [Act.put, List.setIfInBounds_toArray, List.set_cons_zero, List.set_cons_succ])))
  refine Ord.ch_turn (v := undef) 0 hT9.out rfl (by decide) (Or.inl rfl) (by rfl) ?_ ?_
  · rintro w5 hS hA2
    simp only [if_true] at hA2
    have r := hA2.rule
    have f0 := hA2.thaw 0 (by simp)
    have f1 := hA2.thaw 1 (by simp)
    have f2 := hA2.thaw 2 (by simp)
    have hz := hS.1.size
    go_simp
    refine ⟨rfl, ⟨?_, ?_, ?_, ?_⟩, ?_⟩
    · exact below_set (below_set (below_set hS.1 hz (by omega) _) (by simp; omega) (by omega) _) (by simp; omega) (by omega) _
    · exact ((hS.2.1.off (by omega) _).off (by omega) _).off (by omega) _
    · exact ((hS.2.2.1.off (by omega) _).off (by omega) _).off (by omega) _
    · exact ((hS.2.2.2.off (by omega) _).off (by omega) _).off (by omega) _
    · exact Blk.put3 hA2 _ _ _
  (try simp only [Act.put, List.setIfInBounds_toArray, List.set_cons_zero, List.set_cons_succ])
  repeat (first
    | (refine Ord.ch_value (v := ?_) hT9.out (by decide) (by rfl) ?_ ?_; rotate_left; (focus (intro w5 hS; skip; go_simp <;> with_reducible rfl)); (try simp only [Act.put, List.setIfInBounds_toArray, List.set_cons_zero, List.set_cons_succ]))
    | (refine Ord.ch_off hT9.out (by decide) (by rfl) ?_; (try simp only [Act.put, List.setIfInBounds_toArray, List.set_cons_zero, List.set_cons_succ])))
  refine Ord.InText.nil fun w5 hS => ?_
  clear hT9
  obtain ⟨hC9, hA9⟩ := Ord.chain_end hS
  clear hS
  have q := hA9.rule
  simp only [show ¬ [12].length = 0 by decide, if_false] at q
  go_wp2
  exact bodyPost_ret (v := .agg #[.int .u64 (wordI true a e), .int .i64 d, .bool false]) (by simp [results, Tryd.results25, go_sem, q]) rfl ⟨rfl, hC9.1⟩
end

set_option maxHeartbeats 1600000 in
theorem lead_c (v d : Int) (t : Bool) (w : World) (hv : InU v) (hg : Glo w) :
    Calls Tryd.prog 26 #[.agg #[.int .u64 v, .int .i64 d, .bool t]] w fun o w' => o = .returned (.agg #[.int .i64 (slotI v), .int .i64 d]) ∧ Below w.heap.size w w' := by
  unfold InU at hv
  have HGB := Lib.hid fun (x : World) (hx : Below w.heap.size w x) => slot_any v x (hg.keep' hx) hv.1 hv.2
  clear hg
  have hF := ((Fr.start w).push w.heap.size rfl [.int .u64 v, .int .i64 d, .bool t] 45).push (w.heap.size + 1) (by simp) [.int .i64 0, .int .i64 0] 43
  have hX := hF.blk 1 rfl (by omega)
  have hZ := hF.blk 0 rfl (by omega)
  have hE := hF.below
  clear hF
  go_enter Tryd.func26, Tryd.ntmps26
  go_wp2_with fail
  refine Ord.wp_chain [6] (fun w' => Below w.heap.size w w' ∧ Blk 0 w' w.heap.size [.int .u64 v, .int .i64 d, .bool t]) (fun j w' => Blk 0 w' (w.heap.size + 1) (if j = 0 then [.int .i64 0, .int .i64 0] else [.int .i64 (slotI v), .int .i64 d])) (by kernel_rfl) (by kernel_rfl) (by kernel_rfl) ⟨hE.drew, hX.drew⟩ hZ.drew (fun hT => ?_)
  have hT9 := Lib.hid hT
  clear hT
  repeat (first
    | (refine Ord.ch_value (v := ?_) hT9.out (by decide) (by rfl) ?_ ?_; rotate_left; (focus (intro w5 hS; have r := Blk.rule hS.2; go_simp <;> with_reducible rfl)); (try simp only [Act.put, List.setIfInBounds_toArray, List.set_cons_zero, List.set_cons_succ]))
    | (refine Ord.ch_off hT9.out (by decide) (by rfl) ?_; (try simp only [Act.put, List.setIfInBounds_toArray, List.set_cons_zero, List.set_cons_succ]))
    | (refine Ord.ch_call (v := ?_) (f := ?_) (args := ?_) hT9.out (by decide) (by rfl) ?_ ?_ ?_; rotate_left 3; (focus (intro w5 hS; have r := Blk.rule hS.2; go_simp; constructor <;> with_reducible rfl)); (focus (intro w5 hS; (first | (with_reducible refine (HGB.out _ hS.1).mono ?_; rintro o w6 ⟨rfl, hb6⟩; constructor; with_reducible rfl; exact ⟨⟨hS.1.trans (hb6.mono hS.1.size), hS.2.under hb6⟩, fun _ h => h.under hb6⟩)))); (try simp only [Act.put, List.setIfInBounds_toArray, List.set_cons_zero, List.set_cons_succ])))
  refine Ord.ch_turn (v := undef) 0 hT9.out rfl (by decide) (Or.inl rfl) (by rfl) ?_ ?_
  · rintro w5 hS hA2
    simp only [if_true] at hA2
    have r := hA2.rule
    have f0 := hA2.thaw 0 (by simp)
    have f1 := hA2.thaw 1 (by simp)
    have hz := hS.1.size
    go_simp
    refine ⟨rfl, ⟨?_, ?_⟩, ?_⟩
    · exact below_set (below_set hS.1 hz (by omega) _) (by simp; omega) (by omega) _
    · exact (hS.2.off (by omega) _).off (by omega) _
    · exact (hA2.set (i := 0) (by simp) _).set (i := 1) (by simp) _
  (try simp only [Act.put, List.setIfInBounds_toArray, List.set_cons_zero, List.set_cons_succ])
  repeat (first
    | (refine Ord.ch_value (v := ?_) hT9.out (by decide) (by rfl) ?_ ?_; rotate_left; (focus (intro w5 hS; skip; go_simp <;> with_reducible rfl)); (try simp only [Act.put, List.setIfInBounds_toArray, List.set_cons_zero, List.set_cons_succ]))
    | (refine Ord.ch_off hT9.out (by decide) (by rfl) ?_; (try simp only [Act.put, List.setIfInBounds_toArray, List.set_cons_zero, List.set_cons_succ])))
  refine Ord.InText.nil fun w5 hS => ?_
  clear hT9
  obtain ⟨hC9, hA9⟩ := Ord.chain_end hS
  clear hS
  have q := hA9.rule
  simp only [show ¬ [6].length = 0 by decide, if_false] at q
  go_wp2
  exact bodyPost_ret (v := .agg #[.int .i64 (slotI v), .int .i64 d]) (by simp [results, Tryd.results26, go_sem, q]) rfl ⟨rfl, hC9.1⟩
end Go.Proofs.YtlhhnaccigamjaaDoor

/- A drawn region whose operations each come to one value, whatever the order: walked once, in the order of the text. S says what every world on the way keeps (cells that are read, what has not turned); loads, arithmetic and calls (of functions that may make memory) go by it. -/
namespace Go.Proofs.YtlhhnaccigamjaaDoor
open Go
set_option maxRecDepth 100000

section
variable {P : Program} {ops : Array Oper} {Q : Exit → Act → World → Prop} {md : Region.Mode} {S : World → Prop}

/-- What a run comes to: the value v, or a call that comes to v; S is kept. -/
def LandsIn (P : Program) (S : World → Prop) (v : Value) : Result Next → Prop
  | .ok (.value u) w' => u = v ∧ S w'
  | .ok .skip w' => v = undef ∧ S w'
  | .ok (.enter f args) w' => Calls P f args w' fun e w'' => e = .returned v ∧ S w''
  | _ => False

/-- In frame a the operation comes to v from every world that meets S. -/
def Settles (P : Program) (ops : Array Oper) (S : World → Prop) (o : Oper) (v : Value) (a : Act) : Prop :=
  (Region.wanted o (yielded ops a.tmps) = true ∧ ∀ w, S w → LandsIn P S v ((execOp a.eval o).run P w)) ∨ (Region.wanted o (yielded ops a.tmps) = false ∧ v = undef)

theorem Settles.of_same {o : Oper} {v : Value} {a a' : Act} (h : Settles P ops S o v a) (he : execOp a'.eval o = execOp a.eval o)
    (hw : Region.wanted o (yielded ops a'.tmps) = Region.wanted o (yielded ops a.tmps)) : Settles P ops S o v a' := by
  unfold Settles at *
  rw [he, hw]
  exact h

theorem Settles.wpOp {i : Nat} {o : Oper} {v : Value} {a : Act} (hi : ops[i]? = some o) (h : Settles P ops S o v a) {K : Act → World → Prop} {w : World} (hS : S w)
    (hK : ∀ w', S w' → K (a.put o.dst v) w') : wpOp P ops Q i K a w := by
  unfold Go.wpOp
  simp only [hi]
  rcases h with ⟨hw, hv⟩ | ⟨hw, rfl⟩
  · simp only [hw, if_true]
    have := hv w hS
    refine .inl ?_
    unfold Oper.wp
    generalize (execOp a.eval o).run P w = r at *
    cases r with
    | ok n w' =>
      cases n <;> simp only [LandsIn] at this <;> simp only [Oper.upon]
      case value u => obtain ⟨rfl, h2⟩ := this; exact hK _ h2
      case skip => obtain ⟨rfl, h2⟩ := this; exact hK _ h2
      case enter f args =>
        refine Calls.mono this fun e w'' he => ?_
        obtain ⟨rfl, h2⟩ := he
        exact hK _ h2
    | halt x w' => simp only [LandsIn] at this
  · simp only [hw, Bool.false_eq_true, if_false]
    exact hK _ hS

/-- Whatever order is picked: each operation comes to a value that hangs on the frame alone. -/
def Every (P : Program) (md : Region.Mode) (ops : Array Oper) (Q : Exit → Act → World → Prop) (S : World → Prop) : Nat → Array Bool → Act → Prop
  | 0, listed, a => Region.ready md ops listed = [] ∧ ∀ w, S w → Q .normal a w
  | fuel + 1, listed, a => (Region.ready md ops listed = [] → ∀ w, S w → Q .normal a w) ∧
    ∀ i ∈ Region.ready md ops listed, ∃ o v, ops[i]? = some o ∧ Settles P ops S o v a ∧ Every P md ops Q S fuel (listed.setIfInBounds i true) (a.put o.dst v)

theorem Every.sound : ∀ (fuel : Nat) (listed : Array Bool) (a : Act), Every P md ops Q S fuel listed a → ∀ w, S w → wpAny P md ops Q fuel listed a w
  | 0, _, _, h, w, hS => ⟨h.1, h.2 w hS⟩
  | fuel + 1, listed, a, h, w, hS => ⟨fun h0 => h.1 h0 w hS, fun i hi => by
      obtain ⟨o, v, ho, hs, hE⟩ := h.2 i hi
      exact hs.wpOp ho hS fun w' hS' => Every.sound fuel _ _ hE w' hS'⟩

theorem Every.first {i : Nat} {oi : Oper} {v : Value} (hi : ops[i]? = some oi) (hsel : ∀ (j : Nat) (o : Oper) cs b, ops[j]? = some o → o.op ≠ .select cs b) :
    ∀ (fuel : Nat) (listed : Array Bool) (a : Act),
      (∀ j oj, ops[j]? = some oj → j ≠ i → listed.getD j true = false → (∀ e ∈ oj.after, Region.binds md e = true → e.on ≠ i) → oi.apart ops oj = true) →
      i ∈ Region.ready md ops listed → Settles P ops S oi v a →
      Every P md ops Q S fuel (listed.setIfInBounds i true) (a.put oi.dst v) → Every P md ops Q S (fuel + 1) listed a := by
  intro fuel
  induction fuel with
  | zero =>
    intro listed a _ hr hy H
    refine ⟨fun h => (by rw [h] at hr; cases hr), fun j hj => ?_⟩
    by_cases hji : j = i
    · subst hji; exact ⟨oi, v, hi, hy, H⟩
    · have := ready_mono hj hji
      rw [H.1] at this
      cases this
  | succ fuel ih =>
    intro listed a hfree hr hy H
    refine ⟨fun h => (by rw [h] at hr; cases hr), fun j hj => ?_⟩
    by_cases hji : j = i
    · subst hji; exact ⟨oi, v, hi, hy, H⟩
    · obtain ⟨oj, u, hoj, hsj, hE⟩ := H.2 j (ready_mono hj hji)
      obtain ⟨hjun, oj', hoj', hall⟩ := mem_ready.1 hj
      obtain rfl : oj = oj' := Option.some.inj (hoj.symm.trans hoj')
      have hnot : ∀ e ∈ oj.after, Region.binds md e = true → e.on ≠ i := fun e he hb heq => by
        have h1 := hall e he hb
        have h0 := (mem_ready.1 hr).1
        rw [heq] at h1
        rcases Nat.lt_or_ge i listed.size with h' | h'
        · simp [h'] at h0 h1; rw [h0] at h1; cases h1
        · simp [Array.getElem?_eq_none h'] at h1
      have hap := hfree j oj hoj hji hjun hnot
      obtain ⟨p1, p2, p3⟩ := Oper.apart_spec hap
      have hfree' : ∀ k ok, ops[k]? = some ok → k ≠ i → (listed.setIfInBounds j true).getD k true = false →
          (∀ e ∈ ok.after, Region.binds md e = true → e.on ≠ i) → oi.apart ops ok = true := fun k ok hk hki hun hno => by
        refine hfree k ok hk hki ?_ hno
        by_cases hjk : j = k
        · subst hjk; exact hjun
        · rw [getD_set_ne true hjk] at hun; exact hun
      refine ⟨oj, u, hoj, hsj.of_same (execOp_put oj (fun cs b => hsel j oj cs b hoj) a oi.dst v p1).symm (wanted_put oj a oi.dst v p1).symm, ?_⟩
      refine ih (listed.setIfInBounds j true) (a.put oj.dst u) hfree' (ready_mono hr (Ne.symm hji)) (hy.of_same (execOp_put oi (fun cs b => hsel i oi cs b hi) a oj.dst u p3) (wanted_put oi a oj.dst u p3)) ?_
      rw [Array.setIfInBounds_comm _ _ hji, ← Act.put_comm a v u p2]
      exact hE

/-- The operations of the text from k on, in its order. -/
def firstK (n k : Nat) : Array Bool := Array.ofFn (n := n) fun i => decide (i.1 < k)
def textFits (md : Region.Mode) (ops : Array Oper) : Bool :=
  Region.noSelect ops && (List.range ops.size).all fun k => Region.free md ops (firstK ops.size k) k && (Region.ready md ops (firstK ops.size k)).contains k
def InText (P : Program) (md : Region.Mode) (ops : Array Oper) (Q : Exit → Act → World → Prop) (S : World → Prop) (rest : List Oper) (a : Act) : Prop :=
  ∀ k, k + rest.length = ops.size → ops.toList.drop k = rest → Every P md ops Q S rest.length (firstK ops.size k) a

theorem firstK_succ (n k : Nat) : (firstK n k).setIfInBounds k true = firstK n (k + 1) := by
  apply Array.ext
  · simp [firstK]
  · intro i h1 h2
    by_cases hik : i = k
    · subst hik
      simp [firstK]
    · have e := Array.getElem_setIfInBounds_ne (xs := firstK n k) (i := k) (j := i) (a := true) (by simpa using h1) (by omega)
      rw [e]
      simp only [firstK, Array.getElem_ofFn]
      congr 1
      apply propext
      omega

theorem InText.nil {a : Act} (h : ∀ w, S w → Q .normal a w) : InText P md ops Q S [] a := fun k hk _ => by
  refine ⟨?_, h⟩
  have hk' : k = ops.size := by simpa using hk
  subst hk'
  unfold Region.ready
  rw [List.filter_eq_nil_iff]
  intro i hi
  have : i < ops.size := by simpa using hi
  simp [firstK, this]

theorem InText.cons {o : Oper} {rest : List Oper} {a : Act} {v : Value} (hf : textFits md ops = true) (hs : Settles P ops S o v a) (h : InText P md ops Q S rest (a.put o.dst v)) : InText P md ops Q S (o :: rest) a := fun k hk hd => by
  unfold textFits at hf
  rw [Bool.and_eq_true, List.all_eq_true] at hf
  have hlt : k < ops.size := by simp at hk; omega
  have hf2 := hf.2 k (by simpa using hlt)
  rw [Bool.and_eq_true] at hf2
  have ho : ops[k]? = some o := by
    have h0 : (ops.toList.drop k)[0]? = some o := by rw [hd]; rfl
    simpa using h0
  have hsel : ∀ (j : Nat) (o : Oper) cs b, ops[j]? = some o → o.op ≠ .select cs b := Region.noSelect_spec hf.1
  refine Every.first ho hsel rest.length (firstK ops.size k) a (Region.free_spec ho hf2.1) (by simpa using hf2.2) hs ?_
  rw [firstK_succ]
  refine h (k + 1) (by simp at hk; omega) ?_
  rw [← List.drop_drop, hd]
  rfl

/-- The start. -/
theorem wp_text {id : Nat} {a : Act} {w : World} (hm : P.follows .mixedOrders = true) (hf : textFits .any ops = true) (hS : S w.drew) (h : textFits .any ops = true → InText P .any ops Q S ops.toList a) : (Code.region id ops true).wp P Q a w :=
  wp_region_any hm (by
    have h0 := h hf 0 (by simp) rfl
    have e : firstK ops.size 0 = Array.replicate ops.size false := by
      apply Array.ext
      · simp [firstK]
      · intro i h1 h2; simp [firstK]
    rw [e] at h0
    simpa using Every.sound _ _ _ h0 _ hS)

/-- One step each: a value (arithmetic, a load, a move). -/
theorem text_value {o : Oper} {rest : List Oper} {a : Act} {v : Value} (hf : textFits md ops = true) (hw : Region.wanted o (yielded ops a.tmps) = true) (hv : ∀ w, S w → (execOp a.eval o).run P w = .ok (.value v) w)
    (h : InText P md ops Q S rest (a.put o.dst v)) : InText P md ops Q S (o :: rest) a :=
  InText.cons hf (Or.inl ⟨hw, fun w hS => by rw [hv w hS]; exact ⟨rfl, hS⟩⟩) h
/-- .. an operation that is not wanted .. -/
theorem text_off {o : Oper} {rest : List Oper} {a : Act} (hf : textFits md ops = true) (hw : Region.wanted o (yielded ops a.tmps) = false) (h : InText P md ops Q S rest (a.put o.dst undef)) : InText P md ops Q S (o :: rest) a :=
  InText.cons hf (Or.inr ⟨hw, rfl⟩) h
/-- .. a call. -/
theorem text_call {o : Oper} {rest : List Oper} {a : Act} {v : Value} {f : FuncId} {args : Array Value} (hf : textFits md ops = true) (hw : Region.wanted o (yielded ops a.tmps) = true) (hr : ∀ w, S w → (execOp a.eval o).run P w = .ok (.enter f args) w)
    (hc : ∀ w, S w → Calls P f args w fun e w' => e = .returned v ∧ S w') (h : InText P md ops Q S rest (a.put o.dst v)) : InText P md ops Q S (o :: rest) a :=
  InText.cons hf (Or.inl ⟨hw, fun w hS => by rw [hr w hS]; exact hc w hS⟩) h
end
end Go.Proofs.YtlhhnaccigamjaaDoor

/- Threads: contracts of Hold, Take, Drop. -/
namespace Go.Proofs.YtlhhnaccigamjaaDoor
open Go.RowKit Go.Maps
set_option maxRecDepth 100000

section
variable {w0 w : World} {L : List Item} {c q kq : Nat} {F : Nat → Prop} {ql : List Trip} {k s b h l e r hs hi : Int}

set_option maxHeartbeats 1600000 in
theorem holdState_c (a d : Int) (hh : hs ≠ 0) (hb : Blk 0 w c (crv k s b h l e r hs hi q)) :
    Calls Tryd.prog 22 #[.pointer (some ⟨c, 0, none⟩), .agg #[.int .i64 a, .int .i64 d]] w fun o w' => o = .returned (.int .i64 10) ∧ Below w.heap.size w w' := by
  have hF := (Fr.start w).push w.heap.size rfl [.int .i64 a, .int .i64 d] 43
  have hb1 := hb.under hF.below
  have hn : (hs != 0) = true := by simpa using hh
  clear hb hh
  go_enter Tryd.func22, Tryd.ntmps22
  go_wp2_with fail
  refine (held_c hb1).mono ?_
  rintro o w1 ⟨rfl, hb⟩
  rw [hn]
  replace hF := hF.over hb
  clear hb hb1
  go_wp2_with fail
  go_ret
  exact ⟨rfl, hF.below.alloc hF.below.size _⟩

set_option maxHeartbeats 1600000 in
theorem holdArg_c (a d : Int) (hh : hs = 0) (ha : a < 1 ∨ s < a) (hb : Blk 0 w c (crv k s b h l e r hs hi q)) :
    Calls Tryd.prog 22 #[.pointer (some ⟨c, 0, none⟩), .agg #[.int .i64 a, .int .i64 d]] w fun o w' => o = .returned (.int .i64 1) ∧ Below w.heap.size w w' := by
  have hF := (Fr.start w).push w.heap.size rfl [.int .i64 a, .int .i64 d] 43
  have hb1 := hb.under hF.below
  have hn : (hs != 0) = false := by simpa using hh
  clear hh
  clear hb
  go_enter Tryd.func22, Tryd.ntmps22
  go_wp2_with fail
  refine (held_c hb1).mono ?_
  rintro o w1 ⟨rfl, hb⟩
  rw [hn]
  replace hF := hF.over hb
  replace hb1 := hb1.under hb
  clear hb
  unfold crv at hb1
  replace hF := hF.push w1.heap.size rfl [.int .i64 hs, .int .i64 hi] 43
  replace hb1 := hb1.more (.cells [.int .i64 hs, .int .i64 hi].toArray 43)
  have hX := hF.blk 1 rfl (by omega)
  have hE := hF.below
  clear hF
  go_wp2_with fail
  by_cases ha1 : a < 1
  · have hd : decide (a < 1) = true := by simpa using ha1
    refine wp_text (S := (fun w' => Below w.heap.size w w' ∧ Blk 0 w' c [.int .i64 k, .int .i64 s, .int .i64 b, .int .i64 h, .int .i64 l, .int .i64 e, .int .i64 r, .int .i64 hs, .int .i64 hi, .pointer (some ⟨q, 0, none⟩)] ∧ Blk 0 w' w.heap.size [.int .i64 a, .int .i64 d])) (by kernel_rfl) (by kernel_rfl) ⟨hE.drew, hb1.drew, hX.drew⟩ (fun hT => ?_)
    have hT9 := Lib.hid hT
    clear hT
    repeat (first
      | (refine text_value (v := ?_) hT9.out (by rfl) ?_ ?_; rotate_left; (focus (intro w5 hS; have r1 := Blk.rule hS.2.1; have r2 := Blk.rule hS.2.2; go_simp <;> with_reducible rfl)); (try simp only [Act.put, List.setIfInBounds_toArray, List.set_cons_zero, List.set_cons_succ]))
      | (refine text_off hT9.out (by rfl) ?_; (try simp only [Act.put, List.setIfInBounds_toArray, List.set_cons_zero, List.set_cons_succ]))
      | (refine text_call (v := ?_) (f := ?_) (args := ?_) hT9.out (by rfl) ?_ ?_ ?_; rotate_left 3; (focus (intro w5 hS; have r1 := Blk.rule hS.2.1; have r2 := Blk.rule hS.2.2; go_simp; constructor <;> with_reducible rfl)); (focus (intro w5 hS; (first | fail))); (try simp only [Act.put, List.setIfInBounds_toArray, List.set_cons_zero, List.set_cons_succ])))
    refine InText.nil fun w5 hS5 => ?_
    clear hT9
    go_wp2_with fail
    go_ret
    exact ⟨rfl, hS5.1⟩
  · have hd : decide (a < 1) = false := by simpa using ha1
    have hd2 : decide (s < a) = true := by simp; omega
    refine wp_text (S := (fun w' => Below w.heap.size w w' ∧ Blk 0 w' c [.int .i64 k, .int .i64 s, .int .i64 b, .int .i64 h, .int .i64 l, .int .i64 e, .int .i64 r, .int .i64 hs, .int .i64 hi, .pointer (some ⟨q, 0, none⟩)] ∧ Blk 0 w' w.heap.size [.int .i64 a, .int .i64 d])) (by kernel_rfl) (by kernel_rfl) ⟨hE.drew, hb1.drew, hX.drew⟩ (fun hT => ?_)
    have hT9 := Lib.hid hT
    clear hT
    repeat (first
      | (refine text_value (v := ?_) hT9.out (by rfl) ?_ ?_; rotate_left; (focus (intro w5 hS; have r1 := Blk.rule hS.2.1; have r2 := Blk.rule hS.2.2; go_simp <;> with_reducible rfl)); (try simp only [Act.put, List.setIfInBounds_toArray, List.set_cons_zero, List.set_cons_succ]))
      | (refine text_off hT9.out (by rfl) ?_; (try simp only [Act.put, List.setIfInBounds_toArray, List.set_cons_zero, List.set_cons_succ]))
      | (refine text_call (v := ?_) (f := ?_) (args := ?_) hT9.out (by rfl) ?_ ?_ ?_; rotate_left 3; (focus (intro w5 hS; have r1 := Blk.rule hS.2.1; have r2 := Blk.rule hS.2.2; go_simp; constructor <;> with_reducible rfl)); (focus (intro w5 hS; (first | fail))); (try simp only [Act.put, List.setIfInBounds_toArray, List.set_cons_zero, List.set_cons_succ])))
    refine InText.nil fun w5 hS5 => ?_
    clear hT9
    go_wp2_with fail
    go_ret
    exact ⟨rfl, hS5.1⟩

set_option maxHeartbeats 1600000 in
theorem holdYes_c (a d : Int) (hh : hs = 0) (ha : 1 ≤ a ∧ a ≤ s) (m : Nat) (hE : Env w0 L w) (hm : L[m]? = some (coreI c k s b h l e r hs hi q)) :
    Calls Tryd.prog 22 #[.pointer (some ⟨c, 0, none⟩), .agg #[.int .i64 a, .int .i64 d]] w fun o w' => o = .returned (.int .i64 0) ∧ Env w0 (L.set m (coreI c k s b h l e r a d q)) w' := by
  have hE1 := hE.box w.heap.size rfl [.int .i64 a, .int .i64 d] 43
  have hm1 : (boxI w.heap.size [.int .i64 a, .int .i64 d] :: L)[m + 1]? = some (coreI c k s b h l e r hs hi q) := hm
  have hn : (hs != 0) = false := by simpa using hh
  clear hh
  have hd : decide (a < 1) = false := by simp; omega
  have hd2 : decide (s < a) = false := by simp; omega
  clear hE
  go_enter Tryd.func22, Tryd.ntmps22
  go_wp2_with fail
  refine (held_c (hE1.get (m + 1) hm1)).mono ?_
  rintro o w1 ⟨rfl, hb⟩
  rw [hn]
  replace hE1 := hE1.over hb
  clear hb
  replace hE1 := hE1.box w1.heap.size rfl [.int .i64 hs, .int .i64 hi] 43
  generalize w.heap.size = X at *
  go_wp2_with fail
  generalize w1.heap.size = Y at *
  generalize w1.alloc _ = w2 at *
  have hm2 : (boxI Y [.int .i64 hs, .int .i64 hi] :: boxI X [.int .i64 a, .int .i64 d] :: L)[m + 2]? = some (coreI c k s b h l e r hs hi q) := hm
  have HCB : Hid (∀ v, Env w0 (boxI Y [.int .i64 hs, .int .i64 hi] :: boxI X [.int .i64 a, .int .i64 d] :: L) v → Blk 0 v c [.int .i64 k, .int .i64 s, .int .i64 b, .int .i64 h, .int .i64 l, .int .i64 e, .int .i64 r, .int .i64 hs, .int .i64 hi, .pointer (some ⟨q, 0, none⟩)]) := Lib.hid fun v hv => hv.get (m + 2) hm2
  refine wp_text (S := (Env w0 (boxI Y [.int .i64 hs, .int .i64 hi] :: boxI X [.int .i64 a, .int .i64 d] :: L))) (by kernel_rfl) (by kernel_rfl) hE1.drew (fun hT => ?_)
  have hT9 := Lib.hid hT
  clear hT
  repeat (first
    | (refine text_value (v := ?_) hT9.out (by rfl) ?_ ?_; rotate_left; (focus (intro w5 hS; have r1 := Blk.rule (HCB.out _ hS); have r2 := hS.rule 1 rfl; go_simp <;> with_reducible rfl)); (try simp only [Act.put, List.setIfInBounds_toArray, List.set_cons_zero, List.set_cons_succ]))
    | (refine text_off hT9.out (by rfl) ?_; (try simp only [Act.put, List.setIfInBounds_toArray, List.set_cons_zero, List.set_cons_succ]))
    | (refine text_call (v := ?_) (f := ?_) (args := ?_) hT9.out (by rfl) ?_ ?_ ?_; rotate_left 3; (focus (intro w5 hS; have r1 := Blk.rule (HCB.out _ hS); have r2 := hS.rule 1 rfl; go_simp; constructor <;> with_reducible rfl)); (focus (intro w5 hS; (first | fail))); (try simp only [Act.put, List.setIfInBounds_toArray, List.set_cons_zero, List.set_cons_succ])))
  refine InText.nil fun w5 hS5 => ?_
  clear hT9
  clear hE1
  have r1 := Blk.rule (HCB.out _ hS5)
  have r2 := hS5.rule 1 rfl
  have ff := hS5.thaw (m + 2) hm2
  have f7 := ff 7 (by simp [crv])
  have f8 := ff 8 (by simp [crv])
  clear ff
  go_wp2_with fail
  go_ret
  have hE9 := hS5.put (m + 2) hm2 (j := 7) (by simp [crv]) (.int .i64 a)
  have hml : m < L.length := (List.getElem?_eq_some_iff.1 hm).1
  have hE10 := hE9.put (m + 2) (by rw [List.getElem?_set_self (by simpa using hml)]) (j := 8) (by simp [crv]) (.int .i64 d)
  rw [List.set_set] at hE10
  exact ⟨rfl, hE10.sub (.cons _ (.cons _ (List.Sublist.refl _)))⟩

set_option maxHeartbeats 1600000 in
theorem takeNo_c (hh : hs = 0) (hb : Blk 0 w c (crv k s b h l e r hs hi q)) :
    Calls Tryd.prog 20 #[.pointer (some ⟨c, 0, none⟩)] w fun o w' => o = .returned (.tuple #[.agg #[.int .i64 hs, .int .i64 hi], .bool false]) ∧ Below w.heap.size w w' := by
  have hF := (Fr.start w).push w.heap.size rfl [.int .i64 0, .int .i64 0] 43
  have hb1 := hb.under hF.below
  have hn : (hs != 0) = false := by simpa using hh
  clear hb hh
  go_enter Tryd.func20, Tryd.ntmps20
  go_wp2_with fail
  refine (held_c hb1).mono ?_
  rintro o w1 ⟨rfl, hb⟩
  rw [hn]
  replace hF := hF.over hb
  clear hb hb1
  replace hF := hF.push w1.heap.size rfl [.int .i64 hs, .int .i64 hi] 43
  have hlt := hF.lt 1 rfl
  have hX := hF.blk 1 rfl (by omega)
  have hZ := hF.blk 0 rfl (by have := hF.below.size; have := hF.lt 1 rfl; simp at this; omega)
  have hE := hF.below
  clear hF
  go_upto_region 2 with fail
  generalize w1.alloc _ = w2 at *
  generalize w1.heap.size = Y at *
  have r0 := hX.rule
  have r1 := hZ.rule
  have f0 := hX.thaw 0 (by simp)
  have f1 := hX.thaw 1 (by simp)
  go_wp2_with fail
  have q := ((hX.set (i := 0) (by simp) (.int .i64 hs)).set (i := 1) (by simp) (.int .i64 hi)).rule
  exact bodyPost_ret (v := .tuple #[.agg #[.int .i64 hs, .int .i64 hi], .bool false]) (by simp [results, Tryd.results20, go_sem, q]) rfl ⟨rfl, below_set (below_set hE (by omega) (Nat.le_refl _) _) (by simp; omega) (Nat.le_refl _) _⟩

set_option maxHeartbeats 1600000 in
theorem takeYes_c (hh : hs ≠ 0) (m : Nat) (hE : Env w0 L w) (hm : L[m]? = some (coreI c k s b h l e r hs hi q)) :
    Calls Tryd.prog 20 #[.pointer (some ⟨c, 0, none⟩)] w fun o w' => o = .returned (.tuple #[.agg #[.int .i64 hs, .int .i64 hi], .bool true]) ∧ Env w0 (L.set m (coreI c k s b h l e r 0 0 q)) w' := by
  have hn : (hs != 0) = true := by simpa using hh
  have hml : m < L.length := (List.getElem?_eq_some_iff.1 hm).1
  have hE1 := hE.box w.heap.size rfl [.int .i64 0, .int .i64 0] 43
  have hm1 : (boxI w.heap.size [.int .i64 0, .int .i64 0] :: L)[m + 1]? = some (coreI c k s b h l e r hs hi q) := hm
  clear hE hh
  go_enter Tryd.func20, Tryd.ntmps20
  go_wp2_with fail
  refine (held_c (hE1.get (m + 1) hm1)).mono ?_
  rintro o w1 ⟨rfl, hb⟩
  rw [hn]
  replace hE1 := (hE1.over hb).box w1.heap.size rfl [.int .i64 hs, .int .i64 hi] 43
  clear hb
  generalize w.heap.size = X at *
  go_upto_region 2 with fail
  generalize w1.alloc _ = w2 at *
  generalize w1.heap.size = Y at *
  have hm2 : (boxI Y [.int .i64 hs, .int .i64 hi] :: boxI X [.int .i64 0, .int .i64 0] :: L)[m + 2]? = some (coreI c k s b h l e r hs hi q) := hm
  have rc := hE1.rule (m + 2) hm2
  unfold crv at rc
  have ff := hE1.thaw (m + 2) hm2
  have f7 := ff 7 (by simp [crv])
  have f8 := ff 8 (by simp [crv])
  clear ff
  go_upto_region 4 with fail
  have hE2 := hE1.put (m + 2) hm2 (j := 7) (by simp [crv]) (.int .i64 0)
  have hE3 := hE2.put (m + 2) (by rw [List.getElem?_set_self (by simpa using hml)]) (j := 8) (by simp [crv]) (.int .i64 0)
  rw [List.set_set] at hE3
  generalize World.setCell (World.setCell w2 ⟨c, 7, none⟩ _) ⟨c, 8, none⟩ _ = w3 at *
  replace hE3 : Env w0 (boxI Y [.int .i64 hs, .int .i64 hi] :: boxI X [.int .i64 0, .int .i64 0] :: L.set m (coreI c k s b h l e r 0 0 q)) w3 := hE3
  have r0 := hE3.rule 0 rfl
  have r1 := hE3.rule 1 rfl
  have ff := hE3.thaw 1 rfl
  have f0 := ff 0 (by simp)
  have f1 := ff 1 (by simp)
  clear ff
  clear rc f7 f8
  go_wp2_with fail
  have hE4 := (hE3.put 1 rfl (j := 0) (by simp) (.int .i64 hs)).put 1 rfl (j := 1) (by simp) (.int .i64 hi)
  have q := hE4.rule 1 rfl
  exact bodyPost_ret (v := .tuple #[.agg #[.int .i64 hs, .int .i64 hi], .bool true]) (by simp [results, Tryd.results20, go_sem, q]) rfl ⟨rfl, hE4.sub (.cons _ (.cons _ (List.Sublist.refl _)))⟩

set_option maxHeartbeats 1600000 in
theorem dropNo_c (hh : hs = 0) (hb : Blk 0 w c (crv k s b h l e r hs hi q)) :
    Calls Tryd.prog 19 #[.pointer (some ⟨c, 0, none⟩)] w fun o w' => o = .returned (.tuple #[]) ∧ Below w.heap.size w w' := by
  go_enter Tryd.func19, Tryd.ntmps19
  go_wp2_with fail
  refine (takeNo_c hh hb).mono ?_
  rintro o w1 ⟨rfl, hb1⟩
  clear hh hb
  go_wp2_with fail
  go_end0
  exact ⟨rfl, hb1.alloc hb1.size _⟩

set_option maxHeartbeats 1600000 in
theorem dropYes_c (hh : hs ≠ 0) (m n : Nat) (hnm : n ≠ m) (hE : Env w0 L w) (hm : L[m]? = some (coreI c k s b h l e r hs hi q)) (hn : L[n]? = some (queueI q F ql kq)) (hl : ql.length + 1 ≤ 1048576) :
    Calls Tryd.prog 19 #[.pointer (some ⟨c, 0, none⟩)] w fun o w' => o = .returned (.tuple #[]) ∧ ∃ k' F', Rm kq (ql.length + 1) k' ∧ Env w0 ((L.set m (coreI c k s b h l e r 0 0 q)).set n (queueI q F' (ql ++ [(hs, 0, hi)]) k')) w' := by
  have hml : m < L.length := (List.getElem?_eq_some_iff.1 hm).1
  have hn1 := wset (b := coreI c k s b h l e r 0 0 q) hnm.symm hn
  have hm1 : (L.set m (coreI c k s b h l e r 0 0 q))[m]? = some (coreI c k s b h l e r 0 0 q) := by rw [List.getElem?_set_self hml]
  have HT := Lib.hid (takeYes_c hh m hE hm)
  clear hh hE hm hn
  generalize L.set m (coreI c k s b h l e r 0 0 q) = M at *
  go_enter Tryd.func19, Tryd.ntmps19
  go_wp2_with fail
  refine HT.out.mono ?_
  rintro o w1 ⟨rfl, hE1⟩
  clear HT
  replace hE1 := hE1.box w1.heap.size rfl [.int .i64 hs, .int .i64 hi] 43
  go_wp2_with fail
  generalize w1.alloc _ = w2 at *
  generalize w1.heap.size = Y at *
  have hn2 : (boxI Y [.int .i64 hs, .int .i64 hi] :: M)[n + 1]? = some (queueI q F ql kq) := hn1
  have hm2 : (boxI Y [.int .i64 hs, .int .i64 hi] :: M)[m + 1]? = some (coreI c k s b h l e r 0 0 q) := hm1
  refine Ord3.wp_chain [?_, ?_, ?_, ?_, ?_, ?_, ?_, ?_, ?_, ?_, ?_] [9, 10] (fun w' => Blk 0 w' c [.int .i64 k, .int .i64 s, .int .i64 b, .int .i64 h, .int .i64 l, .int .i64 e, .int .i64 r, .int .i64 0, .int .i64 0, .pointer (some ⟨q, 0, none⟩)] ∧ Blk 0 w' Y [.int .i64 hs, .int .i64 hi]) (Ord3.Stage fun κs => [Env w0 (boxI Y [.int .i64 hs, .int .i64 hi] :: M), fun w' => ∃ z, κs.getD 0 undef = .slice (some ⟨z, 0, none⟩) 1 1 ∧ Env w0 (boxI z [.int .i64 hs, .int .i64 0, .int .i64 hi] :: boxI Y [.int .i64 hs, .int .i64 hi] :: M) w', fun w' => ∃ k', Rm kq (ql.length + 1) k' ∧ ∃ F' z, Env w0 (boxI z [.int .i64 hs, .int .i64 0, .int .i64 hi] :: boxI Y [.int .i64 hs, .int .i64 hi] :: M.set n (queueI q F' (ql ++ [(hs, 0, hi)]) k')) w']) (by kernel_rfl) (by kernel_rfl) (by kernel_rfl) ⟨hE1.drew.get (m + 1) hm2, hE1.drew.get 0 rfl⟩ ⟨_, rfl, hE1.drew⟩ (fun hT => ?_)
  rotate_left 11
  have hT9 := Lib.hid hT
  clear hT
  repeat (first
    | (focus (refine Ord3.in_value (v := ?_) hT9.out (by decide) ?_ (by rfl) ?_ ?_; rotate_left 2; (focus (intro w5 hS; have r1 := Blk.rule hS.1; have r2 := Blk.rule hS.2; go_simp <;> with_reducible rfl)); rotate_right; (focus rfl); (try simp only [Act.put, List.setIfInBounds_toArray, List.set_cons_zero, List.set_cons_succ])))
    | (focus (refine Ord3.in_off hT9.out (by decide) ?_ (by rfl) ?_; (focus rfl); (try simp only [Act.put, List.setIfInBounds_toArray, List.set_cons_zero, List.set_cons_succ]))))
  refine Ord3.in_turn (fun u => ∃ z, u = .slice (some ⟨z, 0, none⟩) 1 1) _ ⟨0, rfl⟩ hT9.out rfl (by decide) (by rfl) ?_ (Or.inl rfl) (by rfl) ?_ ?_
  · rfl
  · rintro w7 hC7 ⟨P7, hP7, hA7⟩
    cases hP7
    go_simp
    simp only [Ord3.Lands]
    have hE8 := hA7.box w7.heap.size rfl [.int .i64 hs, .int .i64 0, .int .i64 hi] 62
    exact ⟨⟨_, rfl⟩, ⟨hE8.get (m + 2) hm1, hE8.get 1 rfl⟩, _, rfl, w7.heap.size, rfl, hE8⟩
  rintro _ ⟨z9, rfl⟩
  (try simp only [Act.put, List.setIfInBounds_toArray, List.set_cons_zero, List.set_cons_succ])
  refine Ord3.in_turn (fun u => u = .int .i64 0) _ rfl hT9.out rfl (by decide) (by rfl) ?_ (Or.inr ⟨_, 9, [], rfl, by kernel_rfl, by kernel_rfl, rfl⟩) (by rfl) ?_ ?_
  · rfl
  · rintro w7 hC7 ⟨P7, hP7, hA7⟩
    cases hP7
    obtain ⟨z8, he, hA7⟩ := hA7
    cases he
    go_simp
    simp only [Ord3.Lands]
    have hA : Row3 w7 (some ⟨z9, 0, none⟩) [(hs, 0, hi)] := Blk.row3 (l := [(hs, 0, hi)]) (hA7.get 0 rfl)
    refine (push_any (l := ql) (xs := [(hs, 0, hi)]) (A := some ⟨z9, 0, none⟩) (cap := 1) (by simp; omega) hA (fun _ b hb hFb => ?_) (hA7.queue (n + 2) hn1)).mono ?_
    · obtain ⟨off, he⟩ := hb
      cases he
      exact (hA7.off (i := 0) (j := n + 2) rfl hn1 (by omega)) z9 rfl hFb
    rintro o w8 ⟨rfl, k8, F8, hrm, hQ8, hs8⟩
    have hE8 := hA7.turnQ (n + 2) hn1 hQ8 hs8
    simp only [List.set_cons_succ, List.set_cons_zero] at hE8
    have hm8 := wset (b := queueI q F8 (ql ++ [(hs, 0, hi)]) k8) hnm hm1
    exact ⟨_, rfl, rfl, ⟨hE8.get (m + 2) hm8, hE8.get 1 rfl⟩, _, rfl, k8, by simpa using hrm, F8, z9, hE8⟩
  rintro _ rfl
  (try simp only [Act.put, List.setIfInBounds_toArray, List.set_cons_zero, List.set_cons_succ])
  refine Ord3.in_nil rfl ?_
  rintro w9 hC9 ⟨P9, hP9, hA9⟩
  cases hP9
  obtain ⟨k8, hrm, F8, z8, hA9⟩ := hA9
  clear hT9 hC9
  go_wp2_with fail
  go_end0
  exact ⟨rfl, k8, F8, hrm, hA9.sub (.cons _ (.cons _ (List.Sublist.refl _)))⟩
theorem takeNil_c (w : World) : Calls Tryd.prog 20 #[.pointer none] w fun o w' => o = .returned (.tuple #[.agg #[.int .i64 0, .int .i64 0], .bool false]) ∧ Below w.heap.size w w' := by
  have hF := (Fr.start w).push w.heap.size rfl [.int .i64 0, .int .i64 0] 43
  go_enter Tryd.func20, Tryd.ntmps20
  go_wp2_with fail
  refine (heldNil_c _).mono ?_
  rintro o w1 ⟨rfl, hb⟩
  replace hF := hF.over hb
  clear hb
  replace hF := hF.push w1.heap.size rfl [.int .i64 0, .int .i64 0] 43
  have hlt := hF.lt 1 rfl
  have hX := hF.blk 1 rfl (by omega)
  have hZ := hF.blk 0 rfl (by have := hF.below.size; have := hF.lt 1 rfl; simp at this; omega)
  have hE := hF.below
  clear hF
  go_upto_region 2 with fail
  generalize w1.alloc _ = w2 at *
  generalize w1.heap.size = Y at *
  have r0 := hX.rule
  have r1 := hZ.rule
  have f0 := hX.thaw 0 (by simp)
  have f1 := hX.thaw 1 (by simp)
  go_wp2_with fail
  have q := ((hX.set (i := 0) (by simp) (.int .i64 0)).set (i := 1) (by simp) (.int .i64 0)).rule
  exact bodyPost_ret (v := .tuple #[.agg #[.int .i64 0, .int .i64 0], .bool false]) (by simp [results, Tryd.results20, go_sem, q]) rfl ⟨rfl, below_set (below_set hE (by omega) (Nat.le_refl _) _) (by simp; omega) (Nat.le_refl _) _⟩
theorem dropNil_c (w : World) : Calls Tryd.prog 19 #[.pointer none] w fun o w' => o = .returned (.tuple #[]) ∧ Below w.heap.size w w' := by
  go_enter Tryd.func19, Tryd.ntmps19
  go_wp2_with fail
  refine (takeNil_c _).mono ?_
  rintro o w1 ⟨rfl, hb1⟩
  go_wp2_with fail
  go_end0
  exact ⟨rfl, hb1.alloc hb1.size _⟩
end
end Go.Proofs.YtlhhnaccigamjaaDoor

/- Threads: the program is awake. -/
namespace Go.Proofs.YtlhhnaccigamjaaDoor
open Go.RowKit Go.Maps
set_option maxRecDepth 100000

theorem list_c (s : Int) (w : World) : Calls Tryd.prog 29 #[.int .i64 s] w fun o w' => o = .returned (.agg #[.int .i64 1, .int .i64 s, .int .i64 0, .int .i64 1, .int .i64 100]) ∧ Below w.heap.size w w' := by
  go_enter Tryd.func29, Tryd.ntmps29
  go_wp2
  exact bodyPost_ret (v := .agg #[.int .i64 1, .int .i64 s, .int .i64 0, .int .i64 1, .int .i64 100]) (by simp [results, Tryd.results29, go_sem]) rfl ⟨rfl, (Below.refl _ _).alloc (Nat.le_refl _) _⟩

set_option maxHeartbeats 3200000 in
theorem awake13 (w : World) (hg : Glo w) : Calls Tryd.prog 7 #[] w fun o w' => o = .returned (.bool true) ∧ Below w.heap.size w w' := by
  have hE := Env.start w
  have hx1 : Wf (1, 0, 0) := by unfold Wf In64; simp
  have HX1 := Lib.hid hx1
  have hM : ∀ k : Nat, k ≤ 100 → k < maxLen := fun k hk => by unfold maxLen; omega
  have HM := Lib.hid hM
  have HC4 := Lib.hid (show chkI 1 4 0 1 100 = 0 by decide)
  have HC0 := Lib.hid (show chkI 0 0 0 0 0 ≠ 0 by decide)
  have HG := Lib.hid hg
  clear hM hx1 hg
  go_enter Tryd.func7, Tryd.ntmps7
  go_wp2_with fail
  refine (list_c 4 _).mono ?_
  rintro o w1 ⟨rfl, hb⟩
  replace hE := hE.over hb
  clear hb
  go_wp2_with fail
  refine (newYes_c 1 4 0 1 100 HC4.out hE).mono ?_
  rintro o w2 ⟨c, q, F, rfl, hE2⟩
  clear hE
  go_wp2_with fail
  refine (new_w hE2).mono ?_
  rintro o w3 ⟨p, cc, rfl, hE, hb⟩
  clear hb hE2
  go_wp2_with fail
  refine (start_w 0 1 (by decide) (HM.out _ (by omega)) hE rfl rfl).mono ?_
  rintro o w4 ⟨rfl, F4, hE⟩
  simp only [List.set_cons_succ, List.set_cons_zero] at hE
  go_wp2_with fail
  refine (check_w 1 (upd_same _ _ _) 2 0 1 (by decide) (by decide) hE rfl rfl rfl).mono ?_
  rintro o w5 ⟨rfl, hE⟩
  simp only [List.set_cons_succ, List.set_cons_zero] at hE
  go_wp2_with fail
  refine (valid_w 1 (upd_same _ _ _) 2 0 1 (by decide) (by decide) hE rfl rfl rfl).mono ?_
  rintro o w6 ⟨rfl, hE⟩
  simp only [List.set_cons_succ, List.set_cons_zero] at hE
  rw [show okB 1 (epI 1) = true by decide] at hE ⊢
  simp only [if_true] at hE
  go_wp2_with fail
  refine (epoch_any _).mono ?_
  rintro o w7 ⟨rfl, hb⟩
  replace hE := hE.over hb
  clear hb
  go_wp2_with fail
  refine (add_w 1 0 0 0 1 HX1.out (HM.out _ (by omega)) 0 1 (by decide) hE rfl rfl).mono ?_
  rintro o w8 ⟨rfl, F8, hE⟩
  simp only [List.set_cons_succ, List.set_cons_zero] at hE
  go_wp2_with fail
  refine (valid_w 2 (by rw [upd_same, upd_same]; decide) 2 0 1 (by decide) (by decide) hE rfl rfl rfl).mono ?_
  rintro o w9 ⟨rfl, hE⟩
  simp only [List.set_cons_succ, List.set_cons_zero] at hE
  rw [show okB 2 (epI 1) = false by decide, show epI 1 = 1 by decide] at hE
  rw [show okB 2 (epI 1) = false by decide]
  simp only [Bool.false_eq_true, if_false] at hE
  rw [show wrap64 (0 + 1) = 1 from w64 _ (by decide)] at hE
  go_wp2_with fail
  refine (holdYes_c 3 7 rfl (by decide) 2 hE rfl).mono ?_
  rintro o w10 ⟨rfl, hE⟩
  simp only [List.set_cons_succ, List.set_cons_zero] at hE
  go_wp2_with fail
  refine (holdState_c 1 0 (by decide) (hE.get 2 rfl)).mono ?_
  rintro o w11 ⟨rfl, hb⟩
  replace hE := hE.over hb
  clear hb
  go_wp2_with fail
  refine (dropYes_c (by decide) 2 3 (by decide) hE rfl rfl (by decide)).mono ?_
  rintro o w12 ⟨rfl, k12, F12, hrm, hE⟩
  simp only [List.set_cons_succ, List.set_cons_zero] at hE
  go_wp2_with fail
  refine (queue_c (hE.get 2 rfl)).mono ?_
  rintro o w13 ⟨rfl, rfl⟩
  go_wp2_with fail
  refine (head_any 3 0 7 (hE.queue 3 rfl)).mono ?_
  rintro o w14 ⟨rfl, hb⟩
  replace hE := (hE.over hb).box w14.heap.size rfl [.int .i64 3, .int .i64 0, .int .i64 7] 62
  clear hb hrm
  simp only [tv]
  have r0 := hE.rule 0 rfl
  go_wp2_with fail
  refine (newNo_c 0 0 0 0 0 HC0.out _).mono ?_
  rintro o w15 ⟨rfl, hb⟩
  replace hE := hE.over hb
  clear hb r0
  generalize w14.heap.size = Y at *
  have r0 := hE.rule 0 rfl
  go_wp2_with fail
  refine (epoch_c (hE.get 3 rfl)).mono ?_
  rintro o w16 ⟨rfl, rfl⟩
  go_wp2_with fail
  refine (rolls_c (hE.get 3 rfl)).mono ?_
  rintro o w17 ⟨rfl, rfl⟩
  go_wp2_with fail
  refine (to_c 2 5 (HG.out.keep' hE.below) (hE.get 3 rfl)).mono ?_
  rintro o w18 ⟨rfl, hb⟩
  replace hE := hE.over hb
  clear hb r0
  go_wp2_with fail
  refine (to_any 2 1 _ (HG.out.keep' hE.below)).mono ?_
  rintro o w19 ⟨rfl, hb⟩
  replace hE := hE.over hb
  clear hb
  generalize wordI false 2 1 = W9 at *
  go_wp2_with fail
  go_ret
  exact ⟨ret_bool (by simp), hE.below⟩
end Go.Proofs.YtlhhnaccigamjaaDoor

/- Rows of the call's own: of whole numbers. -/
namespace Go.Proofs.YtlhhnaccigamjaaDoor
open Go.RowKit
set_option maxRecDepth 100000

/-- Whole numbers in a row. -/
def ints (zs : List Int) : List Value := zs.map (Value.int .i64)
theorem ints_length (zs : List Int) : (ints zs).length = zs.length * 1 := by simp [ints]
theorem ints_append (a b : List Int) : ints (a ++ b) = ints a ++ ints b := by simp [ints]
def intsI (v : Value) (zs : List Int) : Item := rowI v 3 1 zs.length (ints zs)
theorem infoInt : (Tryd.prog.info? 3).map (fun i => (i.zero, i.size, i.bytes)) = some (some (.int .i64 0), 1, 8) := by kernel_rfl
/-- What the cells of such a row hold. -/
def Cells1 (w : World) (A : Option Addr) (zs : List Int) : Prop := zs = [] ∨ ∃ g, A = some ⟨g, 0, none⟩ ∧ g < w.heap.size ∧ ∀ i, i < zs.length → w.cell? ⟨g, i, none⟩ = some (.int .i64 (zs.getD i 0))
theorem cells1 {w : World} {b : Nat} {A : Option Addr} {cap : Nat} {zs : List Int} (h : w.ownsRow b 3 1 (.slice A zs.length cap) zs.length (ints zs)) : Cells1 w A zs := by
  rcases h.2 with ⟨_, h0⟩ | ⟨g, cap', cur, hv, _, hg, hn, hc, hcs, htk⟩
  · exact .inl (List.eq_nil_of_length_eq_zero h0)
  · simp only [Value.slice.injEq] at hv
    obtain ⟨rfl, -, rfl⟩ := hv
    refine .inr ⟨g, rfl, (Array.getElem?_eq_some_iff.1 hg).1, fun j hj => ?_⟩
    have h1 : (ints zs)[j]? = some (.int .i64 (zs.getD j 0)) := by simp [ints, hj]
    rw [← h1, ← htk, List.getElem?_take_of_lt (by omega)]
    simp [World.cell?, hg]
theorem Cells1.over {w w' : World} {A : Option Addr} {zs : List Int} (h : Cells1 w A zs) (hk : ∀ k, (Value.slice A zs.length 0).ownBlock = some k → w'.heap[k]? = w.heap[k]?) (hs : w.heap.size ≤ w'.heap.size) : Cells1 w' A zs := by
  rcases h with h | ⟨g, rfl, hg, hc⟩
  · exact .inl h
  · exact .inr ⟨g, rfl, Nat.lt_of_lt_of_le hg hs, fun i hi => by rw [World.cell?_of_block (w := w) (hk g rfl)]; exact hc i hi⟩

section
variable {w0 w w' : World} {L : List Item}
theorem Env.row (h : Env w0 L w) (i : Nat) {v : Value} {zs : List Int} (hi : L[i]? = some (intsI v zs)) : w.ownsRow 0 3 1 v zs.length (ints zs) := h.get i hi
theorem Env.rowCells (h : Env w0 L w) (i : Nat) {A : Option Addr} {n cap : Nat} {zs : List Int} (hn : n = zs.length) (hi : L[i]? = some (intsI (.slice A n cap) zs)) : Cells1 w A zs := by subst hn; exact cells1 (h.row i hi)
/-- A row that has come into being. -/
theorem Env.addRow (h : Env w0 L w) {v : Value} {zs : List Int} (ho : w'.ownsRow w.heap.size 3 1 v zs.length (ints zs)) (hb : Below w.heap.size w w') : Env w0 (intsI v zs :: L) w' :=
  h.add (intsI v zs) hb (ownsRow_base ho (Nat.zero_le _)) fun k hk => ho.lt k hk
theorem Env.addNone (h : Env w0 L w) : Env w0 (intsI (.slice none 0 0) [] :: L) w :=
  h.add (intsI (.slice none 0 0) []) (Below.refl _ _) (World.ownsRow_nil _ _ _ _) fun k hk => by cases hk
/-- An empty row that has been made. -/
theorem Env.addEmpty (h : Env w0 L w) (n : Nat) (hn : w.heap.size = n) : Env w0 (intsI (.slice (some ⟨n, 0, none⟩) 0 0) [] :: L) (w.alloc (.cells #[] 3)) := by
  subst hn
  exact h.addRow (v := .slice (some ⟨w.heap.size, 0, none⟩) 0 0) (zs := []) ⟨rfl, .inr ⟨w.heap.size, 0, #[], rfl, Nat.le_refl _, heap_alloc_new w _, Nat.le_refl _, Nat.zero_le _, rfl, rfl⟩⟩ ((Below.refl _ _).alloc (Nat.le_refl _) _)
/-- One number appended to a row. -/
theorem Env.append1 (h : Env w0 L w) (i : Nat) {v : Value} {zs : List Int} (hi : L[i]? = some (intsI v zs)) (x : Int) (hz : zs.length ≤ 1000000) (n : Nat) (hn : w.heap.size = n) :
    ∃ g cap w', (Builtin.append_ #[76, 76] 76 #[v, .slice (some ⟨n, 0, none⟩) 1 1]).run Tryd.prog (w.alloc (.cells #[.int .i64 x] 3)) = .ok (.slice (some ⟨g, 0, none⟩) (zs.length + 1) cap) w' ∧
      Env w0 (L.set i (intsI (.slice (some ⟨g, 0, none⟩) (zs.length + 1) cap) (zs ++ [x]))) w' ∧ Step (fun k => v.ownBlock = some k) (fun k => k = g) w w' := by
  subst hn
  obtain ⟨i0, hi0, hz0, hz1, hz2⟩ := info_parts infoInt
  have hown := h.row i hi
  obtain ⟨g, cap, w', hrun, ho, hgr, hg, hgl⟩ := run_append_lies (P := Tryd.prog) (w.alloc (.cells #[.int .i64 x] 3)) 76 76 0 3 i0 (.int .i64 0) 1 8 Tryd.underlying76 hi0 hz0 hz1 hz2 rfl (by decide) v zs.length (ints zs) (hown.alloc _)
    ⟨w.heap.size, 0, none⟩ 1 1 [.int .i64 x] rfl (cells_new _ _ _) (by simp [Value.oneCell']) (by omega) (by simp [maxLen]; omega) (by omega) (by simp) _ rfl
  have hst : Step (fun k => v.ownBlock = some k) (fun k => k = g) w w' := ⟨((Turn.refl _ w).alloc _).grown hgr fun k _ e => e, fun k hk => by
    subst hk
    rcases hg with e | e
    · exact .inl e
    · right; rw [e]; simp⟩
  refine ⟨g, cap, w', hrun, ?_, hst⟩
  refine h.step i (intsI (.slice (some ⟨g, 0, none⟩) (zs.length + 1) cap) (zs ++ [x])) hi ⟨hst.turn, fun k hk => hst.from' k (by cases hk; rfl)⟩ ?_ fun k hk => by cases hk; exact hgl
  have e1 : (zs ++ [x]).length = zs.length + 1 := by simp
  show w'.ownsRow 0 3 1 _ (zs ++ [x]).length (ints (zs ++ [x]))
  rw [e1, ints_append]
  exact ho
end
end Go.Proofs.YtlhhnaccigamjaaDoor

/- Rows of the call's own, of pointers to threads. -/
namespace Go.Proofs.YtlhhnaccigamjaaDoor
open Go.RowKit Go.Maps
set_option maxRecDepth 100000

def ptrs (cs : List Nat) : List Value := cs.map fun c => .pointer (some ⟨c, 0, none⟩)
theorem ptrs_append (a b : List Nat) : ptrs (a ++ b) = ptrs a ++ ptrs b := by simp [ptrs]
def ptrsI (v : Value) (cs : List Nat) : Item := rowI v 26 1 cs.length (ptrs cs)
theorem infoPtr : (Tryd.prog.info? 26).map (fun i => (i.zero, i.size, i.bytes)) = some (some (.pointer none), 1, 8) := by kernel_rfl
section
variable {w0 w w' : World} {L : List Item}
theorem Env.ptrRow (h : Env w0 L w) (i : Nat) {v : Value} {cs : List Nat} (hi : L[i]? = some (ptrsI v cs)) : w.ownsRow 0 26 1 v cs.length (ptrs cs) := h.get i hi
theorem Env.ptrAt (h : Env w0 L w) (i : Nat) {g n cap : Nat} {cs : List Nat} (hi : L[i]? = some (ptrsI (.slice (some ⟨g, 0, none⟩) n cap) cs)) (j : Nat) (hj : j < cs.length) : w.cell? ⟨g, j, none⟩ = some (.pointer (some ⟨cs.getD j 0, 0, none⟩)) := by
  have ho := h.ptrRow i hi
  rcases ho.2 with ⟨_, h0⟩ | ⟨g', cap', cur, hv, _, hg, hn, hc, hcs, htk⟩
  · omega
  · simp only [Value.slice.injEq, Option.some.injEq, Addr.mk.injEq] at hv
    obtain ⟨⟨rfl, -⟩, -, rfl⟩ := hv
    have h1 : (ptrs cs)[j]? = some (.pointer (some ⟨cs.getD j 0, 0, none⟩)) := by simp [ptrs, hj]
    rw [← h1, ← htk, List.getElem?_take_of_lt (by omega)]
    simp [World.cell?, hg]
theorem Env.ptrEmpty (h : Env w0 L w) (n : Nat) (hn : w.heap.size = n) : Env w0 (ptrsI (.slice (some ⟨n, 0, none⟩) 0 0) [] :: L) (w.alloc (.cells #[] 26)) := by
  subst hn
  have ho : (w.alloc (.cells #[] 26)).ownsRow w.heap.size 26 1 (.slice (some ⟨w.heap.size, 0, none⟩) 0 0) 0 [] := ⟨rfl, .inr ⟨w.heap.size, 0, #[], rfl, Nat.le_refl _, heap_alloc_new w _, Nat.le_refl _, Nat.zero_le _, rfl, rfl⟩⟩
  exact h.add (ptrsI (.slice (some ⟨w.heap.size, 0, none⟩) 0 0) []) ((Below.refl _ _).alloc (Nat.le_refl _) _) (ownsRow_base ho (Nat.zero_le _)) fun k hk => ho.lt k hk
/-- One pointer appended to a row. -/
theorem Env.appendP (h : Env w0 L w) (i : Nat) {v : Value} {cs : List Nat} (hi : L[i]? = some (ptrsI v cs)) (c : Nat) (hz : cs.length ≤ 1000000) (n : Nat) (hn : w.heap.size = n) :
    ∃ g cap w', (Builtin.append_ #[77, 77] 77 #[v, .slice (some ⟨n, 0, none⟩) 1 1]).run Tryd.prog (w.alloc (.cells #[.pointer (some ⟨c, 0, none⟩)] 26)) = .ok (.slice (some ⟨g, 0, none⟩) (cs.length + 1) cap) w' ∧
      Env w0 (L.set i (ptrsI (.slice (some ⟨g, 0, none⟩) (cs.length + 1) cap) (cs ++ [c]))) w' := by
  subst hn
  obtain ⟨i0, hi0, hz0, hz1, hz2⟩ := info_parts infoPtr
  have hown := h.ptrRow i hi
  obtain ⟨g, cap, w', hrun, ho, hgr, hg, hgl⟩ := run_append_lies (P := Tryd.prog) (w.alloc (.cells #[.pointer (some ⟨c, 0, none⟩)] 26)) 77 77 0 26 i0 (.pointer none) 1 8 Tryd.underlying77 hi0 hz0 hz1 hz2 rfl (by decide) v cs.length (ptrs cs) (hown.alloc _)
    ⟨w.heap.size, 0, none⟩ 1 1 [.pointer (some ⟨c, 0, none⟩)] rfl (cells_new _ _ _) (by simp [Value.oneCell']) (by omega) (by simp [maxLen]; omega) (by omega) (by simp) _ rfl
  have hst : Step (fun k => v.ownBlock = some k) (fun k => k = g) w w' := ⟨((Turn.refl _ w).alloc _).grown hgr fun k _ e => e, fun k hk => by
    subst hk
    rcases hg with e | e
    · exact .inl e
    · right; rw [e]; simp⟩
  refine ⟨g, cap, w', hrun, ?_⟩
  refine h.step i (ptrsI (.slice (some ⟨g, 0, none⟩) (cs.length + 1) cap) (cs ++ [c])) hi ⟨hst.turn, fun k hk => hst.from' k (by cases hk; rfl)⟩ ?_ fun k hk => by cases hk; exact hgl
  have e1 : (cs ++ [c]).length = cs.length + 1 := by simp
  show w'.ownsRow 0 26 1 _ (cs ++ [c]).length (ptrs (cs ++ [c]))
  rw [e1, ptrs_append]
  exact ho
/-- What stands first goes to the end. -/
theorem Env.last {a : Item} (h : Env w0 (a :: L) w) : Env w0 (L ++ [a]) w := h.perm (by simpa using (List.perm_append_comm (l₁ := [a]) (l₂ := L)))
end
end Go.Proofs.YtlhhnaccigamjaaDoor

/- What the condition on the package's variables gives: the three fields stand in them; and that the program's own start meets it. -/
namespace Go.Proofs.YtlhhnaccigamjaaDoor
open Go.ChangeShapes Go.WideShapes Go.ChangeAt Go.RowKit
set_option maxRecDepth 100000

section
variable {P : Program} {w : World}
theorem cell_lt {b o : Nat} {v : Value} (h : w.cell? ⟨b, o, none⟩ = some v) : b < w.heap.size := by
  rcases Nat.lt_or_ge b w.heap.size with h' | h'
  · exact h'
  · simp [World.cell?, Array.getElem?_eq_none h'] at h
/-- The head of a list of laid variables: a struct of two ints. -/
theorem laid_pair {n : String} {g : Nat} {t k : TypeId} {f0 f1 : Field} {a b : Int} {r : List (String × DataW Unit)} {ps : List MemPlace}
    (h : DataW.LaidVars P w ((n, .agg [.lit (.int .i64 a), .lit (.int .i64 b)]) :: r) ps) (hg : P.globalNamed n = some g) (ht : (P.globals[g]?).map (·.type) = some t)
    (hs : P.underlying t = some (.struct #[f0, f1])) (hc : P.cellsOf t = 2) (h0 : f0.offset = 0) (h1 : f1.offset = 1) (hk0 : f0.type = k) (hk1 : f1.type = k) (hk : P.cellsOf k = 1) (hi : P.underlying k = some (.int .i64)) :
    w.cell? ⟨g, 0, none⟩ = some (.int .i64 a) ∧ w.cell? ⟨g, 1, none⟩ = some (.int .i64 b) ∧ ∃ q, DataW.LaidVars P w r q := by
  obtain ⟨g', t', cs, fuel, p, q, hg', ht', hv, hd, hr, -⟩ := h
  obtain rfl := Option.some.inj (hg.symm.trans hg')
  obtain rfl := Option.some.inj (ht.symm.trans ht')
  obtain ⟨xs, m, -, hx, hl, hn, hel⟩ := DataW.trod_struct hs hd
  have e0 := hel 0 f0 rfl
  have e1 := hel 1 f1 rfl
  rw [h0, hk0, hk] at e0
  rw [h1, hk1, hk] at e1
  obtain ⟨l⟩ := cs
  rw [hc] at hl
  match l, hl, xs, hn, hx, e0, e1, hv with
  | [c0, c1], _, [x0, x1], _, hx, e0, e1, hv =>
    simp only [Prod.mk.injEq, List.map_cons, List.map_nil, DataW.agg.injEq, List.cons.injEq] at hx
    obtain ⟨n0, s0, y0, -⟩ := DataW.trod_int hi (show DataW.trod _ P w 0 _ false m k [c0] = some x0 from e0)
    obtain ⟨n1, s1, y1, -⟩ := DataW.trod_int hi (show DataW.trod _ P w 0 _ false m k [c1] = some x1 from e1)
    simp at s0 s1
    subst s0 s1
    have k0 := hx.1.1
    have k1 := hx.1.2.1
    rw [y0] at k0
    rw [y1] at k1
    simp at k0 k1
    subst k0 k1
    exact ⟨by rw [World.var?_cell hg hv 0]; rfl, by rw [World.var?_cell hg hv 1]; rfl, q, hr⟩
end

def laid3 : List (String × DataW Unit) := [("revenant/link.versionPart", Rows.laid_revenant_link_versionPart), ("revenant/link.slotPart", Rows.laid_revenant_link_slotPart), ("revenant/link.markPart", Rows.laid_revenant_link_markPart)]

/-- What the condition gives the walks. -/
theorem glo_of_laid {W : World} (h : laidMetH Tryd.prog laid3 W) : Glo W := by
  rw [MakeChecks.laidMetH_plain _ _ _ (by kernel_rfl)] at h
  obtain ⟨ps, h, -, -⟩ := h
  obtain ⟨a0, a1, q1, h⟩ := laid_pair (g := 1) (t := 121) (k := 3) h (by kernel_rfl) (by kernel_rfl) Tryd.underlying121 (by kernel_rfl) rfl rfl rfl rfl (by kernel_rfl) Tryd.underlying3
  obtain ⟨b0, b1, q2, h⟩ := laid_pair (g := 2) (t := 121) (k := 3) h (by kernel_rfl) (by kernel_rfl) Tryd.underlying121 (by kernel_rfl) rfl rfl rfl rfl (by kernel_rfl) Tryd.underlying3
  obtain ⟨c0, c1, q3, h⟩ := laid_pair (g := 0) (t := 121) (k := 3) h (by kernel_rfl) (by kernel_rfl) Tryd.underlying121 (by kernel_rfl) rfl rfl rfl rfl (by kernel_rfl) Tryd.underlying3
  exact ⟨⟨a0, a1⟩, ⟨b0, b1⟩, ⟨c0, c1⟩, cell_lt a0, cell_lt b0, cell_lt c0⟩

/-- The program's own start meets the condition. -/
theorem door_met (os : Os) (args : Array Value) : laidMetH Tryd.prog laid3 ((World.doorLaid Tryd.prog 24 os).forCall (fun _ _ => 0) ⟨#[], args, []⟩).memory :=
  laidMetH_of_parts3 (fuel := 8) (laidMet_of_run' 8 (by kernel_rfl) (by kernel_rfl)) (by kernel_rfl) (by kernel_rfl)
end Go.Proofs.YtlhhnaccigamjaaDoor

/- Slices that come in, opened once: of numbers; of structs of two numbers. -/
namespace Go.Proofs.YtlhhnaccigamjaaDoor
open Go.RowKit Go.WideShapes Go.ChangeShapes Go.ChangeAt Go.Deep
set_option maxRecDepth 100000

section
variable {H : Type} {enc : TypeId × Value → H} {P : Program} {W : World}

theorem open_num_row {t e : TypeId} {k : IntKind} {A : Option Addr} {len cap : Nat} {d : DataW H} {p : List MemPlace} (ht : P.underlying t = some (.slice e)) (he : P.underlying e = some (.int k)) (hc : P.cellsOf e = 1)
    (h : DataW.Trod enc P W 0 (fun _ => true) true t (.slice A len cap) d p) (hlt : ∀ x ∈ p, x.block < W.heap.size) :
    ∃ zs : List Int, zs.length = len ∧ len ≤ maxLen ∧ (∀ n ∈ zs, (Lit.int k n).wf = true) ∧ (zs = [] ∨ ∃ b off, A = some ⟨b, off, none⟩ ∧ b < W.heap.size ∧ ∀ i, i < zs.length → W.cell? ⟨b, off + i, none⟩ = some (.int k (zs.getD i 0))) := by
  obtain ⟨fuel, hf⟩ := h
  rcases open_ints ht he hc hf with ⟨hcs, hx⟩ | ⟨a, len', cap', zs, hcs, _, hl, hm, hz, hx, hcell, hwz⟩
  · simp [Value.cells] at hcs
    obtain ⟨rfl, rfl, rfl⟩ := hcs
    exact ⟨[], rfl, Nat.zero_le _, by simp, Or.inl rfl⟩
  · simp [Value.cells] at hcs
    obtain ⟨rfl, rfl, rfl⟩ := hcs
    simp only [Prod.mk.injEq] at hx
    obtain ⟨rfl, rfl⟩ := hx
    simp only [if_true] at hz
    refine ⟨zs.take len, by simp; omega, by omega, fun n hn => hwz n (List.mem_of_mem_take hn), ?_⟩
    by_cases h0 : len = 0
    · left; subst h0; simp
    · right
      obtain ⟨b, off, spot⟩ := a
      have hspot : spot = none := by simpa [Addr.add] using World.cell?_spot (hcell 0 (by omega))
      subst hspot
      refine ⟨b, off, rfl, hlt (.cell b off) (MemPlace.mem_row.2 ⟨0, by omega, by simp⟩), fun i hi => ?_⟩
      have hi' : i < len := by simp at hi; omega
      have := hcell i (by omega)
      rw [add_plain] at this
      rw [this]
      simp [hi']

def numOf' : Value → Int | .int _ n => n | _ => 0

theorem open_pair_row {t e : TypeId} {k : IntKind} {f0 f1 : Field} {A : Option Addr} {len cap : Nat} {d : DataW H} {p : List MemPlace} (ht : P.underlying t = some (.slice e)) (he : P.underlying e = some (.struct #[f0, f1]))
    (ce : P.cellsOf e = 2) (o0 : f0.offset = 0) (o1 : f1.offset = 1) (c0 : P.cellsOf f0.type = 1) (c1 : P.cellsOf f1.type = 1) (u0 : P.underlying f0.type = some (.int k)) (u1 : P.underlying f1.type = some (.int k))
    (h : DataW.Trod enc P W 0 (fun _ => true) true t (.slice A len cap) d p) (hlt : ∀ x ∈ p, x.block < W.heap.size) :
    ∃ fs : List (Int × Int), fs.length = len ∧ len ≤ maxLen ∧ (∀ q ∈ fs, (Lit.int k q.1).wf = true ∧ (Lit.int k q.2).wf = true) ∧
      (fs = [] ∨ ∃ b off, A = some ⟨b, off, none⟩ ∧ b < W.heap.size ∧ ∀ i, i < fs.length → W.cell? ⟨b, off + i * 2, none⟩ = some (.int k (fs.getD i (0, 0)).1) ∧ W.cell? ⟨b, off + i * 2 + 1, none⟩ = some (.int k (fs.getD i (0, 0)).2)) := by
  obtain ⟨fuel, hf⟩ := h
  rcases open_slice_pairs ht he ce o0 o1 c0 c1 hf with ⟨hcs, hx⟩ | ⟨a, len', cap', m, n, V0, V1, D0, D1, P0, P1, hcs, _, hl, hm, hmm, hx, hall⟩
  · simp [Value.cells] at hcs
    obtain ⟨rfl, rfl, rfl⟩ := hcs
    exact ⟨[], rfl, Nat.zero_le _, by simp, Or.inl rfl⟩
  · simp [Value.cells] at hcs
    obtain ⟨rfl, rfl, rfl⟩ := hcs
    simp only [Prod.mk.injEq] at hx
    obtain ⟨rfl, rfl⟩ := hx
    simp only [if_true] at hmm
    subst hmm
    have each : ∀ i, i < m → (∃ x, V0 i = .int k x ∧ (Lit.int k x).wf = true) ∧ ∃ x, V1 i = .int k x ∧ (Lit.int k x).wf = true := fun i hi => by
      obtain ⟨_, _, h3, h4⟩ := hall i hi
      obtain ⟨x, e0, _, w0⟩ := DataW.trod_int u0 h3
      obtain ⟨y, e1, _, w1⟩ := DataW.trod_int u1 h4
      simp at e0 e1
      exact ⟨⟨x, e0, w0⟩, ⟨y, e1, w1⟩⟩
    refine ⟨(List.range len).map fun i => (numOf' (V0 i), numOf' (V1 i)), by simp, by omega, ?_, ?_⟩
    · intro q hq
      obtain ⟨i, hi, rfl⟩ := List.mem_map.1 hq
      have hi' := List.mem_range.1 hi
      obtain ⟨⟨x, e0, w0⟩, ⟨y, e1, w1⟩⟩ := each i (by omega)
      rw [e0, e1]
      exact ⟨w0, w1⟩
    · by_cases h0 : len = 0
      · left; subst h0; simp
      · right
        obtain ⟨b, off, spot⟩ := a
        have hspot : spot = none := by simpa [Addr.add] using World.cell?_spot (hall 0 (by omega)).1
        subst hspot
        refine ⟨b, off, rfl, hlt (.cell b off) (List.mem_append_left _ (MemPlace.mem_row.2 ⟨0, by omega, by simp⟩)), fun i hi => ?_⟩
        have hi' : i < len := by simpa using hi
        obtain ⟨h1, h2, _, _⟩ := hall i (by omega)
        obtain ⟨⟨x, e0, _⟩, ⟨y, e1, _⟩⟩ := each i (by omega)
        rw [add_plain] at h1 h2
        rw [Nat.add_assoc, h1, h2, e0, e1]
        simp [hi', e0, e1, numOf']
end
end Go.Proofs.YtlhhnaccigamjaaDoor
