/- Contracts of the functions of layer 2. -/
import Derived.Test.YtbkdacbpapedgaaDoorFld
import Derived.Test.YtbkdacbpapedgaaDoorLinkM
namespace Go.Proofs.YtbkdacbpapedgaaDoor
open Go.RowKit

/-- The three fields stand in their variables. -/
def Glo (w : World) : Prop :=
  (w.cell? ⟨0, 0, none⟩ = some (.int .i64 0) ∧ w.cell? ⟨0, 1, none⟩ = some (.int .i64 40)) ∧
  (w.cell? ⟨1, 0, none⟩ = some (.int .i64 40) ∧ w.cell? ⟨1, 1, none⟩ = some (.int .i64 23)) ∧
  (w.cell? ⟨2, 0, none⟩ = some (.int .i64 63) ∧ w.cell? ⟨2, 1, none⟩ = some (.int .i64 1)) ∧
  0 < w.heap.size ∧ 1 < w.heap.size ∧ 2 < w.heap.size
theorem Glo.keep {n : Nat} {w w' : World} (h : Glo w) (hb : Below n w w') (hn : w.heap.size ≤ n) : Glo w' := by
  obtain ⟨⟨a0, a1⟩, ⟨b0, b1⟩, ⟨c0, c1⟩, h1, h2, h3⟩ := h
  have := hb.size
  refine ⟨⟨?_, ?_⟩, ⟨?_, ?_⟩, ⟨?_, ?_⟩, by omega, by omega, by omega⟩
  · rw [hb.cell (p := ⟨_, 0, none⟩) (by simp; omega)]; exact a0
  · rw [hb.cell (p := ⟨_, 1, none⟩) (by simp; omega)]; exact a1
  · rw [hb.cell (p := ⟨_, 0, none⟩) (by simp; omega)]; exact b0
  · rw [hb.cell (p := ⟨_, 1, none⟩) (by simp; omega)]; exact b1
  · rw [hb.cell (p := ⟨_, 0, none⟩) (by simp; omega)]; exact c0
  · rw [hb.cell (p := ⟨_, 1, none⟩) (by simp; omega)]; exact c1
theorem Glo.keep' {w1 w2 : World} (h : Glo w1) (hb : Below w1.heap.size w1 w2) : Glo w2 := h.keep hb (Nat.le_refl _)
theorem Glo.alloc {w : World} (h : Glo w) (o : Obj) : Glo (w.alloc o) := h.keep ((Below.refl _ _).alloc (Nat.le_refl _) _) (Nat.le_refl _)

set_option maxHeartbeats 400000 in
theorem isSlot_any (s : Int) (w : World) : Calls Tryd.prog 22 #[.int .i64 s] w fun e w' => e = .returned (.bool (isS s)) ∧ w = w' := by
  by_cases h1 : 0 ≤ s
  · go_enter Tryd.func22, Tryd.ntmps22
    go_wp2
    go_ret
    exact ⟨ret_bool (by simp [isS, h1]), rfl⟩
  · have hd : decide (0 ≤ s) = false := by simpa using h1
    go_enter Tryd.func22, Tryd.ntmps22
    go_wp2
    go_ret
    exact ⟨ret_bool (by simp [isS]; omega), rfl⟩

set_option maxHeartbeats 400000 in
theorem slot_any (x : Int) (w : World) (hg : Glo w) (h0 : 0 ≤ x) (h1 : x ≤ 18446744073709551615) :
    Calls Tryd.prog 15 #[.int .u64 x] w fun e w' => e = .returned (.int .i64 (slotI x)) ∧ Below w.heap.size w w' := by
  obtain ⟨-, ⟨c0, c1⟩, -, -, hs, -⟩ := hg
  obtain ⟨k0, k1⟩ := slotI_in x
  have HG := Lib.hid (get_slot x h0)
  go_enter Tryd.func15, Tryd.ntmps15
  go_wp2_with fail
  refine (get_any 40 23 x _ (by decide) (by decide) h0 h1).mono ?_
  rintro e w1 ⟨rfl, hb⟩
  rw [HG.out]
  go_wp2
  go_ret
  exact ⟨rfl, hb⟩

set_option maxHeartbeats 400000 in
theorem version_any (x : Int) (w : World) (hg : Glo w) (h0 : 0 ≤ x) (h1 : x ≤ 18446744073709551615) :
    Calls Tryd.prog 16 #[.int .u64 x] w fun e w' => e = .returned (.int .i64 (verI x)) ∧ Below w.heap.size w w' := by
  obtain ⟨⟨c0, c1⟩, -, -, hs, -, -⟩ := hg
  obtain ⟨k0, k1⟩ := verI_in x
  have HG := Lib.hid (get_version x h0)
  go_enter Tryd.func16, Tryd.ntmps16
  go_wp2_with fail
  refine (get_any 0 40 x _ (by decide) (by decide) h0 h1).mono ?_
  rintro e w1 ⟨rfl, hb⟩
  rw [HG.out]
  go_wp2
  go_ret
  exact ⟨rfl, hb⟩

set_option maxHeartbeats 400000 in
theorem isMarked_any (x : Int) (w : World) (hg : Glo w) (h0 : 0 ≤ x) (h1 : x ≤ 18446744073709551615) :
    Calls Tryd.prog 17 #[.int .u64 x] w fun e w' => e = .returned (.bool (markB x)) ∧ Below w.heap.size w w' := by
  obtain ⟨-, -, ⟨c0, c1⟩, -, -, hs⟩ := hg
  have HG := Lib.hid (mark_one x h0 h1)
  go_enter Tryd.func17, Tryd.ntmps17
  go_wp2_with fail
  refine (get_any 63 1 x _ (by decide) (by decide) h0 h1).mono ?_
  rintro e w1 ⟨rfl, hb⟩
  generalize getI 63 1 x = y at *
  go_wp2
  go_ret
  exact ⟨ret_bool (by rw [← HG.out]; rfl), hb⟩

theorem hold3 {n : Nat} {w w1 w2 : World} {x y z : Value} (c0 : w1.cell? ⟨n, 0, none⟩ = some x) (c1 : w1.cell? ⟨n, 1, none⟩ = some y) (c2 : w1.cell? ⟨n, 2, none⟩ = some z) (hB : Below n w w1) (hs : n < w1.heap.size) (hb : Below w1.heap.size w1 w2) :
    w2.cell? ⟨n, 0, none⟩ = some x ∧ w2.cell? ⟨n, 1, none⟩ = some y ∧ w2.cell? ⟨n, 2, none⟩ = some z ∧ Below n w w2 ∧ n < w2.heap.size :=
  ⟨by rw [hb.cell (p := ⟨n, 0, none⟩) hs]; exact c0, by rw [hb.cell (p := ⟨n, 1, none⟩) hs]; exact c1, by rw [hb.cell (p := ⟨n, 2, none⟩) hs]; exact c2, hB.trans (hb.mono (by omega)), by have := hb.size; omega⟩

/-- A block of the call's own that may be written. -/
theorem thaw3 {n : Nat} {w1 w2 : World} (f0 : w1.frozen? ⟨n, 0, none⟩ = false) (f1 : w1.frozen? ⟨n, 1, none⟩ = false) (f2 : w1.frozen? ⟨n, 2, none⟩ = false) (hs : n < w1.heap.size) (hb : Below w1.heap.size w1 w2) :
    w2.frozen? ⟨n, 0, none⟩ = false ∧ w2.frozen? ⟨n, 1, none⟩ = false ∧ w2.frozen? ⟨n, 2, none⟩ = false :=
  ⟨by rw [hb.frozen (p := ⟨n, 0, none⟩) hs]; exact f0, by rw [hb.frozen (p := ⟨n, 1, none⟩) hs]; exact f1, by rw [hb.frozen (p := ⟨n, 2, none⟩) hs]; exact f2⟩

set_option maxHeartbeats 400000 in
theorem linkIs_any (m : Bool) (s v : Int) (w : World) :
    Calls Tryd.prog 11 #[.agg #[.bool m, .int .i64 s, .int .i64 v]] w fun e w' => e = .returned (.bool (isL s v)) ∧ Below w.heap.size w w' := by
  cases hS : isS s
  · have H := Lib.hid hS
    go_enter Tryd.func11, Tryd.ntmps11
    go_wp2_with fail
    refine (isSlot_any s _).mono ?_
    rintro e w1 ⟨rfl, rfl⟩
    rw [H.out]
    go_wp2
    go_ret
    exact ⟨ret_bool (by have := H.out; simp [isS] at this; simp [isL]; omega), (Below.refl _ _).alloc (Nat.le_refl _) _⟩
  · obtain ⟨k0, k1⟩ := isS_parts hS
    have H := Lib.hid hS
    clear hS
    by_cases h2 : 0 ≤ v
    · go_enter Tryd.func11, Tryd.ntmps11
      go_wp2_with fail
      refine (isSlot_any s _).mono ?_
      rintro e w1 ⟨rfl, rfl⟩
      rw [H.out]
      go_wp2
      go_ret
      exact ⟨ret_bool (by simp [isL, h2, k0, k1]), (Below.refl _ _).alloc (Nat.le_refl _) _⟩
    · have hd : decide (0 ≤ v) = false := by simpa using h2
      go_enter Tryd.func11, Tryd.ntmps11
      go_wp2_with fail
      refine (isSlot_any s _).mono ?_
      rintro e w1 ⟨rfl, rfl⟩
      rw [H.out]
      go_wp2
      go_ret
      exact ⟨ret_bool (by simp [isL]; omega), (Below.refl _ _).alloc (Nat.le_refl _) _⟩

/-- The three Puts that make a link's word. -/
theorem put1 (v : Int) (w : World) (h0 : 0 ≤ v) (h1 : v ≤ 1099511627775) :
    Calls Tryd.prog 23 #[.agg #[.int .i64 0, .int .i64 40], .int .u64 0, .int .u64 v] w fun e w' => e = .returned (.tuple #[.int .u64 v, .bool true]) ∧ Below w.heap.size w w' := by
  have := put_yes 0 40 0 v w (by decide) (by decide) max_parts.2.2.2.1 (by decide) (by decide) h0 (by rw [max_parts.1]; exact h1)
  rw [put_version v h0] at this
  exact this
theorem put2 (v s : Int) (w : World) (h0 : 0 ≤ v) (h1 : v ≤ 1099511627775) (h2 : 0 ≤ s) (h3 : s ≤ 8388607) :
    Calls Tryd.prog 23 #[.agg #[.int .i64 40, .int .i64 23], .int .u64 v, .int .u64 s] w fun e w' => e = .returned (.tuple #[.int .u64 (v + s * 1099511627776), .bool true]) ∧ Below w.heap.size w w' := by
  have := put_yes 40 23 v s w (by decide) (by decide) max_parts.2.2.2.2.1 h0 (by omega) h2 (by rw [max_parts.2.1]; exact h3)
  rw [put_slot v s h0 h1 h2] at this
  exact this
theorem put3 (x : Int) (w : World) (h0 : 0 ≤ x) (h1 : x < 9223372036854775808) :
    Calls Tryd.prog 23 #[.agg #[.int .i64 63, .int .i64 1], .int .u64 x, .int .u64 1] w fun e w' => e = .returned (.tuple #[.int .u64 (x + 9223372036854775808), .bool true]) ∧ Below w.heap.size w w' := by
  have := put_yes 63 1 x 1 w (by decide) (by decide) max_parts.2.2.2.2.2 h0 (by omega) (by decide) (by rw [max_parts.2.2.1]; decide)
  rw [put_mark x h0 h1] at this
  exact this

set_option maxHeartbeats 800000 in
theorem word_any (m : Bool) (s v : Int) (w : World) (hg : Glo w) :
    Calls Tryd.prog 13 #[.agg #[.bool m, .int .i64 s, .int .i64 v]] w fun e w' => e = .returned (.int .u64 (wordI m s v)) ∧ Below w.heap.size w w' := by
  cases h : isL s v
  · have H := Lib.hid h
    clear h
    go_enter Tryd.func13, Tryd.ntmps13
    go_wp2_with fail
    refine (linkIs_any m s v _).mono ?_
    rintro e w1 ⟨rfl, hb⟩
    rw [H.out]
    go_wp2
    go_ret
    exact ⟨ret_int (wordI_no H.out).symm, ((Below.refl _ _).alloc (Nat.le_refl _) _).trans (hb.mono (by simp))⟩
  · have hp := isL_parts h
    have H := Lib.hid h
    clear h
    obtain ⟨k0, k1, k2, k3⟩ := hp
    have hA := hg.alloc (.cells #[.bool m, .int .i64 s, .int .i64 v] 23)
    clear hg
    go_enter Tryd.func13, Tryd.ntmps13
    go_wp2_with fail
    refine (linkIs_any m s v _).mono ?_
    rintro e w1 ⟨rfl, hb⟩
    have hA1 := hA.keep' hb
    obtain ⟨d0, d1, d2, hB, hs⟩ := hold3 (n := w.heap.size) (w := w) (x := .bool m) (y := .int .i64 s) (z := .int .i64 v) (by simp) (by simp) (by simp) ((Below.refl _ _).alloc (Nat.le_refl _) _) (by simp) hb
    clear hb hA
    rw [H.out]
    obtain ⟨⟨a0, a1⟩, ⟨b0, b1⟩, ⟨c0, c1⟩, g1, g2, g3⟩ := id hA1
    go_wp2_with fail
    refine (put1 v _ k2 k3).mono ?_
    rintro e w2 ⟨rfl, hb⟩
    have hA2 := hA1.keep' hb
    obtain ⟨e0, e1, e2, hB2, hs2⟩ := hold3 d0 d1 d2 hB hs hb
    clear hb hA1 d0 d1 d2 hB hs a0 a1 b0 b1 c0 c1 g1 g2 g3
    obtain ⟨⟨a0, a1⟩, ⟨b0, b1⟩, ⟨c0, c1⟩, g1, g2, g3⟩ := id hA2
    go_wp2_with fail
    refine (put2 v s _ k2 k3 k0 k1).mono ?_
    rintro e w3 ⟨rfl, hb⟩
    have hA3 := hA2.keep' hb
    obtain ⟨d0, d1, d2, hB, hs⟩ := hold3 e0 e1 e2 hB2 hs2 hb
    clear hb hA2 e0 e1 e2 hB2 hs2 a0 a1 b0 b1 c0 c1 g1 g2 g3
    obtain ⟨⟨a0, a1⟩, ⟨b0, b1⟩, ⟨c0, c1⟩, g1, g2, g3⟩ := id hA3
    have q0 : 0 ≤ v + s * 1099511627776 := by omega
    have q1 : v + s * 1099511627776 < 9223372036854775808 := by omega
    cases m
    · have HW := Lib.hid (wordI_yes (m := false) H.out)
      clear hA3
      go_wp2_with fail
      go_ret
      exact ⟨ret_int (by rw [HW.out]; simp [bitI]), hB⟩
    · have HW := Lib.hid (wordI_yes (m := true) H.out)
      clear hA3
      go_wp2_with fail
      refine (put3 _ _ q0 q1).mono ?_
      rintro e w4 ⟨rfl, hb⟩
      go_wp2_with fail
      go_ret
      exact ⟨ret_int (by rw [HW.out]; simp [bitI]), hB.trans (hb.mono (by omega))⟩
end Go.Proofs.YtbkdacbpapedgaaDoor
