/- Contracts of the functions of layer 2 that go by the others: Of, To, Marked, Newer, Next. -/
import Derived.Test.YtbkdacbpapedgaaDoorLinkA
namespace Go.Proofs.YtbkdacbpapedgaaDoor
open Go.RowKit

set_option maxHeartbeats 400000 in
theorem of_any (x : Int) (w : World) (hg : Glo w) (h0 : 0 ≤ x) (h1 : x ≤ 18446744073709551615) :
    Calls Tryd.prog 9 #[.int .u64 x] w fun e w' => e = .returned (.agg #[.bool (markB x), .int .i64 (slotI x), .int .i64 (verI x)]) ∧ Below w.heap.size w w' := by
  have hA := hg.alloc (.cells #[.bool false, .int .i64 0, .int .i64 0] 23)
  clear hg
  go_enter Tryd.func9, Tryd.ntmps9
  go_wp2_with fail
  refine (isMarked_any x _ hA h0 h1).mono ?_
  rintro e w1 ⟨rfl, hb⟩
  have hA1 := hA.keep' hb
  obtain ⟨d0, d1, d2, hB, hs⟩ := hold3 (n := w.heap.size) (w := w) (x := .bool false) (y := .int .i64 0) (z := .int .i64 0) (by simp) (by simp) (by simp) ((Below.refl _ _).alloc (Nat.le_refl _) _) (by simp) hb
  obtain ⟨f0, f1, f2⟩ := thaw3 (n := w.heap.size) (by simp) (by simp) (by simp) (by simp) hb
  clear hb hA
  go_wp2_with fail
  refine (slot_any x _ hA1 h0 h1).mono ?_
  rintro e w2 ⟨rfl, hb⟩
  have hA2 := hA1.keep' hb
  obtain ⟨e0, e1, e2, hB2, hs2⟩ := hold3 d0 d1 d2 hB hs hb
  obtain ⟨g0, g1, g2⟩ := thaw3 f0 f1 f2 hs hb
  clear hb hA1 d0 d1 d2 hB hs f0 f1 f2
  go_wp2_with fail
  refine (version_any x _ hA2 h0 h1).mono ?_
  rintro e w3 ⟨rfl, hb⟩
  obtain ⟨d0, d1, d2, hB, hs⟩ := hold3 e0 e1 e2 hB2 hs2 hb
  obtain ⟨f0, f1, f2⟩ := thaw3 g0 g1 g2 hs2 hb
  clear hb hA2 e0 e1 e2 hB2 hs2 g0 g1 g2
  go_wp2_with fail
  exact bodyPost_ret (v := .agg #[.bool (markB x), .int .i64 (slotI x), .int .i64 (verI x)]) (by simp [results, Tryd.results9, go_sem, d0, d1, d2]) rfl ⟨rfl, ((hB.setCell (by simp) _).setCell (by simp) _).setCell (by simp) _⟩

set_option maxHeartbeats 400000 in
theorem to_any (s v : Int) (w : World) (hg : Glo w) :
    Calls Tryd.prog 18 #[.int .i64 s, .int .i64 v] w fun e w' => e = .returned (.int .u64 (wordI false s v)) ∧ Below w.heap.size w w' := by
  go_enter Tryd.func18, Tryd.ntmps18
  go_wp2_with fail
  refine (word_any false s v _ hg).mono ?_
  rintro e w1 ⟨rfl, hb⟩
  go_wp2_with fail
  go_ret
  exact ⟨rfl, hb⟩

set_option maxHeartbeats 400000 in
theorem marked_any (x s v : Int) (w : World) (hg : Glo w) (h0 : 0 ≤ x) (h1 : x ≤ 18446744073709551615) :
    Calls Tryd.prog 19 #[.int .u64 x, .int .i64 s, .int .i64 v] w fun e w' => e = .returned (.int .u64 (markedW x s v)) ∧ Below w.heap.size w w' := by
  cases h : markB x
  · have hm : markedW x s v = wordI true s v := by simp [markedW, h]
    have H := Lib.hid h
    have HM := Lib.hid hm
    clear h hm
    go_enter Tryd.func19, Tryd.ntmps19
    go_wp2_with fail
    refine (isMarked_any x _ hg h0 h1).mono ?_
    rintro e w1 ⟨rfl, hb⟩
    rw [H.out]
    go_wp2_with fail
    refine (word_any true s v _ (hg.keep' hb)).mono ?_
    rintro e w2 ⟨rfl, hb2⟩
    go_wp2_with fail
    go_ret
    exact ⟨ret_int HM.out.symm, hb.trans (hb2.mono (by have := hb.size; omega))⟩
  · have hm : markedW x s v = x := by simp [markedW, h]
    have H := Lib.hid h
    have HM := Lib.hid hm
    clear h hm
    go_enter Tryd.func19, Tryd.ntmps19
    go_wp2_with fail
    refine (isMarked_any x _ hg h0 h1).mono ?_
    rintro e w1 ⟨rfl, hb⟩
    rw [H.out]
    go_wp2_with fail
    go_ret
    exact ⟨ret_int HM.out.symm, hb⟩

set_option maxHeartbeats 400000 in
theorem isNaN_any (a : Int) (w : World) : Calls Tryd.prog 29 #[.int .i64 a] w fun e w' => e = .returned (.bool false) ∧ w = w' := by
  go_enter Tryd.func29, Tryd.ntmps29
  go_wp2
  go_ret
  exact ⟨ret_bool (by simp), rfl⟩

set_option maxHeartbeats 400000 in
theorem compare_any (a b : Int) (w : World) : Calls Tryd.prog 25 #[.int .i64 a, .int .i64 b] w fun e w' => e = .returned (.int .i64 (cmpI a b)) ∧ w = w' := by
  by_cases hlt : a < b
  · have HC := Lib.hid (cmpI_lt hlt)
    go_enter Tryd.func25, Tryd.ntmps25
    go_wp2_with fail
    refine (isNaN_any _ _).mono ?_
    rintro e w1 ⟨rfl, rfl⟩
    go_wp2_with fail
    refine (isNaN_any _ _).mono ?_
    rintro e w1 ⟨rfl, rfl⟩
    go_wp2_with fail
    go_ret
    exact ⟨ret_int HC.out.symm, rfl⟩
  · by_cases hgt : b < a
    · have HC := Lib.hid (cmpI_gt hgt)
      go_enter Tryd.func25, Tryd.ntmps25
      go_wp2_with fail
      refine (isNaN_any _ _).mono ?_
      rintro e w1 ⟨rfl, rfl⟩
      go_wp2_with fail
      refine (isNaN_any _ _).mono ?_
      rintro e w1 ⟨rfl, rfl⟩
      go_wp2_with fail
      go_ret
      exact ⟨ret_int HC.out.symm, rfl⟩
    · have HC := Lib.hid (show cmpI a b = 0 by simp [cmpI, hlt, hgt])
      go_enter Tryd.func25, Tryd.ntmps25
      go_wp2_with fail
      refine (isNaN_any _ _).mono ?_
      rintro e w1 ⟨rfl, rfl⟩
      go_wp2_with fail
      refine (isNaN_any _ _).mono ?_
      rintro e w1 ⟨rfl, rfl⟩
      go_wp2_with fail
      go_ret
      exact ⟨ret_int HC.out.symm, rfl⟩

set_option maxHeartbeats 400000 in
theorem newer_any (x y : Int) (w : World) (hg : Glo w) (h0 : 0 ≤ x) (h1 : x ≤ 18446744073709551615) (k0 : 0 ≤ y) (k1 : y ≤ 18446744073709551615) :
    Calls Tryd.prog 21 #[.int .u64 x, .int .u64 y] w fun e w' => e = .returned (.int .i64 (cmpI (verI x) (verI y))) ∧ Below w.heap.size w w' := by
  go_enter Tryd.func21, Tryd.ntmps21
  go_wp2_with fail
  refine (version_any x _ hg h0 h1).mono ?_
  rintro e w1 ⟨rfl, hb⟩
  go_wp2_with fail
  refine (version_any y _ (hg.keep' hb) k0 k1).mono ?_
  rintro e w2 ⟨rfl, hb2⟩
  go_wp2_with fail
  refine (compare_any _ _ _).mono ?_
  rintro e w3 ⟨rfl, rfl⟩
  go_wp2_with fail
  go_ret
  exact ⟨rfl, hb.trans (hb2.mono (by have := hb.size; omega))⟩

theorem ret_int2 {k l : IntKind} {x y u v : Int} (h : x = y) (g : u = v) : Ending.returned (.tuple #[.int k x, .int l u]) = .returned (.tuple #[.int k y, .int l v]) := by rw [h, g]

set_option maxHeartbeats 400000 in
theorem next_any (x s : Int) (w : World) (hg : Glo w) (h0 : 0 ≤ x) (h1 : x ≤ 18446744073709551615) :
    Calls Tryd.prog 20 #[.int .u64 x, .int .i64 s] w fun e w' => e = .returned (.tuple #[.int .u64 (nextW x s), .int .i64 (nextE x s)]) ∧ Below w.heap.size w w' := by
  cases hS : isS s
  · have HW := Lib.hid (show nextW x s = 0 by simp [nextW, hS])
    have HE := Lib.hid (show nextE x s = 3 by simp [nextE, hS])
    have H := Lib.hid hS
    clear hS
    go_enter Tryd.func20, Tryd.ntmps20
    go_wp2_with fail
    refine (isSlot_any s _).mono ?_
    rintro e w1 ⟨rfl, rfl⟩
    rw [H.out]
    go_wp2_with fail
    go_ret2
    exact ⟨ret_int2 HW.out.symm HE.out.symm, Below.refl _ _⟩
  · obtain ⟨k0, k1⟩ := verI_in x
    by_cases hv : verI x = 1099511627775
    · have HW := Lib.hid (show nextW x s = 0 by simp [nextW, hS, hv])
      have HE := Lib.hid (show nextE x s = 7 by simp [nextE, hS, hv])
      have H := Lib.hid hS
      have HV := Lib.hid hv
      clear hS hv
      go_enter Tryd.func20, Tryd.ntmps20
      go_wp2_with fail
      refine (isSlot_any s _).mono ?_
      rintro e w1 ⟨rfl, rfl⟩
      rw [H.out]
      go_wp2_with fail
      refine (version_any x _ hg h0 h1).mono ?_
      rintro e w1 ⟨rfl, hb⟩
      rw [HV.out]
      go_wp2_with fail
      go_ret2
      exact ⟨ret_int2 HW.out.symm HE.out.symm, hb⟩
    · have HW := Lib.hid (show nextW x s = wordI false s (verI x + 1) by simp [nextW, hS, hv])
      have HE := Lib.hid (show nextE x s = 0 by simp [nextE, hS, hv])
      have H := Lib.hid hS
      have hv2 : verI x < 1099511627775 := by omega
      clear hS hv
      generalize hy : verI x = y at *
      have HY := Lib.hid hy
      clear hy
      go_enter Tryd.func20, Tryd.ntmps20
      go_wp2_with fail
      refine (isSlot_any s _).mono ?_
      rintro e w1 ⟨rfl, rfl⟩
      rw [H.out]
      go_wp2_with fail
      refine (version_any x _ hg h0 h1).mono ?_
      rintro e w1 ⟨rfl, hb⟩
      rw [HY.out]
      have hg1 := hg.keep' hb
      go_wp2_with fail
      refine (version_any x _ hg1 h0 h1).mono ?_
      rintro e w2 ⟨rfl, hb2⟩
      rw [HY.out]
      have hg2 := hg1.keep' hb2
      go_wp2_with fail
      refine (to_any s _ _ hg2).mono ?_
      rintro e w3 ⟨rfl, hb3⟩
      go_wp2_with fail
      go_ret2
      exact ⟨ret_int2 HW.out.symm HE.out.symm, (hb.trans (hb2.mono (by have := hb.size; omega))).trans (hb3.mono (by have := hb.size; have := hb2.size; omega))⟩
end Go.Proofs.YtbkdacbpapedgaaDoor
