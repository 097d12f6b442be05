/- What is proved on the way to the statement, part 4 of 13: contracts of the functions, among other things in memory. -/
import Derived.Test.YtnnjanaclgjneaaGreatDoorE3
import Derived.Test.YtnnjanaclgjneaaGreatDoorChecked
import Derived.Deep.Light
import Derived.Laws.EntriesVeiled

/- Contracts of the functions of layer 2. -/
namespace Go.Proofs.YtnnjanaclgjneaaGreatDoor
open Go.RowKit
set_option maxRecDepth 100000

/-- The three fields stand in their variables. -/
def Glo (w : World) : Prop :=
  (w.cell? ⟨2, 0, none⟩ = some (.int .i64 0) ∧ w.cell? ⟨2, 1, none⟩ = some (.int .i64 40)) ∧
  (w.cell? ⟨0, 0, none⟩ = some (.int .i64 40) ∧ w.cell? ⟨0, 1, none⟩ = some (.int .i64 23)) ∧
  (w.cell? ⟨1, 0, none⟩ = some (.int .i64 63) ∧ w.cell? ⟨1, 1, none⟩ = some (.int .i64 1)) ∧
  2 < w.heap.size ∧ 0 < w.heap.size ∧ 1 < w.heap.size
theorem Glo.keep {n : Nat} {w w' : World} (h : Glo w) (hb : Below n w w') (hn : w.heap.size ≤ n) : Glo w' := by
  obtain ⟨⟨a0, a1⟩, ⟨b0, b1⟩, ⟨c0, c1⟩, h1, h2, h3⟩ := h
  have := hb.size
  refine ⟨⟨?_, ?_⟩, ⟨?_, ?_⟩, ⟨?_, ?_⟩, by omega, by omega, by omega⟩
  · rw [hb.cell (p := ⟨_, 0, none⟩) (by simp; omega)]; exact a0
  · rw [hb.cell (p := ⟨_, 1, none⟩) (by simp; omega)]; exact a1
  · rw [hb.cell (p := ⟨_, 0, none⟩) (by simp; omega)]; exact b0
  · rw [hb.cell (p := ⟨_, 1, none⟩) (by simp; omega)]; exact b1
  · rw [hb.cell (p := ⟨_, 0, none⟩) (by simp; omega)]; exact c0
  · rw [hb.cell (p := ⟨_, 1, none⟩) (by simp; omega)]; exact c1
theorem Glo.keep' {w1 w2 : World} (h : Glo w1) (hb : Below w1.heap.size w1 w2) : Glo w2 := h.keep hb (Nat.le_refl _)
theorem Glo.alloc {w : World} (h : Glo w) (o : Obj) : Glo (w.alloc o) := h.keep ((Below.refl _ _).alloc (Nat.le_refl _) _) (Nat.le_refl _)

set_option maxHeartbeats 400000 in
theorem isSlot_any (s : Int) (w : World) : Calls Tryz.prog 291 #[.int .i64 s] w fun e w' => e = .returned (.bool (isS s)) ∧ w = w' := by
  by_cases h1 : 0 ≤ s
  · go_enter Tryz.func291, Tryz.ntmps291
    go_wp2
    go_ret
    exact ⟨ret_bool (by simp [isS, h1]), rfl⟩
  · have hd : decide (0 ≤ s) = false := by simpa using h1
    go_enter Tryz.func291, Tryz.ntmps291
    go_wp2
    go_ret
    exact ⟨ret_bool (by simp [isS]; omega), rfl⟩

set_option maxHeartbeats 400000 in
theorem slot_any (x : Int) (w : World) (hg : Glo w) (h0 : 0 ≤ x) (h1 : x ≤ 18446744073709551615) :
    Calls Tryz.prog 64 #[.int .u64 x] w fun e w' => e = .returned (.int .i64 (slotI x)) ∧ Below w.heap.size w w' := by
  obtain ⟨-, ⟨c0, c1⟩, -, -, hs, -⟩ := hg
  obtain ⟨k0, k1⟩ := slotI_in x
  have HG := Lib.hid (get_slot x h0)
  go_enter Tryz.func64, Tryz.ntmps64
  go_wp2_with fail
  refine (get_any 40 23 x _ (by decide) (by decide) h0 h1).mono ?_
  rintro e w1 ⟨rfl, hb⟩
  rw [HG.out]
  go_wp2
  go_ret
  exact ⟨rfl, hb⟩

theorem hold3 {n : Nat} {w w1 w2 : World} {x y z : Value} (c0 : w1.cell? ⟨n, 0, none⟩ = some x) (c1 : w1.cell? ⟨n, 1, none⟩ = some y) (c2 : w1.cell? ⟨n, 2, none⟩ = some z) (hB : Below n w w1) (hs : n < w1.heap.size) (hb : Below w1.heap.size w1 w2) :
    w2.cell? ⟨n, 0, none⟩ = some x ∧ w2.cell? ⟨n, 1, none⟩ = some y ∧ w2.cell? ⟨n, 2, none⟩ = some z ∧ Below n w w2 ∧ n < w2.heap.size :=
  ⟨by rw [hb.cell (p := ⟨n, 0, none⟩) hs]; exact c0, by rw [hb.cell (p := ⟨n, 1, none⟩) hs]; exact c1, by rw [hb.cell (p := ⟨n, 2, none⟩) hs]; exact c2, hB.trans (hb.mono (by omega)), by have := hb.size; omega⟩

/-- A block of the call's own that may be written. -/
theorem thaw3 {n : Nat} {w1 w2 : World} (f0 : w1.frozen? ⟨n, 0, none⟩ = false) (f1 : w1.frozen? ⟨n, 1, none⟩ = false) (f2 : w1.frozen? ⟨n, 2, none⟩ = false) (hs : n < w1.heap.size) (hb : Below w1.heap.size w1 w2) :
    w2.frozen? ⟨n, 0, none⟩ = false ∧ w2.frozen? ⟨n, 1, none⟩ = false ∧ w2.frozen? ⟨n, 2, none⟩ = false :=
  ⟨by rw [hb.frozen (p := ⟨n, 0, none⟩) hs]; exact f0, by rw [hb.frozen (p := ⟨n, 1, none⟩) hs]; exact f1, by rw [hb.frozen (p := ⟨n, 2, none⟩) hs]; exact f2⟩

set_option maxHeartbeats 400000 in
theorem linkIs_any (m : Bool) (s v : Int) (w : World) :
    Calls Tryz.prog 278 #[.agg #[.bool m, .int .i64 s, .int .i64 v]] w fun e w' => e = .returned (.bool (isL s v)) ∧ Below w.heap.size w w' := by
  cases hS : isS s
  · have H := Lib.hid hS
    go_enter Tryz.func278, Tryz.ntmps278
    go_wp2_with fail
    refine (isSlot_any s _).mono ?_
    rintro e w1 ⟨rfl, rfl⟩
    rw [H.out]
    go_wp2
    go_ret
    exact ⟨ret_bool (by have := H.out; simp [isS] at this; simp [isL]; omega), (Below.refl _ _).alloc (Nat.le_refl _) _⟩
  · obtain ⟨k0, k1⟩ := isS_parts hS
    have H := Lib.hid hS
    clear hS
    by_cases h2 : 0 ≤ v
    · go_enter Tryz.func278, Tryz.ntmps278
      go_wp2_with fail
      refine (isSlot_any s _).mono ?_
      rintro e w1 ⟨rfl, rfl⟩
      rw [H.out]
      go_wp2
      go_ret
      exact ⟨ret_bool (by simp [isL, h2, k0, k1]), (Below.refl _ _).alloc (Nat.le_refl _) _⟩
    · have hd : decide (0 ≤ v) = false := by simpa using h2
      go_enter Tryz.func278, Tryz.ntmps278
      go_wp2_with fail
      refine (isSlot_any s _).mono ?_
      rintro e w1 ⟨rfl, rfl⟩
      rw [H.out]
      go_wp2
      go_ret
      exact ⟨ret_bool (by simp [isL]; omega), (Below.refl _ _).alloc (Nat.le_refl _) _⟩

/-- The three Puts that make a link's word. -/
theorem put1 (v : Int) (w : World) (h0 : 0 ≤ v) (h1 : v ≤ 1099511627775) :
    Calls Tryz.prog 279 #[.agg #[.int .i64 0, .int .i64 40], .int .u64 0, .int .u64 v] w fun e w' => e = .returned (.tuple #[.int .u64 v, .bool true]) ∧ Below w.heap.size w w' := by
  have := put_yes 0 40 0 v w (by decide) (by decide) max_parts.2.2.2.1 (by decide) (by decide) h0 (by rw [max_parts.1]; exact h1)
  rw [put_version v h0] at this
  exact this
theorem put2 (v s : Int) (w : World) (h0 : 0 ≤ v) (h1 : v ≤ 1099511627775) (h2 : 0 ≤ s) (h3 : s ≤ 8388607) :
    Calls Tryz.prog 279 #[.agg #[.int .i64 40, .int .i64 23], .int .u64 v, .int .u64 s] w fun e w' => e = .returned (.tuple #[.int .u64 (v + s * 1099511627776), .bool true]) ∧ Below w.heap.size w w' := by
  have := put_yes 40 23 v s w (by decide) (by decide) max_parts.2.2.2.2.1 h0 (by omega) h2 (by rw [max_parts.2.1]; exact h3)
  rw [put_slot v s h0 h1 h2] at this
  exact this
theorem put3 (x : Int) (w : World) (h0 : 0 ≤ x) (h1 : x < 9223372036854775808) :
    Calls Tryz.prog 279 #[.agg #[.int .i64 63, .int .i64 1], .int .u64 x, .int .u64 1] w fun e w' => e = .returned (.tuple #[.int .u64 (x + 9223372036854775808), .bool true]) ∧ Below w.heap.size w w' := by
  have := put_yes 63 1 x 1 w (by decide) (by decide) max_parts.2.2.2.2.2 h0 (by omega) (by decide) (by rw [max_parts.2.2.1]; decide)
  rw [put_mark x h0 h1] at this
  exact this

set_option maxHeartbeats 800000 in
theorem word_any (m : Bool) (s v : Int) (w : World) (hg : Glo w) :
    Calls Tryz.prog 268 #[.agg #[.bool m, .int .i64 s, .int .i64 v]] w fun e w' => e = .returned (.int .u64 (wordI m s v)) ∧ Below w.heap.size w w' := by
  cases h : isL s v
  · have H := Lib.hid h
    clear h
    go_enter Tryz.func268, Tryz.ntmps268
    go_wp2_with fail
    refine (linkIs_any m s v _).mono ?_
    rintro e w1 ⟨rfl, hb⟩
    rw [H.out]
    go_wp2
    go_ret
    exact ⟨ret_int (wordI_no H.out).symm, ((Below.refl _ _).alloc (Nat.le_refl _) _).trans (hb.mono (by simp))⟩
  · have hp := isL_parts h
    have H := Lib.hid h
    clear h
    obtain ⟨k0, k1, k2, k3⟩ := hp
    have hA := hg.alloc (.cells #[.bool m, .int .i64 s, .int .i64 v] 341)
    clear hg
    go_enter Tryz.func268, Tryz.ntmps268
    go_wp2_with fail
    refine (linkIs_any m s v _).mono ?_
    rintro e w1 ⟨rfl, hb⟩
    have hA1 := hA.keep' hb
    obtain ⟨d0, d1, d2, hB, hs⟩ := hold3 (n := w.heap.size) (w := w) (x := .bool m) (y := .int .i64 s) (z := .int .i64 v) (by simp) (by simp) (by simp) ((Below.refl _ _).alloc (Nat.le_refl _) _) (by simp) hb
    clear hb hA
    rw [H.out]
    obtain ⟨⟨a0, a1⟩, ⟨b0, b1⟩, ⟨c0, c1⟩, g1, g2, g3⟩ := id hA1
    go_wp2_with fail
    refine (put1 v _ k2 k3).mono ?_
    rintro e w2 ⟨rfl, hb⟩
    have hA2 := hA1.keep' hb
    obtain ⟨e0, e1, e2, hB2, hs2⟩ := hold3 d0 d1 d2 hB hs hb
    clear hb hA1 d0 d1 d2 hB hs a0 a1 b0 b1 c0 c1 g1 g2 g3
    obtain ⟨⟨a0, a1⟩, ⟨b0, b1⟩, ⟨c0, c1⟩, g1, g2, g3⟩ := id hA2
    go_wp2_with fail
    refine (put2 v s _ k2 k3 k0 k1).mono ?_
    rintro e w3 ⟨rfl, hb⟩
    have hA3 := hA2.keep' hb
    obtain ⟨d0, d1, d2, hB, hs⟩ := hold3 e0 e1 e2 hB2 hs2 hb
    clear hb hA2 e0 e1 e2 hB2 hs2 a0 a1 b0 b1 c0 c1 g1 g2 g3
    obtain ⟨⟨a0, a1⟩, ⟨b0, b1⟩, ⟨c0, c1⟩, g1, g2, g3⟩ := id hA3
    have q0 : 0 ≤ v + s * 1099511627776 := by omega
    have q1 : v + s * 1099511627776 < 9223372036854775808 := by omega
    cases m
    · have HW := Lib.hid (wordI_yes (m := false) H.out)
      clear hA3
      go_wp2_with fail
      go_ret
      exact ⟨ret_int (by rw [HW.out]; simp [bitI]), hB⟩
    · have HW := Lib.hid (wordI_yes (m := true) H.out)
      clear hA3
      go_wp2_with fail
      refine (put3 _ _ q0 q1).mono ?_
      rintro e w4 ⟨rfl, hb⟩
      go_wp2_with fail
      go_ret
      exact ⟨ret_int (by rw [HW.out]; simp [bitI]), hB.trans (hb.mono (by omega))⟩
end Go.Proofs.YtnnjanaclgjneaaGreatDoor

/- Contracts of functions of layer 2 that go by the others: To, Marked. -/
namespace Go.Proofs.YtnnjanaclgjneaaGreatDoor
open Go.RowKit
set_option maxRecDepth 100000

set_option maxHeartbeats 400000 in
theorem to_any (s v : Int) (w : World) (hg : Glo w) :
    Calls Tryz.prog 251 #[.int .i64 s, .int .i64 v] w fun e w' => e = .returned (.int .u64 (wordI false s v)) ∧ Below w.heap.size w w' := by
  go_enter Tryz.func251, Tryz.ntmps251
  go_wp2_with fail
  refine (word_any false s v _ hg).mono ?_
  rintro e w1 ⟨rfl, hb⟩
  go_wp2_with fail
  go_ret
  exact ⟨rfl, hb⟩

end Go.Proofs.YtnnjanaclgjneaaGreatDoor

/- Threads: contracts of New, To, Mark, Lead. -/
namespace Go.Proofs.YtnnjanaclgjneaaGreatDoor
open Go.RowKit Go.Maps
set_option maxRecDepth 100000


section
variable {w0 w : World} {L : List Item}
end

section
variable {w : World} {c q : Nat} {k s b h l e r hs hi : Int}
set_option maxHeartbeats 1600000 in
theorem to_c (a d : Int) (hg : Glo w) (hb : Blk 0 w c (crv k s b h l e r hs hi q)) :
    Calls Tryz.prog 258 #[.pointer (some ⟨c, 0, none⟩), .agg #[.int .i64 a, .int .i64 d]] w fun o w' => o = .returned (.agg #[.int .u64 (wordI false a e), .int .i64 d, .bool false]) ∧ Below w.heap.size w w' := by
  have hcl := hb.1
  have HGB := Lib.hid fun (v : World) (hv : Below w.heap.size w v) => to_any a e v (hg.keep' hv)
  clear hg
  have hb1 := (hb.more (.cells [.int .i64 a, .int .i64 d].toArray 116)).more (.cells [.int .u64 0, .int .i64 0, .bool false].toArray 119)
  have hX := (Blk.new 0 w [.int .i64 a, .int .i64 d] 116).more (.cells [.int .u64 0, .int .i64 0, .bool false].toArray 119)
  have hB := (Blk.new 0 (w.alloc (.cells [.int .i64 a, .int .i64 d].toArray 116)) [.int .u64 0, .int .i64 0, .bool false] 119).at (n' := w.heap.size + 1) (by simp)
  have hE := ((Below.refl w.heap.size w).alloc (Nat.le_refl _) (.cells [.int .i64 a, .int .i64 d].toArray 116)).alloc (by simp) (.cells [.int .u64 0, .int .i64 0, .bool false].toArray 119)
  unfold crv at hb1
  clear hb
  go_enter Tryz.func258, Tryz.ntmps258
  go_wp2_with fail
  refine Ord.wp_chain [10] (fun w' => Below w.heap.size w w' ∧ Blk 0 w' c [.int .i64 k, .int .i64 s, .int .i64 b, .int .i64 h, .int .i64 l, .int .i64 e, .int .i64 r, .int .i64 hs, .int .i64 hi, .pointer (some ⟨q, 0, none⟩)] ∧ Blk 0 w' w.heap.size [.int .i64 a, .int .i64 d]) (fun j w' => Blk 0 w' (w.heap.size + 1) (if j = 0 then [.int .u64 0, .int .i64 0, .bool false] else [.int .u64 (wordI false a e), .int .i64 d, .bool false])) (by kernel_rfl) (by kernel_rfl) (by kernel_rfl) ⟨hE.drew, hb1.drew, hX.drew⟩ hB.drew (fun hT => ?_)
  have hT9 := Lib.hid hT
  clear hT
  repeat (first
    | (refine Ord.ch_value (v := ?_) hT9.out (by decide) (by rfl) ?_ ?_; rotate_left; (focus (intro w5 hS; have r := Blk.rule hS.2.1; have r2 := Blk.rule hS.2.2; go_simp <;> with_reducible rfl)); (try simp only [Act.put, List.setIfInBounds_toArray, List.set_cons_zero, List.set_cons_succ]))
    | (refine Ord.ch_off hT9.out (by decide) (by rfl) ?_; (try simp only [Act.put, List.setIfInBounds_toArray, List.set_cons_zero, List.set_cons_succ]))
    | (refine Ord.ch_call (v := ?_) (f := ?_) (args := ?_) hT9.out (by decide) (by rfl) ?_ ?_ ?_; rotate_left 3; (focus (intro w5 hS; have r := Blk.rule hS.2.1; have r2 := Blk.rule hS.2.2; go_simp; constructor <;> with_reducible rfl)); (focus (intro w5 hS; (first | (with_reducible refine (HGB.out _ hS.1).mono ?_; rintro o w6 ⟨rfl, hb6⟩; constructor; with_reducible rfl; exact ⟨⟨hS.1.trans (hb6.mono hS.1.size), hS.2.1.under hb6, hS.2.2.under hb6⟩, fun _ h => h.under hb6⟩)))); (try simp only [Act.put, List.setIfInBounds_toArray, List.set_cons_zero, List.set_cons_succ])))
  refine Ord.ch_turn (v := undef) 0 hT9.out rfl (by decide) (Or.inl rfl) (by rfl) ?_ ?_
  · rintro w5 hS hA2
    simp only [if_true] at hA2
    have r := hA2.rule
    have f0 := hA2.thaw 0 (by simp)
    have f1 := hA2.thaw 1 (by simp)
    have f2 := hA2.thaw 2 (by simp)
    have hz := hS.1.size
    go_simp
    refine ⟨rfl, ⟨?_, ?_, ?_⟩, ?_⟩
    · exact below_set (below_set (below_set hS.1 hz (by omega) _) (by simp; omega) (by omega) _) (by simp; omega) (by omega) _
    · exact ((hS.2.1.off (by omega) _).off (by omega) _).off (by omega) _
    · exact ((hS.2.2.off (by omega) _).off (by omega) _).off (by omega) _
    · exact Blk.put3 hA2 _ _ _
  (try simp only [Act.put, List.setIfInBounds_toArray, List.set_cons_zero, List.set_cons_succ])
  repeat (first
    | (refine Ord.ch_value (v := ?_) hT9.out (by decide) (by rfl) ?_ ?_; rotate_left; (focus (intro w5 hS; skip; go_simp <;> with_reducible rfl)); (try simp only [Act.put, List.setIfInBounds_toArray, List.set_cons_zero, List.set_cons_succ]))
    | (refine Ord.ch_off hT9.out (by decide) (by rfl) ?_; (try simp only [Act.put, List.setIfInBounds_toArray, List.set_cons_zero, List.set_cons_succ])))
  refine Ord.InText.nil fun w5 hS => ?_
  clear hT9
  obtain ⟨hC9, hA9⟩ := Ord.chain_end hS
  clear hS
  have q := hA9.rule
  simp only [show ¬ [10].length = 0 by decide, if_false] at q
  go_wp2
  exact bodyPost_ret (v := .agg #[.int .u64 (wordI false a e), .int .i64 d, .bool false]) (by simp [results, Tryz.results258, go_sem, q]) rfl ⟨rfl, hC9.1⟩
end

end Go.Proofs.YtnnjanaclgjneaaGreatDoor

/- Contracts of the functions of layer 3 that later layers call: Check, Roots. -/
namespace Go.Proofs.YtnnjanaclgjneaaGreatDoor
open Go.RowKit
set_option maxRecDepth 100000

set_option maxHeartbeats 400000 in
theorem within_any (n lo hi : Int) (w : World) : Calls Tryz.prog 128 #[.int .i64 n, .int .i64 lo, .int .i64 hi] w fun e w' => e = .returned (.bool (inB n lo hi)) ∧ w = w' := by
  go_enter Tryz.func128, Tryz.ntmps128
  go_wp2
  all_goals
    go_ret
    exact ⟨ret_bool (by simp [inB]; try omega), rfl⟩

set_option maxHeartbeats 400000 in
theorem isKind_any (k : Int) (w : World) : Calls Tryz.prog 127 #[.int .i64 k] w fun e w' => e = .returned (.bool (kindB k)) ∧ w = w' := by
  go_enter Tryz.func127, Tryz.ntmps127
  go_wp2
  all_goals
    go_ret
    exact ⟨ret_bool (by rw [Bool.eq_iff_iff]; simp [kindB]; try omega), rfl⟩

set_option maxHeartbeats 400000 in
theorem hasBuckets_any (k s b h l : Int) (w : World) : Calls Tryz.prog 129 #[.agg #[.int .i64 k, .int .i64 s, .int .i64 b, .int .i64 h, .int .i64 l]] w fun e w' => e = .returned (.bool (buckB k b)) ∧ Below w.heap.size w w' := by
  have hF := (Fr.start w).push w.heap.size rfl [.int .i64 k, .int .i64 s, .int .i64 b, .int .i64 h, .int .i64 l] 58
  go_enter Tryz.func129, Tryz.ntmps129
  go_wp2_with
    (with_reducible refine (within_any _ _ _ _).mono ?_; rintro e w1 ⟨rfl, rfl⟩)
  all_goals
    go_ret
    (try go_light)
    (try simp only [bne_iff_ne, ne_eq, bne_eq_false_iff_eq, beq_iff_eq, beq_eq_false_iff_ne, Bool.or_eq_true, Bool.and_eq_true, decide_eq_true_eq, decide_eq_false_iff_not, Bool.or_eq_false_iff, Bool.not_eq_true', Bool.not_eq_false'] at *)
    refine ⟨ret_bool ?_, hF.below⟩
    rw [Bool.eq_iff_iff, buckB_iff]
    (try simp [inB])
    (try omega)

set_option maxHeartbeats 400000 in
theorem hasHeight_any (k s b h l : Int) (w : World) : Calls Tryz.prog 130 #[.agg #[.int .i64 k, .int .i64 s, .int .i64 b, .int .i64 h, .int .i64 l]] w fun e w' => e = .returned (.bool (highB k h)) ∧ Below w.heap.size w w' := by
  have hF := (Fr.start w).push w.heap.size rfl [.int .i64 k, .int .i64 s, .int .i64 b, .int .i64 h, .int .i64 l] 58
  go_enter Tryz.func130, Tryz.ntmps130
  go_wp2_with
    (with_reducible refine (within_any _ _ _ _).mono ?_; rintro e w1 ⟨rfl, rfl⟩)
  all_goals
    go_ret
    (try go_light)
    (try simp only [bne_iff_ne, ne_eq, bne_eq_false_iff_eq, beq_iff_eq, beq_eq_false_iff_ne, Bool.or_eq_true, Bool.and_eq_true, decide_eq_true_eq, decide_eq_false_iff_not, Bool.or_eq_false_iff, Bool.not_eq_true', Bool.not_eq_false'] at *)
    refine ⟨ret_bool ?_, hF.below⟩
    rw [Bool.eq_iff_iff, highB_iff]
    (try simp [inB])
    (try omega)

set_option maxHeartbeats 400000 in
theorem check_any (k s b h l : Int) (w : World) : Calls Tryz.prog 71 #[.agg #[.int .i64 k, .int .i64 s, .int .i64 b, .int .i64 h, .int .i64 l]] w fun e w' => e = .returned (.int .i64 (chkI k s b h l)) ∧ Below w.heap.size w w' := by
  have hF := (Fr.start w).push w.heap.size rfl [.int .i64 k, .int .i64 s, .int .i64 b, .int .i64 h, .int .i64 l] 58
  have r := hF.rule 0 rfl
  go_enter Tryz.func71, Tryz.ntmps71
  go_wp2_with (first
    |
      (with_reducible refine (within_any _ _ _ _).mono ?_; rintro e w1 ⟨rfl, rfl⟩)
    |
      (with_reducible refine (isKind_any _ _).mono ?_; rintro e w1 ⟨rfl, rfl⟩)
    |
      (with_reducible refine (hasBuckets_any _ _ _ _ _ _).mono ?_; rintro e w1 ⟨rfl, hb⟩; replace hF := hF.over hb; clear hb r; have r := hF.rule 0 rfl)
    |
      (with_reducible refine (hasHeight_any _ _ _ _ _ _).mono ?_; rintro e w1 ⟨rfl, hb⟩; replace hF := hF.over hb; clear hb r; have r := hF.rule 0 rfl)
    )
  all_goals
    go_ret
    (try go_light)
    (try simp only [bne_iff_ne, ne_eq, bne_eq_false_iff_eq, beq_iff_eq, beq_eq_false_iff_ne, Bool.or_eq_true, Bool.and_eq_true, decide_eq_true_eq, decide_eq_false_iff_not, Bool.or_eq_false_iff, Bool.not_eq_true', Bool.not_eq_false'] at *)
    refine ⟨ret_int ?_, hF.below⟩
    simp [chkI, *]
end Go.Proofs.YtnnjanaclgjneaaGreatDoor

/- Threads: contracts of New, To, Mark, Lead. -/
namespace Go.Proofs.YtnnjanaclgjneaaGreatDoor
open Go.RowKit Go.Maps
set_option maxRecDepth 100000


section
variable {w0 w : World} {L : List Item}
set_option maxHeartbeats 1600000 in
theorem newNo_c (k s b h l : Int) (hc : chkI k s b h l ≠ 0) (w : World) :
    Calls Tryz.prog 20 #[.agg #[.int .i64 k, .int .i64 s, .int .i64 b, .int .i64 h, .int .i64 l]] w fun o w' => o = .returned (.pointer none) ∧ Below w.heap.size w w' := by
  have hF := (Fr.start w).push w.heap.size rfl [.int .i64 k, .int .i64 s, .int .i64 b, .int .i64 h, .int .i64 l] 58
  have r := hF.rule 0 rfl
  have hn : (chkI k s b h l != 0) = true := by simpa using hc
  go_enter Tryz.func20, Tryz.ntmps20
  go_wp2_with fail
  refine (check_any k s b h l _).mono ?_
  rintro o w1 ⟨rfl, hb⟩
  replace hF := hF.over hb
  clear hb r
  go_wp2_with fail
  go_ret
  exact ⟨rfl, hF.below⟩

set_option maxHeartbeats 1600000 in
theorem newYes_c (k s b h l : Int) (hc : chkI k s b h l = 0) (hE : Env w0 L w) :
    Calls Tryz.prog 20 #[.agg #[.int .i64 k, .int .i64 s, .int .i64 b, .int .i64 h, .int .i64 l]] w fun o w' => ∃ c q F, o = .returned (.pointer (some ⟨c, 0, none⟩)) ∧ Env w0 (coreI c k s b h l 0 0 0 0 q :: queueI q F [] 2 :: L) w' := by
  have HC := Lib.hid hc
  clear hc
  have hE1 := hE.box w.heap.size rfl [.int .i64 k, .int .i64 s, .int .i64 b, .int .i64 h, .int .i64 l] 58
  clear hE
  have r := hE1.rule 0 rfl
  go_enter Tryz.func20, Tryz.ntmps20
  go_wp2_with fail
  refine (check_any k s b h l _).mono ?_
  rintro o w1 ⟨rfl, hb⟩
  rw [HC.out]
  replace hE1 := hE1.over hb
  clear hb r
  generalize w.heap.size = X at *
  go_wp2_with fail
  refine Ord3.wp_chain [?_, ?_, ?_, ?_, ?_] [1, 2, 3, 4] (fun w' => Blk 0 w' X [.int .i64 k, .int .i64 s, .int .i64 b, .int .i64 h, .int .i64 l]) (Ord3.Stage fun κs => [Env w0 (boxI X [.int .i64 k, .int .i64 s, .int .i64 b, .int .i64 h, .int .i64 l] :: L), fun w' => ∃ q, κs.getD 0 undef = .pointer (some ⟨q, 0, none⟩) ∧ ∃ F, Env w0 (queueI q F [] 2 :: boxI X [.int .i64 k, .int .i64 s, .int .i64 b, .int .i64 h, .int .i64 l] :: L) w', fun w' => ∃ q, κs.getD 1 undef = (.agg #[.int .i64 k, .int .i64 s, .int .i64 b, .int .i64 h, .int .i64 l, .int .i64 0, .int .i64 0, .int .i64 0, .int .i64 0, .pointer (some ⟨q, 0, none⟩)]) ∧ ∃ F, Env w0 (queueI q F [] 2 :: boxI X [.int .i64 k, .int .i64 s, .int .i64 b, .int .i64 h, .int .i64 l] :: L) w', fun w' => ∃ c, κs.getD 2 undef = .pointer (some ⟨c, 0, none⟩) ∧ ∃ q F, Env w0 (coreI c k s b h l 0 0 0 0 q :: queueI q F [] 2 :: boxI X [.int .i64 k, .int .i64 s, .int .i64 b, .int .i64 h, .int .i64 l] :: L) w', fun w' => ∃ c, κs.getD 3 undef = .pointer (some ⟨c, 0, none⟩) ∧ ∃ q F, Env w0 (coreI c k s b h l 0 0 0 0 q :: queueI q F [] 2 :: boxI X [.int .i64 k, .int .i64 s, .int .i64 b, .int .i64 h, .int .i64 l] :: L) w']) (by kernel_rfl) (by kernel_rfl) (by kernel_rfl) (hE1.drew.get 0 rfl) ⟨_, rfl, hE1.drew⟩ (fun hT => ?_)
  rotate_left 5
  have hT9 := Lib.hid hT
  clear hT
  repeat (first
    | (focus (refine Ord3.in_value (v := ?_) hT9.out (by decide) ?_ (by rfl) ?_ ?_; rotate_left 2; (focus (intro w5 hS; have r := Blk.rule hS; go_simp <;> with_reducible rfl)); rotate_right; (focus rfl); (try simp only [Act.put, List.setIfInBounds_toArray, List.set_cons_zero, List.set_cons_succ])))
    | (focus (refine Ord3.in_off hT9.out (by decide) ?_ (by rfl) ?_; (focus rfl); (try simp only [Act.put, List.setIfInBounds_toArray, List.set_cons_zero, List.set_cons_succ]))))
  refine Ord3.in_turn (fun u => ∃ q, u = .pointer (some ⟨q, 0, none⟩)) _ ⟨0, rfl⟩ hT9.out rfl (by decide) (by rfl) ?_ (Or.inl rfl) (by rfl) ?_ ?_
  · rfl
  · rintro w7 hC7 ⟨P7, hP7, hA7⟩
    cases hP7
    go_simp
    simp only [Ord3.Lands]
    refine (newQ_any (xs := []) (A := none) (cap := 0) (by simp) Row3.nil).mono ?_
    rintro o w8 ⟨q8, F8, k8, rfl, hrm, hQ, hb8, hF8⟩
    have hk8 := hrm.unique (Rm.same (by simp))
    subst hk8
    have hE8 := hA7.madeQ hQ hF8 hb8
    exact ⟨_, rfl, ⟨q8, rfl⟩, hE8.get 1 rfl, _, rfl, q8, rfl, F8, hE8⟩
  rintro _ ⟨q9, rfl⟩
  (try simp only [Act.put, List.setIfInBounds_toArray, List.set_cons_zero, List.set_cons_succ])
  refine Ord3.in_turn (fun u => ∃ q, u = (.agg #[.int .i64 k, .int .i64 s, .int .i64 b, .int .i64 h, .int .i64 l, .int .i64 0, .int .i64 0, .int .i64 0, .int .i64 0, .pointer (some ⟨q, 0, none⟩)])) _ ⟨0, rfl⟩ hT9.out rfl (by decide) (by rfl) ?_ (Or.inr ⟨_, 1, [], rfl, by kernel_rfl, by kernel_rfl, rfl⟩) (by rfl) ?_ ?_
  · rfl
  · rintro w7 hC7 ⟨P7, hP7, hA7⟩
    cases hP7
    obtain ⟨q8, he, F8, hA7⟩ := hA7
    cases he
    go_simp
    simp only [Ord3.Lands]
    exact ⟨⟨_, rfl⟩, hC7, _, rfl, q9, rfl, F8, hA7⟩
  rintro _ ⟨q10, rfl⟩
  (try simp only [Act.put, List.setIfInBounds_toArray, List.set_cons_zero, List.set_cons_succ])
  refine Ord3.in_turn (fun u => ∃ c, u = .pointer (some ⟨c, 0, none⟩)) _ ⟨0, rfl⟩ hT9.out rfl (by decide) (by rfl) ?_ (Or.inr ⟨_, 2, [], rfl, by kernel_rfl, by kernel_rfl, rfl⟩) (by rfl) ?_ ?_
  · rfl
  · rintro w7 hC7 ⟨P7, hP7, hA7⟩
    cases hP7
    obtain ⟨q8, he, F8, hA7⟩ := hA7
    cases he
    go_simp
    simp only [Ord3.Lands]
    have hE8 := hA7.box w7.heap.size rfl (crv k s b h l 0 0 0 0 q10) 164
    exact ⟨⟨_, rfl⟩, hE8.get 2 rfl, _, rfl, w7.heap.size, rfl, q10, F8, hE8⟩
  rintro _ ⟨c8, rfl⟩
  (try simp only [Act.put, List.setIfInBounds_toArray, List.set_cons_zero, List.set_cons_succ])
  refine Ord3.in_turn (fun u => ∃ c, u = .pointer (some ⟨c, 0, none⟩)) _ ⟨0, rfl⟩ hT9.out rfl (by decide) (by rfl) ?_ (Or.inr ⟨_, 3, [], rfl, by kernel_rfl, by kernel_rfl, rfl⟩) (by rfl) ?_ ?_
  · rfl
  · rintro w7 hC7 ⟨P7, hP7, hA7⟩
    cases hP7
    obtain ⟨c7, he, q8, F8, hA7⟩ := hA7
    cases he
    go_simp
    simp only [Ord3.Lands]
    exact ⟨⟨_, rfl⟩, hC7, _, rfl, c8, rfl, q8, F8, hA7⟩
  rintro _ ⟨c9, rfl⟩
  (try simp only [Act.put, List.setIfInBounds_toArray, List.set_cons_zero, List.set_cons_succ])
  refine Ord3.in_nil rfl ?_
  rintro w9 hC9 ⟨P9, hP9, hA9⟩
  cases hP9
  obtain ⟨c8, he, q8, F8, hA9⟩ := hA9
  cases he
  clear hT9 hC9
  go_wp2_with fail
  go_ret
  exact ⟨c9, q8, F8, rfl, hA9.sub (.cons_cons _ (.cons_cons _ (.cons _ (List.Sublist.refl _))))⟩
end

section
variable {w : World} {c q : Nat} {k s b h l e r hs hi : Int}
end

set_option maxHeartbeats 1600000 in
theorem lead_c (v d : Int) (t : Bool) (w : World) (hv : InU v) (hg : Glo w) :
    Calls Tryz.prog 205 #[.agg #[.int .u64 v, .int .i64 d, .bool t]] w fun o w' => o = .returned (.agg #[.int .i64 (slotI v), .int .i64 d]) ∧ Below w.heap.size w w' := by
  unfold InU at hv
  have HGB := Lib.hid fun (x : World) (hx : Below w.heap.size w x) => slot_any v x (hg.keep' hx) hv.1 hv.2
  clear hg
  have hF := ((Fr.start w).push w.heap.size rfl [.int .u64 v, .int .i64 d, .bool t] 119).push (w.heap.size + 1) (by simp) [.int .i64 0, .int .i64 0] 116
  have hX := hF.blk 1 rfl (by omega)
  have hZ := hF.blk 0 rfl (by omega)
  have hE := hF.below
  clear hF
  go_enter Tryz.func205, Tryz.ntmps205
  go_wp2_with fail
  refine Ord.wp_chain [6] (fun w' => Below w.heap.size w w' ∧ Blk 0 w' w.heap.size [.int .u64 v, .int .i64 d, .bool t]) (fun j w' => Blk 0 w' (w.heap.size + 1) (if j = 0 then [.int .i64 0, .int .i64 0] else [.int .i64 (slotI v), .int .i64 d])) (by kernel_rfl) (by kernel_rfl) (by kernel_rfl) ⟨hE.drew, hX.drew⟩ hZ.drew (fun hT => ?_)
  have hT9 := Lib.hid hT
  clear hT
  repeat (first
    | (refine Ord.ch_value (v := ?_) hT9.out (by decide) (by rfl) ?_ ?_; rotate_left; (focus (intro w5 hS; have r := Blk.rule hS.2; go_simp <;> with_reducible rfl)); (try simp only [Act.put, List.setIfInBounds_toArray, List.set_cons_zero, List.set_cons_succ]))
    | (refine Ord.ch_off hT9.out (by decide) (by rfl) ?_; (try simp only [Act.put, List.setIfInBounds_toArray, List.set_cons_zero, List.set_cons_succ]))
    | (refine Ord.ch_call (v := ?_) (f := ?_) (args := ?_) hT9.out (by decide) (by rfl) ?_ ?_ ?_; rotate_left 3; (focus (intro w5 hS; have r := Blk.rule hS.2; go_simp; constructor <;> with_reducible rfl)); (focus (intro w5 hS; (first | (with_reducible refine (HGB.out _ hS.1).mono ?_; rintro o w6 ⟨rfl, hb6⟩; constructor; with_reducible rfl; exact ⟨⟨hS.1.trans (hb6.mono hS.1.size), hS.2.under hb6⟩, fun _ h => h.under hb6⟩)))); (try simp only [Act.put, List.setIfInBounds_toArray, List.set_cons_zero, List.set_cons_succ])))
  refine Ord.ch_turn (v := undef) 0 hT9.out rfl (by decide) (Or.inl rfl) (by rfl) ?_ ?_
  · rintro w5 hS hA2
    simp only [if_true] at hA2
    have r := hA2.rule
    have f0 := hA2.thaw 0 (by simp)
    have f1 := hA2.thaw 1 (by simp)
    have hz := hS.1.size
    go_simp
    refine ⟨rfl, ⟨?_, ?_⟩, ?_⟩
    · exact below_set (below_set hS.1 hz (by omega) _) (by simp; omega) (by omega) _
    · exact (hS.2.off (by omega) _).off (by omega) _
    · exact (hA2.set (i := 0) (by simp) _).set (i := 1) (by simp) _
  (try simp only [Act.put, List.setIfInBounds_toArray, List.set_cons_zero, List.set_cons_succ])
  repeat (first
    | (refine Ord.ch_value (v := ?_) hT9.out (by decide) (by rfl) ?_ ?_; rotate_left; (focus (intro w5 hS; skip; go_simp <;> with_reducible rfl)); (try simp only [Act.put, List.setIfInBounds_toArray, List.set_cons_zero, List.set_cons_succ]))
    | (refine Ord.ch_off hT9.out (by decide) (by rfl) ?_; (try simp only [Act.put, List.setIfInBounds_toArray, List.set_cons_zero, List.set_cons_succ])))
  refine Ord.InText.nil fun w5 hS => ?_
  clear hT9
  obtain ⟨hC9, hA9⟩ := Ord.chain_end hS
  clear hS
  have q := hA9.rule
  simp only [show ¬ [6].length = 0 by decide, if_false] at q
  go_wp2
  exact bodyPost_ret (v := .agg #[.int .i64 (slotI v), .int .i64 d]) (by simp [results, Tryz.results205, go_sem, q]) rfl ⟨rfl, hC9.1⟩
end Go.Proofs.YtnnjanaclgjneaaGreatDoor

/- The plain world: contracts of Swap, Peek. -/
namespace Go.Proofs.YtnnjanaclgjneaaGreatDoor
open Go.RowKit Go.Maps
set_option maxRecDepth 100000

section
variable {w0 w : World} {L : List Item} {p c n : Nat} {F : Nat → Prop} {f : Plc → Int} {q : Cnt}
set_option maxHeartbeats 1600000 in
theorem swap_w (x y z d o oe v e : Int) (ob b : Bool) (hx : Wf (x, y, z)) (hv : InU v) (hn : n < maxLen) (i j : Nat) (hij : j ≠ i) (hE : Env w0 L w) (hi : L[i]? = some (wbox p c)) (hj : L[j]? = some (cellI c F f q n)) :
    Calls Tryz.prog 323 #[.pointer (some ⟨p, 0, none⟩), .agg #[.int .i64 x, .int .i64 y, .int .i64 z, .int .i64 d], .agg #[.int .u64 o, .int .i64 oe, .bool ob], .agg #[.int .u64 v, .int .i64 e, .bool b]] w fun e w' => e = .returned (.bool (decide (f (x, y, z) = o))) ∧ ∃ F', Env w0 (L.set j (cellI c F' (swf f (x, y, z) o v) (swq q (decide (f (x, y, z) = o))) (n + 1))) w' := by
  replace hE := (((hE.box w.heap.size rfl [.int .i64 x, .int .i64 y, .int .i64 z, .int .i64 d] 122).box (w.heap.size + 1) (by simp) [.int .u64 o, .int .i64 oe, .bool ob] 119).box (w.heap.size + 1 + 1) (by simp) [.int .u64 v, .int .i64 e, .bool b] 119)
  have hi' : (boxI (w.heap.size + 1 + 1) [.int .u64 v, .int .i64 e, .bool b] :: boxI (w.heap.size + 1) [.int .u64 o, .int .i64 oe, .bool ob] :: boxI (w.heap.size) [.int .i64 x, .int .i64 y, .int .i64 z, .int .i64 d] :: L)[i + 3]? = some (wbox p c) := hi
  have hj' : (boxI (w.heap.size + 1 + 1) [.int .u64 v, .int .i64 e, .bool b] :: boxI (w.heap.size + 1) [.int .u64 o, .int .i64 oe, .bool ob] :: boxI (w.heap.size) [.int .i64 x, .int .i64 y, .int .i64 z, .int .i64 d] :: L)[j + 3]? = some (cellI c F f q n) := hj
  have HX := Lib.hid hx
  clear hx
  go_enter Tryz.func323, Tryz.ntmps323
  go_wp2_with fail
  generalize w.heap.size + 1 + 1 = Z at *
  generalize w.heap.size + 1 = Y at *
  generalize w.heap.size = X at *
  refine Ord.wp_chain [8] (fun w' => Blk 0 w' X [.int .i64 x, .int .i64 y, .int .i64 z, .int .i64 d] ∧ Blk 0 w' Y [.int .u64 o, .int .i64 oe, .bool ob] ∧ Blk 0 w' Z [.int .u64 v, .int .i64 e, .bool b] ∧ Blk 0 w' p [.pointer (some ⟨c, 0, none⟩)]) (Stage [Env w0 (boxI Z [.int .u64 v, .int .i64 e, .bool b] :: boxI Y [.int .u64 o, .int .i64 oe, .bool ob] :: boxI X [.int .i64 x, .int .i64 y, .int .i64 z, .int .i64 d] :: L), fun w' => ∃ F', Env w0 (boxI Z [.int .u64 v, .int .i64 e, .bool b] :: boxI Y [.int .u64 o, .int .i64 oe, .bool ob] :: boxI X [.int .i64 x, .int .i64 y, .int .i64 z, .int .i64 d] :: L.set j (cellI c F' (swf f (x, y, z) o v) (swq q (decide (f (x, y, z) = o))) (n + 1))) w']) (by kernel_rfl) (by kernel_rfl) (by kernel_rfl) ⟨hE.drew.get 2 rfl, hE.drew.get 1 rfl, hE.drew.get 0 rfl, hE.drew.get (i + 3) hi'⟩ ⟨_, rfl, hE.drew⟩ (fun hT => ?_)
  have hT9 := Lib.hid hT
  clear hT
  repeat (first
    | (refine Ord.ch_value (v := ?_) hT9.out (by decide) (by rfl) ?_ ?_; rotate_left; (focus (intro w5 hS; have r0 := hS.1.rule; have r1 := hS.2.1.rule; have r2 := hS.2.2.1.rule; go_simp <;> with_reducible rfl)); (try simp only [Act.put, List.setIfInBounds_toArray, List.set_cons_zero, List.set_cons_succ]))
    | (refine Ord.ch_off hT9.out (by decide) (by rfl) ?_; (try simp only [Act.put, List.setIfInBounds_toArray, List.set_cons_zero, List.set_cons_succ]))
    | (refine Ord.ch_call (v := ?_) (f := ?_) (args := ?_) hT9.out (by decide) (by rfl) ?_ ?_ ?_; rotate_left 3; (focus (intro w5 hS; have r0 := hS.1.rule; have r1 := hS.2.1.rule; have r2 := hS.2.2.1.rule; go_simp; constructor <;> with_reducible rfl)); (focus (intro w5 hS; (first | (with_reducible refine (kept_any hS.2.2.2).mono ?_; rintro e w6 ⟨rfl, rfl⟩; constructor; with_reducible rfl; exact ⟨hS, fun _ h => h⟩)))); (try simp only [Act.put, List.setIfInBounds_toArray, List.set_cons_zero, List.set_cons_succ])))
  refine Ord.ch_turn (v := .bool (decide (f (x, y, z) = o))) 0 hT9.out rfl (by decide) (Or.inl rfl) (by rfl) ?_ ?_
  · rintro w5 hC5 ⟨P5, hP5, hA5⟩
    cases hP5
    go_simp
    simp only [Ord.LandsIn]
    refine (swap_any x y z o v HX.out hv hn (hA5.cell (j + 3) hj')).mono ?_
    rintro e w6 ⟨rfl, F6, hC, hs⟩
    have hE6 := hA5.turn (j + 3) hj' hC hs
    exact ⟨rfl, ⟨hE6.get 2 rfl, hE6.get 1 rfl, hE6.get 0 rfl, hE6.get (i + 3) (wset (j := j + 3) (by omega) hi')⟩, _, rfl, F6, hE6⟩
  (try simp only [Act.put, List.setIfInBounds_toArray, List.set_cons_zero, List.set_cons_succ])
  repeat (first
    | (refine Ord.ch_value (v := ?_) hT9.out (by decide) (by rfl) ?_ ?_; rotate_left; (focus (intro w5 hS; skip; go_simp <;> with_reducible rfl)); (try simp only [Act.put, List.setIfInBounds_toArray, List.set_cons_zero, List.set_cons_succ]))
    | (refine Ord.ch_off hT9.out (by decide) (by rfl) ?_; (try simp only [Act.put, List.setIfInBounds_toArray, List.set_cons_zero, List.set_cons_succ])))
  refine Ord.InText.nil fun w5 hS => ?_
  clear hT9
  obtain ⟨hC9, hA9⟩ := Ord.chain_end hS
  clear hS
  obtain ⟨P9, hP9, hA9⟩ := hA9
  cases hP9
  obtain ⟨F9, hA9⟩ := hA9
  clear hC9
  go_wp2
  go_ret
  exact ⟨rfl, F9, hA9.sub (.cons _ (.cons _ (.cons _ (List.Sublist.refl _))))⟩
end
end Go.Proofs.YtnnjanaclgjneaaGreatDoor

/- A thread's things and the world's, in an order; makeFunc. General. -/
namespace Go.Proofs.YtnnjanaclgjneaaGreatDoor
open Go.RowKit Go.Maps
set_option maxRecDepth 100000

/-- A thread's things, and the world's. -/
structure ST where
  (c q p cc : Nat)
  (ck cs cb ch cl ce cr hs : Int)
  (F : Nat → Prop)
  (ql : List Trip)
  (kq : Nat)
  (G : Nat → Prop)
  (f : Plc → Int)
  (qc : Cnt)
  (m : Nat)
def LT (S : ST) (R : List Item) : List Item := coreI S.c S.ck S.cs S.cb S.ch S.cl S.ce S.cr S.hs 0 S.q :: queueI S.q S.F S.ql S.kq :: wbox S.p S.cc :: cellI S.cc S.G S.f S.qc S.m :: R
theorem slot_of (v : World) (a b : Int) : (Instr.field 116 (.agg #[.int .i64 a, .int .i64 b]) 0).run Tryz.prog v = .ok (.int .i64 a) v := by kernel_rfl
theorem makeF (fn : Fn) (first cap : Array Value) (w : World) : (Instr.makeFunc fn first cap).run Tryz.prog w = .ok (.func fn first cap) w := rfl
end Go.Proofs.YtnnjanaclgjneaaGreatDoor

/- The plain world behind its interface: which methods. General. -/
namespace Go.Proofs.YtnnjanaclgjneaaGreatDoor
open Go.RowKit Go.Maps
set_option maxRecDepth 100000

theorem method_swap (k p : Nat) (w : World) : (method (k + 1) 26 (.pointer (some ⟨p, 0, none⟩)) "Swap").run Tryz.prog w = .ok (323, .pointer (some ⟨p, 0, none⟩)) w := by kernel_rfl

theorem ahead_swap (k p : Nat) (w : World) : (nilAhead (k + 1) 26 (.pointer (some ⟨p, 0, none⟩)) "Swap").run Tryz.prog w = .ok (some false) w := by kernel_rfl
theorem ahead_load (k p : Nat) (w : World) : (nilAhead (k + 1) 26 (.pointer (some ⟨p, 0, none⟩)) "Load").run Tryz.prog w = .ok (some false) w := by kernel_rfl
/-- One of three. -/
def pick3 {α : Type _} (a b c : α) : Nat → α
  | 0 => a
  | 1 => b
  | _ => c
theorem wrapU (x : Int) (h0 : 0 ≤ x) (h1 : x ≤ 18446744073709551615) : IntKind.u64.wrap x = x := by
  rw [IntKind.wrap_u64]
  exact Int.emod_eq_of_lt h0 (by omega)
end Go.Proofs.YtnnjanaclgjneaaGreatDoor

/- Machines' rows: which one is next; how they end; a step of theirs; what is played. -/
namespace Go.Proofs.YtnnjanaclgjneaaGreatDoor
open Go.RowKit Go.Maps
set_option maxRecDepth 100000

/-- A method value. -/
def mvL (f a : Nat) : Value := .func (.func f) #[.pointer (some ⟨a, 0, none⟩)] #[]
section
variable {w0 w : World} {L : List Item} {a o : Nat} {vs : List Value}
set_option maxHeartbeats 800000 in
theorem goOn_r (m : Nat) (fn : Fn) (fs cs : Array Value) (hv : o < vs.length) (hE : Env w0 L w) (hm : L[m]? = some (boxI a vs)) :
    Calls Tryz.prog 95 #[.pointer (some ⟨a, o, none⟩), .func fn fs cs] w fun r w' => r = .returned (.int .i64 0) ∧ Env w0 (L.set m (boxI a (vs.set o (.func fn fs cs)))) w' := by
  have f1 := hE.thaw m hm o hv
  have r1 : ∃ u, w.cell? ⟨a, o, none⟩ = some u := ⟨_, (hE.rule m hm o).trans (List.getElem?_eq_getElem hv)⟩
  obtain ⟨u1, r1⟩ := r1
  have hP := hE.put m hm (j := o) hv (.func fn fs cs)
  clear hv hm hE
  go_enter Tryz.func95, Tryz.ntmps95
  go_wp2_with fail
  go_ret
  exact ⟨rfl, hP⟩
set_option maxHeartbeats 800000 in
theorem end_r (m : Nat) (s : Int) (hv : o + 1 < vs.length) (hE : Env w0 L w) (hm : L[m]? = some (boxI a vs)) :
    Calls Tryz.prog 195 #[.pointer (some ⟨a, o, none⟩), .int .i64 s] w fun r w' => r = .returned (.int .i64 s) ∧ Env w0 (L.set m (boxI a (vs.set (o + 1) (.int .i64 s)))) w' := by
  have f1 := hE.thaw m hm (o + 1) hv
  have r1 : ∃ u, w.cell? ⟨a, o + 1, none⟩ = some u := ⟨_, (hE.rule m hm (o + 1)).trans (List.getElem?_eq_getElem hv)⟩
  obtain ⟨u1, r1⟩ := r1
  have hP := hE.put m hm (j := o + 1) hv (.int .i64 s)
  clear hv hm hE
  go_enter Tryz.func195, Tryz.ntmps195
  go_wp2_with fail
  go_ret
  exact ⟨rfl, hP⟩
theorem caught_r (w : World) : CallsD Tryz.prog 133 #[] .returning w fun e u' w' => u' = .returning ∧ e = .returned (.tuple #[]) ∧ w' = w := by
  refine callsD_of_wpS Tryz.func133 rfl fun c₀ cs hu => ?_
  apply wpS_region
  cases c₀
  simp_all [wpOpsS, go_sem, recoverD, Tryz.ntmps133, Exit.thenS, bodyPostS, results, Tryz.results133]
set_option maxHeartbeats 800000 in
theorem stepMv_r (X : Nat) (hx : ∀ (ar : Array Value) (v : World), (callFunc X ar).run Tryz.prog v = .ok (.enter X ar) v) (r u : Value) (Q : Ending → World → Prop) (hn : w.cell? ⟨a, o, none⟩ = some (.func (.func X) #[r] #[])) (hs : w.cell? ⟨a, o + 1, none⟩ = some (.int .i64 0)) (hc : Calls Tryz.prog X #[r, u] w fun e w' => ∃ s, e = .returned (.int .i64 s) ∧ Q (.returned (.int .i64 s)) w') :
    Calls Tryz.prog 77 #[.pointer (some ⟨a, o, none⟩), u] w Q := by
  have hmf := makeF
  go_enter_defers Tryz.func77, Tryz.ntmps77
  go_wp2_with fail
  refine hc.mono ?_
  rintro e w1 ⟨s, rfl, hQ⟩
  go_wp2_with fail
  refine leaves_cons (f := 133) (args := #[]) (by simp) (by simp [go_sem]) ?_
  refine (caught_r _).mono ?_
  rintro e u' w'' ⟨rfl, rfl, rfl⟩
  exact ⟨.int .i64 s, by simp [results, Tryz.results77, go_sem], hQ⟩
set_option maxHeartbeats 800000 in
theorem stepCv_r (X b1 b2 : Nat) (hx : ∀ (ar : Array Value) (v : World), (callFunc X ar).run Tryz.prog v = .ok (.enter X ar) v) (u : Value) (Q : Ending → World → Prop) (hn : w.cell? ⟨a, o, none⟩ = some (.func (.func X) #[] #[.pointer (some ⟨b1, 0, none⟩), .pointer (some ⟨b2, 0, none⟩)])) (hs : w.cell? ⟨a, o + 1, none⟩ = some (.int .i64 0)) (hc : Calls Tryz.prog X #[u, .pointer (some ⟨b1, 0, none⟩), .pointer (some ⟨b2, 0, none⟩)] w fun e w' => ∃ s, e = .returned (.int .i64 s) ∧ Q (.returned (.int .i64 s)) w') :
    Calls Tryz.prog 77 #[.pointer (some ⟨a, o, none⟩), u] w Q := by
  have hmf := makeF
  go_enter_defers Tryz.func77, Tryz.ntmps77
  go_wp2_with fail
  refine hc.mono ?_
  rintro e w1 ⟨s, rfl, hQ⟩
  go_wp2_with fail
  refine leaves_cons (f := 133) (args := #[]) (by simp) (by simp [go_sem]) ?_
  refine (caught_r _).mono ?_
  rintro e u' w'' ⟨rfl, rfl, rfl⟩
  exact ⟨.int .i64 s, by simp [results, Tryz.results77, go_sem], hQ⟩
/-- The row that is next of a machine that begins with its thread, as a box's second and third cell. -/
theorem goOn_m (m : Nat) (fn : Fn) (fs cs : Array Value) (hv : 1 < vs.length) (hz : vs[2]? = some (.int .i64 0)) (hE : Env w0 L w) (hm : L[m]? = some (boxI a vs)) :
    Calls Tryz.prog 95 #[.pointer (some ⟨a, 1, none⟩), .func fn fs cs] w fun o w' => o = .returned (.int .i64 0) ∧ Env w0 (L.set m (boxI a ((vs.set 1 (.func fn fs cs)).set 2 (.int .i64 0)))) w' := by
  refine (goOn_r (o := 1) m fn fs cs hv hE hm).mono ?_
  rintro o w1 ⟨rfl, h⟩
  have h2 : (vs.set 1 (.func fn fs cs)).set 2 (.int .i64 0) = vs.set 1 (.func fn fs cs) := by
    apply List.ext_getElem?
    intro i
    by_cases hi : i = 2
    · subst hi
      have hl : 2 < vs.length := (List.getElem?_eq_some_iff.1 hz).1
      rw [List.getElem?_set_self (by rw [List.length_set]; exact hl), List.getElem?_set_ne (by decide), hz]
    · rw [List.getElem?_set_ne (fun e => hi e.symm)]
  rw [h2]
  exact ⟨rfl, h⟩
theorem end_m (m : Nat) (s : Int) (hv : 2 < vs.length) (hE : Env w0 L w) (hm : L[m]? = some (boxI a vs)) :
    Calls Tryz.prog 195 #[.pointer (some ⟨a, 1, none⟩), .int .i64 s] w fun o w' => o = .returned (.int .i64 s) ∧ ∃ nx : Value × Value, Env w0 (L.set m (boxI a ((vs.set 1 nx.1).set 2 nx.2))) w' := by
  refine (end_r (o := 1) m s hv hE hm).mono ?_
  rintro o w1 ⟨rfl, h⟩
  refine ⟨rfl, (vs[1], .int .i64 s), ?_⟩
  show Env w0 (L.set m (boxI a ((vs.set 1 vs[1]).set 2 (.int .i64 s)))) w1
  rw [List.set_getElem_self]
  exact h
end
end Go.Proofs.YtnnjanaclgjneaaGreatDoor

/- Contracts of the functions of layer 2. -/
namespace Go.Proofs.YtnnjanaclgjneaaGreatDoor
open Go.RowKit
set_option maxRecDepth 100000

set_option maxHeartbeats 400000 in
theorem isMarked_any (x : Int) (w : World) (hg : Glo w) (h0 : 0 ≤ x) (h1 : x ≤ 18446744073709551615) :
    Calls Tryz.prog 67 #[.int .u64 x] w fun e w' => e = .returned (.bool (markB x)) ∧ Below w.heap.size w w' := by
  obtain ⟨-, -, ⟨c0, c1⟩, -, -, hs⟩ := hg
  have HG := Lib.hid (mark_one x h0 h1)
  go_enter Tryz.func67, Tryz.ntmps67
  go_wp2_with fail
  refine (get_any 63 1 x _ (by decide) (by decide) h0 h1).mono ?_
  rintro e w1 ⟨rfl, hb⟩
  generalize getI 63 1 x = y at *
  go_wp2
  go_ret
  exact ⟨ret_bool (by rw [← HG.out]; rfl), hb⟩

end Go.Proofs.YtnnjanaclgjneaaGreatDoor

/- Contracts of layer 5: a slot's place. -/
namespace Go.Proofs.YtnnjanaclgjneaaGreatDoor
open Go.RowKit
set_option maxRecDepth 100000

set_option maxHeartbeats 400000 in
theorem placeOf_any (y z : Int) (w : World) : Calls Tryz.prog 66 #[.int .i64 y, .int .i64 z] w fun e w' => e = .returned (.agg #[.int .i64 5, .int .i64 y, .int .i64 z]) ∧ Below w.heap.size w w' := by
  go_enter Tryz.func66, Tryz.ntmps66
  go_wp2
  exact bodyPost_ret (v := .agg #[.int .i64 5, .int .i64 y, .int .i64 z]) (by simp [results, Tryz.results66, go_sem]) rfl ⟨rfl, (Below.refl _ _).alloc (Nat.le_refl _) _⟩
end Go.Proofs.YtnnjanaclgjneaaGreatDoor

/- Contracts of the functions of layer 5: places that are made, and whether a place could be. -/
namespace Go.Proofs.YtnnjanaclgjneaaGreatDoor
open Go.RowKit
set_option maxRecDepth 100000

set_option maxHeartbeats 400000 in
theorem link_any (y m : Int) (w : World) : Calls Tryz.prog 65 #[.int .i64 y, .int .i64 m] w fun e w' => e = .returned (.agg #[.int .i64 5, .int .i64 y, .int .i64 (wrap64 (7 + m))]) ∧ Below w.heap.size w w' := by
  have hF := (Fr.start w).push w.heap.size rfl [.int .i64 0, .int .i64 0, .int .i64 0] 105
  go_enter Tryz.func65, Tryz.ntmps65
  go_wp2_with fail
  refine (placeOf_any _ _ _).mono ?_
  rintro e w1 ⟨rfl, hb⟩
  replace hF := hF.over hb
  have r := hF.rule 0 rfl
  have f := hF.thaw 0 rfl (Nat.le_refl _)
  go_wp2
  have hP := hF.put3 (Nat.le_refl _) (fun x hx => by cases hx) (.int .i64 5) (.int .i64 y) (.int .i64 (wrap64 (7 + m)))
  have q := hP.rule 0 rfl
  exact bodyPost_ret (v := .agg #[.int .i64 5, .int .i64 y, .int .i64 (wrap64 (7 + m))]) (by simp [results, Tryz.results65, go_sem, q]) rfl ⟨rfl, hP.below⟩
end Go.Proofs.YtnnjanaclgjneaaGreatDoor

/- Contracts of layer 5: places that are made, of few functions: Root. -/
namespace Go.Proofs.YtnnjanaclgjneaaGreatDoor
open Go.RowKit
set_option maxRecDepth 100000

set_option maxHeartbeats 400000 in
theorem root_any (z : Int) (w : World) : Calls Tryz.prog 63 #[.int .i64 z] w fun e w' => e = .returned (.agg #[.int .i64 4, .int .i64 0, .int .i64 z]) ∧ Below w.heap.size w w' := by
  go_enter Tryz.func63, Tryz.ntmps63
  go_wp2
  exact bodyPost_ret (v := .agg #[.int .i64 4, .int .i64 0, .int .i64 z]) (by simp [results, Tryz.results63, go_sem]) rfl ⟨rfl, (Below.refl _ _).alloc (Nat.le_refl _) _⟩
end Go.Proofs.YtnnjanaclgjneaaGreatDoor

/- Lanes: what they are in memory; their small functions. -/
namespace Go.Proofs.YtnnjanaclgjneaaGreatDoor
open Go.RowKit Go.Maps
set_option maxRecDepth 100000

/-- A lane's cells. -/
def laneC (c : Nat) (lv key : Int) (vs : Bool) (nx : Value) (st x y z W C X wd : Int) (pf : Bool) (pv : Int) : List Value :=
  [.pointer (some ⟨c, 0, none⟩), .int .i64 lv, .int .u64 key, .bool vs, nx, .int .i64 st, .int .i64 x, .int .i64 y, .int .i64 z, .int .i64 0, .int .u64 W, .int .i64 0, .bool false, .int .i64 C, .int .i64 0, .int .u64 X, .int .i64 0, .bool false, .int .u64 wd, .bool pf, .int .u64 pv]
/-- The closure that validates. -/
def cvL (b1 b2 : Nat) : Value := .func (.func 261) #[] #[.pointer (some ⟨b1, 0, none⟩), .pointer (some ⟨b2, 0, none⟩)]

section
variable {w : World} {a c : Nat} {lv key : Int} {vs : Bool} {nx : Value} {st x y z W C X wd : Int} {pf : Bool} {pv : Int}

set_option maxHeartbeats 1600000 in
theorem part_l (n : Int) (hb : Blk 0 w a (laneC c lv key vs nx st x y z W C X wd pf pv)) : Calls Tryz.prog 297 #[.pointer (some ⟨a, 0, none⟩), .int .i64 n] w fun e w' => e = .returned (.agg #[.int .i64 5, .int .i64 C, .int .i64 n, .int .i64 0]) ∧ Below w.heap.size w w' := by
  have hal := hb.1
  have hX := hb.more (.cells [.int .i64 0, .int .i64 0, .int .i64 0, .int .i64 0].toArray 122)
  have hZ := Blk.new 0 w [.int .i64 0, .int .i64 0, .int .i64 0, .int .i64 0] 122
  have hE := (Below.refl w.heap.size w).alloc (Nat.le_refl _) (.cells [.int .i64 0, .int .i64 0, .int .i64 0, .int .i64 0].toArray 122)
  clear hb
  go_enter Tryz.func297, Tryz.ntmps297
  go_wp2_with fail
  refine Ord.wp_chain [13] (fun w' => Below w.heap.size w w' ∧ Blk 0 w' a (laneC c lv key vs nx st x y z W C X wd pf pv)) (fun j w' => Blk 0 w' w.heap.size (if j = 0 then [.int .i64 0, .int .i64 0, .int .i64 0, .int .i64 0] else [.int .i64 5, .int .i64 C, .int .i64 n, .int .i64 0])) (by kernel_rfl) (by kernel_rfl) (by kernel_rfl) ⟨hE.drew, hX.drew⟩ hZ.drew (fun hT => ?_)
  have hT9 := Lib.hid hT
  clear hT
  repeat (first
    | (refine Ord.ch_value (v := ?_) hT9.out (by decide) (by rfl) ?_ ?_; rotate_left; (focus (intro w5 hS; have r := Blk.rule hS.2; unfold laneC at r; go_simp <;> with_reducible rfl)); (try simp only [Act.put, List.setIfInBounds_toArray, List.set_cons_zero, List.set_cons_succ]))
    | (refine Ord.ch_off hT9.out (by decide) (by rfl) ?_; (try simp only [Act.put, List.setIfInBounds_toArray, List.set_cons_zero, List.set_cons_succ]))
    | (refine Ord.ch_call (v := ?_) (f := ?_) (args := ?_) hT9.out (by decide) (by rfl) ?_ ?_ ?_; rotate_left 3; (focus (intro w5 hS; have r := Blk.rule hS.2; unfold laneC at r; go_simp; constructor <;> with_reducible rfl)); (focus (intro w5 hS; (first | (with_reducible refine (placeOf_any _ _ _).mono ?_; rintro o w6 ⟨rfl, hb6⟩; constructor; with_reducible rfl; exact ⟨⟨hS.1.trans (hb6.mono hS.1.size), hS.2.under hb6⟩, fun _ h => h.under hb6⟩)))); (try simp only [Act.put, List.setIfInBounds_toArray, List.set_cons_zero, List.set_cons_succ])))
  refine Ord.ch_turn (v := undef) 0 hT9.out rfl (by decide) (Or.inl rfl) (by rfl) ?_ ?_
  · rintro w5 hS hA2
    simp only [if_true] at hA2
    have r := hA2.rule
    have f0 := hA2.thaw 0 (by simp)
    have f1 := hA2.thaw 1 (by simp)
    have f2 := hA2.thaw 2 (by simp)
    have f3 := hA2.thaw 3 (by simp)
    have hz := hS.1.size
    go_simp
    refine ⟨rfl, ⟨?_, ?_⟩, ?_⟩
    · exact below_set (below_set (below_set (below_set hS.1 hz (by omega) _) (by simp; omega) (by omega) _) (by simp; omega) (by omega) _) (by simp; omega) (by omega) _
    · exact (((hS.2.off (by omega) _).off (by omega) _).off (by omega) _).off (by omega) _
    · exact (((hA2.set (i := 0) (by simp) _).set (i := 1) (by simp) _).set (i := 2) (by simp) _).set (i := 3) (by simp) _
  (try simp only [Act.put, List.setIfInBounds_toArray, List.set_cons_zero, List.set_cons_succ])
  repeat (first
    | (refine Ord.ch_value (v := ?_) hT9.out (by decide) (by rfl) ?_ ?_; rotate_left; (focus (intro w5 hS; skip; go_simp <;> with_reducible rfl)); (try simp only [Act.put, List.setIfInBounds_toArray, List.set_cons_zero, List.set_cons_succ]))
    | (refine Ord.ch_off hT9.out (by decide) (by rfl) ?_; (try simp only [Act.put, List.setIfInBounds_toArray, List.set_cons_zero, List.set_cons_succ])))
  refine Ord.InText.nil fun w5 hS => ?_
  clear hT9
  obtain ⟨hC9, hA9⟩ := Ord.chain_end hS
  clear hS
  have q := hA9.rule
  simp only [show ¬ [13].length = 0 by decide, if_false] at q
  go_wp2
  exact bodyPost_ret (v := .agg #[.int .i64 5, .int .i64 C, .int .i64 n, .int .i64 0]) (by simp [results, Tryz.results297, go_sem, q]) rfl ⟨rfl, hC9.1⟩

set_option maxHeartbeats 1600000 in
theorem nextLink_l (hlv : 0 ≤ lv ∧ lv ≤ 1000000) (hb : Blk 0 w a (laneC c lv key vs nx st x y z W C X wd pf pv)) : Calls Tryz.prog 281 #[.pointer (some ⟨a, 0, none⟩)] w fun e w' => e = .returned (.agg #[.int .i64 5, .int .i64 C, .int .i64 (7 + lv), .int .i64 0]) ∧ Below w.heap.size w w' := by
  have hal := hb.1
  have hX := hb.more (.cells [.int .i64 0, .int .i64 0, .int .i64 0, .int .i64 0].toArray 122)
  have hZ := Blk.new 0 w [.int .i64 0, .int .i64 0, .int .i64 0, .int .i64 0] 122
  have hE := (Below.refl w.heap.size w).alloc (Nat.le_refl _) (.cells [.int .i64 0, .int .i64 0, .int .i64 0, .int .i64 0].toArray 122)
  clear hb
  have HLK : Hid (∀ v, Calls Tryz.prog 65 #[.int .i64 C, .int .i64 lv] v fun e w' => e = .returned (.agg #[.int .i64 5, .int .i64 C, .int .i64 (7 + lv)]) ∧ Below v.heap.size v w') := Lib.hid fun v => by
    have := link_any C lv v
    rwa [w64 (7 + lv) (by omega)] at this
  clear hlv
  go_enter Tryz.func281, Tryz.ntmps281
  go_wp2_with fail
  refine Ord.wp_chain [16] (fun w' => Below w.heap.size w w' ∧ Blk 0 w' a (laneC c lv key vs nx st x y z W C X wd pf pv)) (fun j w' => Blk 0 w' w.heap.size (if j = 0 then [.int .i64 0, .int .i64 0, .int .i64 0, .int .i64 0] else [.int .i64 5, .int .i64 C, .int .i64 (7 + lv), .int .i64 0])) (by kernel_rfl) (by kernel_rfl) (by kernel_rfl) ⟨hE.drew, hX.drew⟩ hZ.drew (fun hT => ?_)
  have hT9 := Lib.hid hT
  clear hT
  repeat (first
    | (refine Ord.ch_value (v := ?_) hT9.out (by decide) (by rfl) ?_ ?_; rotate_left; (focus (intro w5 hS; have r := Blk.rule hS.2; unfold laneC at r; go_simp <;> with_reducible rfl)); (try simp only [Act.put, List.setIfInBounds_toArray, List.set_cons_zero, List.set_cons_succ]))
    | (refine Ord.ch_off hT9.out (by decide) (by rfl) ?_; (try simp only [Act.put, List.setIfInBounds_toArray, List.set_cons_zero, List.set_cons_succ]))
    | (refine Ord.ch_call (v := ?_) (f := ?_) (args := ?_) hT9.out (by decide) (by rfl) ?_ ?_ ?_; rotate_left 3; (focus (intro w5 hS; have r := Blk.rule hS.2; unfold laneC at r; go_simp; constructor <;> with_reducible rfl)); (focus (intro w5 hS; (first | (with_reducible refine (HLK.out _).mono ?_; rintro o w6 ⟨rfl, hb6⟩; constructor; with_reducible rfl; exact ⟨⟨hS.1.trans (hb6.mono hS.1.size), hS.2.under hb6⟩, fun _ h => h.under hb6⟩)))); (try simp only [Act.put, List.setIfInBounds_toArray, List.set_cons_zero, List.set_cons_succ])))
  refine Ord.ch_turn (v := undef) 0 hT9.out rfl (by decide) (Or.inl rfl) (by rfl) ?_ ?_
  · rintro w5 hS hA2
    simp only [if_true] at hA2
    have r := hA2.rule
    have f0 := hA2.thaw 0 (by simp)
    have f1 := hA2.thaw 1 (by simp)
    have f2 := hA2.thaw 2 (by simp)
    have f3 := hA2.thaw 3 (by simp)
    have hz := hS.1.size
    go_simp
    refine ⟨rfl, ⟨?_, ?_⟩, ?_⟩
    · exact below_set (below_set (below_set (below_set hS.1 hz (by omega) _) (by simp; omega) (by omega) _) (by simp; omega) (by omega) _) (by simp; omega) (by omega) _
    · exact (((hS.2.off (by omega) _).off (by omega) _).off (by omega) _).off (by omega) _
    · exact (((hA2.set (i := 0) (by simp) _).set (i := 1) (by simp) _).set (i := 2) (by simp) _).set (i := 3) (by simp) _
  (try simp only [Act.put, List.setIfInBounds_toArray, List.set_cons_zero, List.set_cons_succ])
  repeat (first
    | (refine Ord.ch_value (v := ?_) hT9.out (by decide) (by rfl) ?_ ?_; rotate_left; (focus (intro w5 hS; skip; go_simp <;> with_reducible rfl)); (try simp only [Act.put, List.setIfInBounds_toArray, List.set_cons_zero, List.set_cons_succ]))
    | (refine Ord.ch_off hT9.out (by decide) (by rfl) ?_; (try simp only [Act.put, List.setIfInBounds_toArray, List.set_cons_zero, List.set_cons_succ])))
  refine Ord.InText.nil fun w5 hS => ?_
  clear hT9
  obtain ⟨hC9, hA9⟩ := Ord.chain_end hS
  clear hS
  have q := hA9.rule
  simp only [show ¬ [16].length = 0 by decide, if_false] at q
  go_wp2
  exact bodyPost_ret (v := .agg #[.int .i64 5, .int .i64 C, .int .i64 (7 + lv), .int .i64 0]) (by simp [results, Tryz.results281, go_sem, q]) rfl ⟨rfl, hC9.1⟩

end

section
variable {w0 w : World} {L : List Item} {a : Nat} {vs : List Value}
theorem goOn_l (m : Nat) (fn : Fn) (fs cs : Array Value) (hv : 4 < vs.length) (hE : Env w0 L w) (hm : L[m]? = some (boxI a vs)) :
    Calls Tryz.prog 95 #[.pointer (some ⟨a, 4, none⟩), .func fn fs cs] w fun o w' => o = .returned (.int .i64 0) ∧ Env w0 (L.set m (boxI a (vs.set 4 (.func fn fs cs)))) w' := goOn_r (o := 4) m fn fs cs hv hE hm
theorem end_l (m : Nat) (s : Int) (hv : 5 < vs.length) (hE : Env w0 L w) (hm : L[m]? = some (boxI a vs)) :
    Calls Tryz.prog 195 #[.pointer (some ⟨a, 4, none⟩), .int .i64 s] w fun o w' => o = .returned (.int .i64 s) ∧ ∃ nx, Env w0 (L.set m (boxI a ((vs.set 5 (.int .i64 s)).set 4 nx))) w' := by
  refine (end_r (o := 4) m s hv hE hm).mono ?_
  rintro o w1 ⟨rfl, h⟩
  refine ⟨rfl, vs[4], ?_⟩
  have h4 : (vs.set 5 (.int .i64 s)).set 4 vs[4] = vs.set 5 (.int .i64 s) := by
    apply List.ext_getElem?
    intro i
    by_cases hi : i = 4
    · subst hi
      rw [List.getElem?_set_self (by rw [List.length_set]; omega), List.getElem?_set_ne (by decide), List.getElem?_eq_getElem]
    · rw [List.getElem?_set_ne (fun e => hi e.symm)]
  rw [h4]
  exact h
set_option maxHeartbeats 1600000 in
theorem validate_l (fn : Fn) (fs cs : Array Value) (hv : 4 < vs.length) (hE : Env w0 (boxI a vs :: L) w) :
    Calls Tryz.prog 242 #[.pointer (some ⟨a, 0, none⟩), .func fn fs cs] w fun o w' => o = .returned (.int .i64 0) ∧ ∃ b1 b2, Env w0 (boxI a (vs.set 4 (cvL b1 b2)) :: boxI b1 [.pointer (some ⟨a, 0, none⟩)] :: boxI b2 [.func fn fs cs] :: L) w' := by
  have hmf := makeF
  have hE1 := (hE.box w.heap.size rfl [.pointer (some ⟨a, 0, none⟩)] 204).box (w.heap.size + 1) (by simp) [.func fn fs cs] 193
  have r0 := hE1.rule 1 rfl
  go_enter Tryz.func242, Tryz.ntmps242
  go_wp2_with fail
  refine (goOn_l 2 _ _ _ hv hE1 rfl).mono ?_
  rintro o w1 ⟨rfl, hE2⟩
  go_wp2_with fail
  go_ret
  refine ⟨rfl, w.heap.size, w.heap.size + 1, ?_⟩
  exact hE2.perm (List.reverse_perm [_, _, _] |>.append_right L)
set_option maxHeartbeats 800000 in
theorem stepMv_l (X : Nat) (hx : ∀ (ar : Array Value) (v : World), (callFunc X ar).run Tryz.prog v = .ok (.enter X ar) v) (u : Value) (Q : Ending → World → Prop) (hn : w.cell? ⟨a, 4, none⟩ = some (mvL X a)) (hs : w.cell? ⟨a, 5, none⟩ = some (.int .i64 0)) (hc : Calls Tryz.prog X #[.pointer (some ⟨a, 0, none⟩), u] w fun e w' => ∃ s, e = .returned (.int .i64 s) ∧ Q (.returned (.int .i64 s)) w') :
    Calls Tryz.prog 181 #[.pointer (some ⟨a, 0, none⟩), u] w Q := by
  have HST := Lib.hid (stepMv_r (o := 4) X hx (.pointer (some ⟨a, 0, none⟩)) u (fun o w' => ∃ s, o = .returned (.int .i64 s) ∧ Q (.returned (.int .i64 s)) w') hn hs (hc.mono fun e w' ⟨s, he, hq⟩ => ⟨s, he, s, rfl, hq⟩))
  clear hn hs hc
  go_enter Tryz.func181, Tryz.ntmps181
  go_wp2_with fail
  refine HST.out.mono ?_
  rintro o w1 ⟨s, rfl, hQ⟩
  go_wp2_with fail
  exact hQ
set_option maxHeartbeats 800000 in
theorem stepCv_l (b1 b2 : Nat) (u : Value) (Q : Ending → World → Prop) (hn : w.cell? ⟨a, 4, none⟩ = some (cvL b1 b2)) (hs : w.cell? ⟨a, 5, none⟩ = some (.int .i64 0)) (hc : Calls Tryz.prog 261 #[u, .pointer (some ⟨b1, 0, none⟩), .pointer (some ⟨b2, 0, none⟩)] w fun e w' => ∃ s, e = .returned (.int .i64 s) ∧ Q (.returned (.int .i64 s)) w') :
    Calls Tryz.prog 181 #[.pointer (some ⟨a, 0, none⟩), u] w Q := by
  have HST := Lib.hid (stepCv_r (o := 4) 261 b1 b2 (fun _ _ => by kernel_rfl) u (fun o w' => ∃ s, o = .returned (.int .i64 s) ∧ Q (.returned (.int .i64 s)) w') hn hs (hc.mono fun e w' ⟨s, he, hq⟩ => ⟨s, he, s, rfl, hq⟩))
  clear hn hs hc
  go_enter Tryz.func181, Tryz.ntmps181
  go_wp2_with fail
  refine HST.out.mono ?_
  rintro o w1 ⟨s, rfl, hQ⟩
  go_wp2_with fail
  exact hQ
end
end Go.Proofs.YtnnjanaclgjneaaGreatDoor

/- Lanes: contracts of come and of the rows that load. -/
namespace Go.Proofs.YtnnjanaclgjneaaGreatDoor
open Go.RowKit Go.Maps
set_option maxRecDepth 100000

/-- One of four. -/
def pick4 {α : Type _} (a b c d : α) : Nat → α
  | 0 => a
  | 1 => b
  | 2 => c
  | _ => d
section
variable {w0 w : World} {L : List Item} {a c : Nat} {lv key : Int} {vs : Bool} {nx : Value} {st x y z W C X wd : Int} {pf : Bool} {pv : Int}

set_option maxHeartbeats 3200000 in
theorem come0_l (v : Int) (hs : slotI v = 0) (hv : InU v) (hg : Glo w0) (hE : Env w0 (boxI a (laneC c lv key vs nx st x y z W C X wd pf pv) :: L) w) :
    Calls Tryz.prog 263 #[.pointer (some ⟨a, 0, none⟩), .agg #[.int .u64 v, .int .i64 0, .bool false]] w fun o w' => o = .returned (.int .i64 1) ∧ ∃ nx, Env w0 (boxI a (laneC c lv key vs nx 1 x y z v 0 0 wd pf pv) :: L) w' := by
  have hmf := makeF
  have hso := slot_of
  have hE1 := hE.box w.heap.size rfl [.int .u64 v, .int .i64 0, .bool false] 119
  have HLE := Lib.hid fun (u : World) (hu : Below w0.heap.size w0 u) => lead_c v 0 false u hv (hg.keep' hu)
  simp only [hs] at HLE
  clear hs
  clear hE hv hg
  go_enter Tryz.func263, Tryz.ntmps263
  go_wp2_with fail
  refine Ord.wp_chain [9, 12, 15] (fun u => Below w0.heap.size w0 u ∧ Blk 0 u w.heap.size [.int .u64 v, .int .i64 0, .bool false]) (fun k w' => Env w0 (pick4 (boxI w.heap.size [.int .u64 v, .int .i64 0, .bool false] :: boxI a (laneC c lv key vs nx st x y z W C X wd pf pv) :: L) (boxI w.heap.size [.int .u64 v, .int .i64 0, .bool false] :: boxI a (laneC c lv key vs nx st x y z v C X wd pf pv) :: L) (boxI w.heap.size [.int .u64 v, .int .i64 0, .bool false] :: boxI a (laneC c lv key vs nx st x y z v 0 X wd pf pv) :: L) (boxI w.heap.size [.int .u64 v, .int .i64 0, .bool false] :: boxI a (laneC c lv key vs nx st x y z v 0 0 wd pf pv) :: L) k) w') (by kernel_rfl) (by kernel_rfl) (by kernel_rfl) ⟨hE1.drew.below, hE1.drew.get 0 rfl⟩ hE1.drew (fun hT => ?_)
  have hT9 := Lib.hid hT
  clear hT
  repeat (first
    | (refine Ord.ch_value (v := ?_) hT9.out (by decide) (by rfl) ?_ ?_; rotate_left; (focus (intro w5 hS; have r := Blk.rule hS.2; go_simp <;> with_reducible rfl)); (try simp only [Act.put, List.setIfInBounds_toArray, List.set_cons_zero, List.set_cons_succ]))
    | (refine Ord.ch_off hT9.out (by decide) (by rfl) ?_; (try simp only [Act.put, List.setIfInBounds_toArray, List.set_cons_zero, List.set_cons_succ]))
    | (refine Ord.ch_call (v := ?_) (f := ?_) (args := ?_) hT9.out (by decide) (by rfl) ?_ ?_ ?_; rotate_left 3; (focus (intro w5 hS; have r := Blk.rule hS.2; go_simp; constructor <;> with_reducible rfl)); (focus (intro w5 hS; (first | (with_reducible refine (HLE.out _ hS.1).mono ?_; rintro o w6 ⟨rfl, hb6⟩; constructor; with_reducible rfl; exact ⟨⟨hS.1.trans (hb6.mono hS.1.size), hS.2.under hb6⟩, fun _ h => h.over hb6⟩)))); (try simp only [Act.put, List.setIfInBounds_toArray, List.set_cons_zero, List.set_cons_succ])))
  refine Ord.ch_turn (v := undef) 0 hT9.out rfl (by decide) (Or.inl rfl) (by rfl) ?_ ?_
  · rintro w5 hC5 hA5
    replace hA5 : Env w0 (boxI w.heap.size [.int .u64 v, .int .i64 0, .bool false] :: boxI a (laneC c lv key vs nx st x y z W C X wd pf pv) :: L) w5 := hA5
    have r := hA5.rule 1 rfl
    unfold laneC at r
    have g0 := hA5.thaw 1 rfl 10 (by simp [laneC])
    have g1 := hA5.thaw 1 rfl 11 (by simp [laneC])
    have g2 := hA5.thaw 1 rfl 12 (by simp [laneC])
    go_simp
    have h9 := (((hA5.put 1 rfl (j := 10) (by simp [laneC]) (.int .u64 v)).put 1 rfl (j := 11) (by simp [laneC]) (.int .i64 0)).put 1 rfl (j := 12) (by simp [laneC]) (.bool false))
    replace h9 : Env w0 (boxI w.heap.size [.int .u64 v, .int .i64 0, .bool false] :: boxI a (laneC c lv key vs nx st x y z v C X wd pf pv) :: L) _ := h9
    exact ⟨rfl, ⟨h9.below, h9.get 0 rfl⟩, h9⟩
  (try simp only [Act.put, List.setIfInBounds_toArray, List.set_cons_zero, List.set_cons_succ])
  repeat (first
    | (refine Ord.ch_value (v := ?_) hT9.out (by decide) (by rfl) ?_ ?_; rotate_left; (focus (intro w5 hS; have r := Blk.rule hS.2; go_simp <;> with_reducible rfl)); (try simp only [Act.put, List.setIfInBounds_toArray, List.set_cons_zero, List.set_cons_succ]))
    | (refine Ord.ch_off hT9.out (by decide) (by rfl) ?_; (try simp only [Act.put, List.setIfInBounds_toArray, List.set_cons_zero, List.set_cons_succ]))
    | (refine Ord.ch_call (v := ?_) (f := ?_) (args := ?_) hT9.out (by decide) (by rfl) ?_ ?_ ?_; rotate_left 3; (focus (intro w5 hS; have r := Blk.rule hS.2; go_simp; constructor <;> with_reducible rfl)); (focus (intro w5 hS; (first | (with_reducible refine (HLE.out _ hS.1).mono ?_; rintro o w6 ⟨rfl, hb6⟩; constructor; with_reducible rfl; exact ⟨⟨hS.1.trans (hb6.mono hS.1.size), hS.2.under hb6⟩, fun _ h => h.over hb6⟩)))); (try simp only [Act.put, List.setIfInBounds_toArray, List.set_cons_zero, List.set_cons_succ])))
  refine Ord.ch_turn (v := undef) 1 hT9.out rfl (by decide) (Or.inr ⟨_, rfl, by kernel_rfl⟩) (by rfl) ?_ ?_
  · rintro w5 hC5 hA5
    replace hA5 : Env w0 (boxI w.heap.size [.int .u64 v, .int .i64 0, .bool false] :: boxI a (laneC c lv key vs nx st x y z v C X wd pf pv) :: L) w5 := hA5
    have r := hA5.rule 1 rfl
    unfold laneC at r
    have g0 := hA5.thaw 1 rfl 13 (by simp [laneC])
    have g1 := hA5.thaw 1 rfl 14 (by simp [laneC])
    go_simp
    have h9 := ((hA5.put 1 rfl (j := 13) (by simp [laneC]) (.int .i64 0)).put 1 rfl (j := 14) (by simp [laneC]) (.int .i64 0))
    replace h9 : Env w0 (boxI w.heap.size [.int .u64 v, .int .i64 0, .bool false] :: boxI a (laneC c lv key vs nx st x y z v 0 X wd pf pv) :: L) _ := h9
    exact ⟨rfl, ⟨h9.below, h9.get 0 rfl⟩, h9⟩
  (try simp only [Act.put, List.setIfInBounds_toArray, List.set_cons_zero, List.set_cons_succ])
  repeat (first
    | (refine Ord.ch_value (v := ?_) hT9.out (by decide) (by rfl) ?_ ?_; rotate_left; (focus (intro w5 hS; have r := Blk.rule hS.2; go_simp <;> with_reducible rfl)); (try simp only [Act.put, List.setIfInBounds_toArray, List.set_cons_zero, List.set_cons_succ]))
    | (refine Ord.ch_off hT9.out (by decide) (by rfl) ?_; (try simp only [Act.put, List.setIfInBounds_toArray, List.set_cons_zero, List.set_cons_succ]))
    | (refine Ord.ch_call (v := ?_) (f := ?_) (args := ?_) hT9.out (by decide) (by rfl) ?_ ?_ ?_; rotate_left 3; (focus (intro w5 hS; have r := Blk.rule hS.2; go_simp; constructor <;> with_reducible rfl)); (focus (intro w5 hS; (first | (with_reducible refine (HLE.out _ hS.1).mono ?_; rintro o w6 ⟨rfl, hb6⟩; constructor; with_reducible rfl; exact ⟨⟨hS.1.trans (hb6.mono hS.1.size), hS.2.under hb6⟩, fun _ h => h.over hb6⟩)))); (try simp only [Act.put, List.setIfInBounds_toArray, List.set_cons_zero, List.set_cons_succ])))
  refine Ord.ch_turn (v := undef) 2 hT9.out rfl (by decide) (Or.inr ⟨_, rfl, by kernel_rfl⟩) (by rfl) ?_ ?_
  · rintro w5 hC5 hA5
    replace hA5 : Env w0 (boxI w.heap.size [.int .u64 v, .int .i64 0, .bool false] :: boxI a (laneC c lv key vs nx st x y z v 0 X wd pf pv) :: L) w5 := hA5
    have r := hA5.rule 1 rfl
    unfold laneC at r
    have g0 := hA5.thaw 1 rfl 15 (by simp [laneC])
    have g1 := hA5.thaw 1 rfl 16 (by simp [laneC])
    have g2 := hA5.thaw 1 rfl 17 (by simp [laneC])
    go_simp
    have h9 := (((hA5.put 1 rfl (j := 15) (by simp [laneC]) (.int .u64 0)).put 1 rfl (j := 16) (by simp [laneC]) (.int .i64 0)).put 1 rfl (j := 17) (by simp [laneC]) (.bool false))
    replace h9 : Env w0 (boxI w.heap.size [.int .u64 v, .int .i64 0, .bool false] :: boxI a (laneC c lv key vs nx st x y z v 0 0 wd pf pv) :: L) _ := h9
    exact ⟨rfl, ⟨h9.below, h9.get 0 rfl⟩, h9⟩
  (try simp only [Act.put, List.setIfInBounds_toArray, List.set_cons_zero, List.set_cons_succ])
  repeat (first
    | (refine Ord.ch_value (v := ?_) hT9.out (by decide) (by rfl) ?_ ?_; rotate_left; (focus (intro w5 hS; have r := Blk.rule hS.2; go_simp <;> with_reducible rfl)); (try simp only [Act.put, List.setIfInBounds_toArray, List.set_cons_zero, List.set_cons_succ]))
    | (refine Ord.ch_off hT9.out (by decide) (by rfl) ?_; (try simp only [Act.put, List.setIfInBounds_toArray, List.set_cons_zero, List.set_cons_succ]))
    | (refine Ord.ch_call (v := ?_) (f := ?_) (args := ?_) hT9.out (by decide) (by rfl) ?_ ?_ ?_; rotate_left 3; (focus (intro w5 hS; have r := Blk.rule hS.2; go_simp; constructor <;> with_reducible rfl)); (focus (intro w5 hS; (first | (with_reducible refine (HLE.out _ hS.1).mono ?_; rintro o w6 ⟨rfl, hb6⟩; constructor; with_reducible rfl; exact ⟨⟨hS.1.trans (hb6.mono hS.1.size), hS.2.under hb6⟩, fun _ h => h.over hb6⟩)))); (try simp only [Act.put, List.setIfInBounds_toArray, List.set_cons_zero, List.set_cons_succ])))
  refine Ord.InText.nil fun w5 hS => ?_
  clear hT9
  obtain ⟨hC9, hA9⟩ := Ord.chain_end hS
  clear hS
  replace hA9 : Env w0 (boxI w.heap.size [.int .u64 v, .int .i64 0, .bool false] :: boxI a (laneC c lv key vs nx st x y z v 0 0 wd pf pv) :: L) w5 := hA9
  clear hE1 hC9 HLE
  have r := hA9.rule 1 rfl
  unfold laneC at r
  have g0 := hA9.thaw 1 rfl 13 (by simp [laneC])
  have g1 := hA9.thaw 1 rfl 14 (by simp [laneC])
  have hP := (hA9.put 1 rfl (j := 13) (by simp [laneC]) (.int .i64 0)).put 1 rfl (j := 14) (by simp [laneC]) (.int .i64 0)
  replace hP : Env w0 (boxI w.heap.size [.int .u64 v, .int .i64 0, .bool false] :: boxI a (laneC c lv key vs nx st x y z v 0 0 wd pf pv) :: L) _ := hP
  go_wp2_with fail
  refine (end_l 1 1 (by simp [laneC]) hP rfl).mono ?_
  rintro o w6 ⟨rfl, nx, hE6⟩
  go_wp2_with fail
  go_ret
  exact ⟨rfl, nx, hE6.sub (.cons _ (List.Sublist.refl _))⟩

set_option maxHeartbeats 3200000 in
theorem comeY_l (v : Int) (hs : slotI v ≠ 0) (hv : InU v) (hg : Glo w0) (hE : Env w0 (boxI a (laneC c lv key vs nx st x y z W C X wd pf pv) :: L) w) :
    Calls Tryz.prog 263 #[.pointer (some ⟨a, 0, none⟩), .agg #[.int .u64 v, .int .i64 0, .bool false]] w fun o w' => o = .returned (.int .i64 0) ∧ Env w0 (boxI a (laneC c lv key vs (mvL 272 a) st x y z v (slotI v) 0 wd pf pv) :: L) w' := by
  have hmf := makeF
  have hso := slot_of
  have hE1 := hE.box w.heap.size rfl [.int .u64 v, .int .i64 0, .bool false] 119
  have HLE := Lib.hid fun (u : World) (hu : Below w0.heap.size w0 u) => lead_c v 0 false u hv (hg.keep' hu)
  obtain ⟨s, hs9⟩ : ∃ s, slotI v = s := ⟨_, rfl⟩
  rw [hs9] at hs ⊢
  simp only [hs9] at HLE
  have hsb : (s == 0) = false := by simpa using hs
  clear hs9 hs
  clear hE hv hg
  go_enter Tryz.func263, Tryz.ntmps263
  go_wp2_with fail
  refine Ord.wp_chain [9, 12, 15] (fun u => Below w0.heap.size w0 u ∧ Blk 0 u w.heap.size [.int .u64 v, .int .i64 0, .bool false]) (fun k w' => Env w0 (pick4 (boxI w.heap.size [.int .u64 v, .int .i64 0, .bool false] :: boxI a (laneC c lv key vs nx st x y z W C X wd pf pv) :: L) (boxI w.heap.size [.int .u64 v, .int .i64 0, .bool false] :: boxI a (laneC c lv key vs nx st x y z v C X wd pf pv) :: L) (boxI w.heap.size [.int .u64 v, .int .i64 0, .bool false] :: boxI a (laneC c lv key vs nx st x y z v s X wd pf pv) :: L) (boxI w.heap.size [.int .u64 v, .int .i64 0, .bool false] :: boxI a (laneC c lv key vs nx st x y z v s 0 wd pf pv) :: L) k) w') (by kernel_rfl) (by kernel_rfl) (by kernel_rfl) ⟨hE1.drew.below, hE1.drew.get 0 rfl⟩ hE1.drew (fun hT => ?_)
  have hT9 := Lib.hid hT
  clear hT
  repeat (first
    | (refine Ord.ch_value (v := ?_) hT9.out (by decide) (by rfl) ?_ ?_; rotate_left; (focus (intro w5 hS; have r := Blk.rule hS.2; go_simp <;> with_reducible rfl)); (try simp only [Act.put, List.setIfInBounds_toArray, List.set_cons_zero, List.set_cons_succ]))
    | (refine Ord.ch_off hT9.out (by decide) (by rfl) ?_; (try simp only [Act.put, List.setIfInBounds_toArray, List.set_cons_zero, List.set_cons_succ]))
    | (refine Ord.ch_call (v := ?_) (f := ?_) (args := ?_) hT9.out (by decide) (by rfl) ?_ ?_ ?_; rotate_left 3; (focus (intro w5 hS; have r := Blk.rule hS.2; go_simp; constructor <;> with_reducible rfl)); (focus (intro w5 hS; (first | (with_reducible refine (HLE.out _ hS.1).mono ?_; rintro o w6 ⟨rfl, hb6⟩; constructor; with_reducible rfl; exact ⟨⟨hS.1.trans (hb6.mono hS.1.size), hS.2.under hb6⟩, fun _ h => h.over hb6⟩)))); (try simp only [Act.put, List.setIfInBounds_toArray, List.set_cons_zero, List.set_cons_succ])))
  refine Ord.ch_turn (v := undef) 0 hT9.out rfl (by decide) (Or.inl rfl) (by rfl) ?_ ?_
  · rintro w5 hC5 hA5
    replace hA5 : Env w0 (boxI w.heap.size [.int .u64 v, .int .i64 0, .bool false] :: boxI a (laneC c lv key vs nx st x y z W C X wd pf pv) :: L) w5 := hA5
    have r := hA5.rule 1 rfl
    unfold laneC at r
    have g0 := hA5.thaw 1 rfl 10 (by simp [laneC])
    have g1 := hA5.thaw 1 rfl 11 (by simp [laneC])
    have g2 := hA5.thaw 1 rfl 12 (by simp [laneC])
    go_simp
    have h9 := (((hA5.put 1 rfl (j := 10) (by simp [laneC]) (.int .u64 v)).put 1 rfl (j := 11) (by simp [laneC]) (.int .i64 0)).put 1 rfl (j := 12) (by simp [laneC]) (.bool false))
    replace h9 : Env w0 (boxI w.heap.size [.int .u64 v, .int .i64 0, .bool false] :: boxI a (laneC c lv key vs nx st x y z v C X wd pf pv) :: L) _ := h9
    exact ⟨rfl, ⟨h9.below, h9.get 0 rfl⟩, h9⟩
  (try simp only [Act.put, List.setIfInBounds_toArray, List.set_cons_zero, List.set_cons_succ])
  repeat (first
    | (refine Ord.ch_value (v := ?_) hT9.out (by decide) (by rfl) ?_ ?_; rotate_left; (focus (intro w5 hS; have r := Blk.rule hS.2; go_simp <;> with_reducible rfl)); (try simp only [Act.put, List.setIfInBounds_toArray, List.set_cons_zero, List.set_cons_succ]))
    | (refine Ord.ch_off hT9.out (by decide) (by rfl) ?_; (try simp only [Act.put, List.setIfInBounds_toArray, List.set_cons_zero, List.set_cons_succ]))
    | (refine Ord.ch_call (v := ?_) (f := ?_) (args := ?_) hT9.out (by decide) (by rfl) ?_ ?_ ?_; rotate_left 3; (focus (intro w5 hS; have r := Blk.rule hS.2; go_simp; constructor <;> with_reducible rfl)); (focus (intro w5 hS; (first | (with_reducible refine (HLE.out _ hS.1).mono ?_; rintro o w6 ⟨rfl, hb6⟩; constructor; with_reducible rfl; exact ⟨⟨hS.1.trans (hb6.mono hS.1.size), hS.2.under hb6⟩, fun _ h => h.over hb6⟩)))); (try simp only [Act.put, List.setIfInBounds_toArray, List.set_cons_zero, List.set_cons_succ])))
  refine Ord.ch_turn (v := undef) 1 hT9.out rfl (by decide) (Or.inr ⟨_, rfl, by kernel_rfl⟩) (by rfl) ?_ ?_
  · rintro w5 hC5 hA5
    replace hA5 : Env w0 (boxI w.heap.size [.int .u64 v, .int .i64 0, .bool false] :: boxI a (laneC c lv key vs nx st x y z v C X wd pf pv) :: L) w5 := hA5
    have r := hA5.rule 1 rfl
    unfold laneC at r
    have g0 := hA5.thaw 1 rfl 13 (by simp [laneC])
    have g1 := hA5.thaw 1 rfl 14 (by simp [laneC])
    go_simp
    have h9 := ((hA5.put 1 rfl (j := 13) (by simp [laneC]) (.int .i64 s)).put 1 rfl (j := 14) (by simp [laneC]) (.int .i64 0))
    replace h9 : Env w0 (boxI w.heap.size [.int .u64 v, .int .i64 0, .bool false] :: boxI a (laneC c lv key vs nx st x y z v s X wd pf pv) :: L) _ := h9
    exact ⟨rfl, ⟨h9.below, h9.get 0 rfl⟩, h9⟩
  (try simp only [Act.put, List.setIfInBounds_toArray, List.set_cons_zero, List.set_cons_succ])
  repeat (first
    | (refine Ord.ch_value (v := ?_) hT9.out (by decide) (by rfl) ?_ ?_; rotate_left; (focus (intro w5 hS; have r := Blk.rule hS.2; go_simp <;> with_reducible rfl)); (try simp only [Act.put, List.setIfInBounds_toArray, List.set_cons_zero, List.set_cons_succ]))
    | (refine Ord.ch_off hT9.out (by decide) (by rfl) ?_; (try simp only [Act.put, List.setIfInBounds_toArray, List.set_cons_zero, List.set_cons_succ]))
    | (refine Ord.ch_call (v := ?_) (f := ?_) (args := ?_) hT9.out (by decide) (by rfl) ?_ ?_ ?_; rotate_left 3; (focus (intro w5 hS; have r := Blk.rule hS.2; go_simp; constructor <;> with_reducible rfl)); (focus (intro w5 hS; (first | (with_reducible refine (HLE.out _ hS.1).mono ?_; rintro o w6 ⟨rfl, hb6⟩; constructor; with_reducible rfl; exact ⟨⟨hS.1.trans (hb6.mono hS.1.size), hS.2.under hb6⟩, fun _ h => h.over hb6⟩)))); (try simp only [Act.put, List.setIfInBounds_toArray, List.set_cons_zero, List.set_cons_succ])))
  refine Ord.ch_turn (v := undef) 2 hT9.out rfl (by decide) (Or.inr ⟨_, rfl, by kernel_rfl⟩) (by rfl) ?_ ?_
  · rintro w5 hC5 hA5
    replace hA5 : Env w0 (boxI w.heap.size [.int .u64 v, .int .i64 0, .bool false] :: boxI a (laneC c lv key vs nx st x y z v s X wd pf pv) :: L) w5 := hA5
    have r := hA5.rule 1 rfl
    unfold laneC at r
    have g0 := hA5.thaw 1 rfl 15 (by simp [laneC])
    have g1 := hA5.thaw 1 rfl 16 (by simp [laneC])
    have g2 := hA5.thaw 1 rfl 17 (by simp [laneC])
    go_simp
    have h9 := (((hA5.put 1 rfl (j := 15) (by simp [laneC]) (.int .u64 0)).put 1 rfl (j := 16) (by simp [laneC]) (.int .i64 0)).put 1 rfl (j := 17) (by simp [laneC]) (.bool false))
    replace h9 : Env w0 (boxI w.heap.size [.int .u64 v, .int .i64 0, .bool false] :: boxI a (laneC c lv key vs nx st x y z v s 0 wd pf pv) :: L) _ := h9
    exact ⟨rfl, ⟨h9.below, h9.get 0 rfl⟩, h9⟩
  (try simp only [Act.put, List.setIfInBounds_toArray, List.set_cons_zero, List.set_cons_succ])
  repeat (first
    | (refine Ord.ch_value (v := ?_) hT9.out (by decide) (by rfl) ?_ ?_; rotate_left; (focus (intro w5 hS; have r := Blk.rule hS.2; go_simp <;> with_reducible rfl)); (try simp only [Act.put, List.setIfInBounds_toArray, List.set_cons_zero, List.set_cons_succ]))
    | (refine Ord.ch_off hT9.out (by decide) (by rfl) ?_; (try simp only [Act.put, List.setIfInBounds_toArray, List.set_cons_zero, List.set_cons_succ]))
    | (refine Ord.ch_call (v := ?_) (f := ?_) (args := ?_) hT9.out (by decide) (by rfl) ?_ ?_ ?_; rotate_left 3; (focus (intro w5 hS; have r := Blk.rule hS.2; go_simp; constructor <;> with_reducible rfl)); (focus (intro w5 hS; (first | (with_reducible refine (HLE.out _ hS.1).mono ?_; rintro o w6 ⟨rfl, hb6⟩; constructor; with_reducible rfl; exact ⟨⟨hS.1.trans (hb6.mono hS.1.size), hS.2.under hb6⟩, fun _ h => h.over hb6⟩)))); (try simp only [Act.put, List.setIfInBounds_toArray, List.set_cons_zero, List.set_cons_succ])))
  refine Ord.InText.nil fun w5 hS => ?_
  clear hT9
  obtain ⟨hC9, hA9⟩ := Ord.chain_end hS
  clear hS
  replace hA9 : Env w0 (boxI w.heap.size [.int .u64 v, .int .i64 0, .bool false] :: boxI a (laneC c lv key vs nx st x y z v s 0 wd pf pv) :: L) w5 := hA9
  clear hE1 hC9 HLE
  have r := hA9.rule 1 rfl
  unfold laneC at r
  go_wp2_with fail
  refine (goOn_l 1 _ _ _ (by simp [laneC]) hA9 rfl).mono ?_
  rintro o w6 ⟨rfl, hE6⟩
  go_wp2_with fail
  go_ret
  exact ⟨rfl, hE6.sub (.cons _ (List.Sublist.refl _))⟩

end
section
variable {w0 w : World} {R : List Item} {a : Nat} {S : ST} {lv key : Int} {vs : Bool} {nx : Value} {st x y z W C X wd : Int} {pf : Bool} {pv : Int}

set_option maxHeartbeats 3200000 in
theorem loadInto_l (v : Int) (hfx : S.f (x, y, z) = v) (hwf : Wf (x, y, z)) (hE : Env w0 (boxI a (laneC S.c lv key vs nx st x y z W C X wd pf pv) :: LT S R) w) :
    Calls Tryz.prog 216 #[.pointer (some ⟨a, 0, none⟩), .iface 26 (.pointer (some ⟨S.p, 0, none⟩))] w fun o w' => o = .returned (.int .i64 0) ∧ ∃ b1 b2, Env w0 (boxI a (laneC S.c lv key vs (cvL b1 b2) st x y z v C X wd pf pv) :: boxI b1 [.pointer (some ⟨a, 0, none⟩)] :: boxI b2 [mvL 243 a] :: LT { S with qc := { S.qc with l := wrap64 (S.qc.l + 1) } } R) w' := by
  have hmf := makeF
  have hah := ahead_load
  have hvw := val_word
  have HX := Lib.hid hfx
  have HWF := Lib.hid hwf
  clear hfx hwf
  go_enter Tryz.func216, Tryz.ntmps216
  go_wp2_with fail
  refine Ord.wp_chain [9, 12] (fun u => Below w0.heap.size w0 u ∧ ∃ n8, Blk 0 u a (laneC S.c lv key vs nx st x y z n8 C X wd pf pv)) (fun k w' => Env w0 (pick3 (boxI a (laneC S.c lv key vs nx st x y z W C X wd pf pv) :: LT S R) (boxI a (laneC S.c lv key vs nx st x y z W C X wd pf pv) :: LT { S with qc := { S.qc with l := wrap64 (S.qc.l + 1) } } R) (boxI a (laneC S.c lv key vs nx st x y z v C X wd pf pv) :: LT { S with qc := { S.qc with l := wrap64 (S.qc.l + 1) } } R) k) w') (by kernel_rfl) (by kernel_rfl) (by kernel_rfl) ⟨hE.drew.below, W, hE.drew.get 0 rfl⟩ hE.drew (fun hT => ?_)
  have hT9 := Lib.hid hT
  clear hT
  repeat (first
    | (refine Ord.ch_value (v := ?_) hT9.out (by decide) (by rfl) ?_ ?_; rotate_left; (focus (intro w5 hS; obtain ⟨hS0, n9, hS1⟩ := hS; have r := Blk.rule hS1; unfold laneC at r; go_simp <;> with_reducible rfl)); (try simp only [Act.put, List.setIfInBounds_toArray, List.set_cons_zero, List.set_cons_succ]))
    | (refine Ord.ch_off hT9.out (by decide) (by rfl) ?_; (try simp only [Act.put, List.setIfInBounds_toArray, List.set_cons_zero, List.set_cons_succ])))
  refine Ord.ch_turn (v := .agg #[.int .u64 v, .int .i64 0, .bool false]) 0 hT9.out rfl (by decide) (Or.inl rfl) (by rfl) ?_ ?_
  · rintro w5 hC5 hA5
    replace hA5 : Env w0 (boxI a (laneC S.c lv key vs nx st x y z W C X wd pf pv) :: LT S R) w5 := hA5
    go_simp
    rw [method_load]
    simp only [Result.andThen_ok]
    go_simp
    simp only [Ord.LandsIn]
    have hl := load_w x y z 0 HWF.out 3 4 (by decide) hA5 rfl rfl
    rw [HX.out] at hl
    refine hl.mono ?_
    rintro e w6 ⟨rfl, hE6⟩
    exact ⟨rfl, ⟨hE6.below, _, hE6.get 0 rfl⟩, hE6⟩
  (try simp only [Act.put, List.setIfInBounds_toArray, List.set_cons_zero, List.set_cons_succ])
  repeat (first
    | (refine Ord.ch_value (v := ?_) hT9.out (by decide) (by rfl) ?_ ?_; rotate_left; (focus (intro w5 hS; skip; go_simp <;> with_reducible rfl)); (try simp only [Act.put, List.setIfInBounds_toArray, List.set_cons_zero, List.set_cons_succ]))
    | (refine Ord.ch_off hT9.out (by decide) (by rfl) ?_; (try simp only [Act.put, List.setIfInBounds_toArray, List.set_cons_zero, List.set_cons_succ])))
  refine Ord.ch_turn (v := undef) 1 hT9.out rfl (by decide) (Or.inr ⟨_, rfl, by kernel_rfl⟩) (by rfl) ?_ ?_
  · rintro w5 hC5 hA5
    replace hA5 : Env w0 (boxI a (laneC S.c lv key vs nx st x y z W C X wd pf pv) :: LT { S with qc := { S.qc with l := wrap64 (S.qc.l + 1) } } R) w5 := hA5
    have r := hA5.rule 0 rfl
    unfold laneC at r
    have g0 := hA5.thaw 0 rfl 10 (by simp [laneC])
    have g1 := hA5.thaw 0 rfl 11 (by simp [laneC])
    have g2 := hA5.thaw 0 rfl 12 (by simp [laneC])
    go_simp
    have h9 := (((hA5.put 0 rfl (j := 10) (by simp [laneC]) (.int .u64 v)).put 0 rfl (j := 11) (by simp [laneC]) (.int .i64 0)).put 0 rfl (j := 12) (by simp [laneC]) (.bool false))
    replace h9 : Env w0 (boxI a (laneC S.c lv key vs nx st x y z v C X wd pf pv) :: LT { S with qc := { S.qc with l := wrap64 (S.qc.l + 1) } } R) _ := h9
    exact ⟨rfl, ⟨h9.below, _, h9.get 0 rfl⟩, h9⟩
  (try simp only [Act.put, List.setIfInBounds_toArray, List.set_cons_zero, List.set_cons_succ])
  repeat (first
    | (refine Ord.ch_value (v := ?_) hT9.out (by decide) (by rfl) ?_ ?_; rotate_left; (focus (intro w5 hS; skip; go_simp <;> with_reducible rfl)); (try simp only [Act.put, List.setIfInBounds_toArray, List.set_cons_zero, List.set_cons_succ]))
    | (refine Ord.ch_off hT9.out (by decide) (by rfl) ?_; (try simp only [Act.put, List.setIfInBounds_toArray, List.set_cons_zero, List.set_cons_succ])))
  refine Ord.InText.nil fun w5 hS => ?_
  clear hT9
  obtain ⟨hC9, hA9⟩ := Ord.chain_end hS
  clear hS
  replace hA9 : Env w0 (boxI a (laneC S.c lv key vs nx st x y z v C X wd pf pv) :: LT { S with qc := { S.qc with l := wrap64 (S.qc.l + 1) } } R) w5 := hA9
  clear hE hC9
  have r := hA9.rule 0 rfl
  unfold laneC at r
  go_wp2_with fail
  refine (validate_l _ _ _ (by simp [laneC]) hA9).mono ?_
  rintro o w6 ⟨rfl, b1, b2, hE6⟩
  go_wp2_with fail
  go_ret
  exact ⟨rfl, b1, b2, hE6⟩

set_option maxHeartbeats 3200000 in
theorem loadOut_l (hlv : 0 ≤ lv ∧ lv ≤ 1000000) (v : Int) (hfx : S.f (5, C, 7 + lv) = v) (hwf : Wf (5, C, 7 + lv)) (hE : Env w0 (boxI a (laneC S.c lv key vs nx st x y z W C X wd pf pv) :: LT S R) w) :
    Calls Tryz.prog 272 #[.pointer (some ⟨a, 0, none⟩), .iface 26 (.pointer (some ⟨S.p, 0, none⟩))] w fun o w' => o = .returned (.int .i64 0) ∧ ∃ b1 b2, Env w0 (boxI a (laneC S.c lv key vs (cvL b1 b2) st x y z W C v wd pf pv) :: boxI b1 [.pointer (some ⟨a, 0, none⟩)] :: boxI b2 [mvL 282 a] :: LT { S with qc := { S.qc with l := wrap64 (S.qc.l + 1) } } R) w' := by
  have hmf := makeF
  have hah := ahead_load
  have hvw := val_word
  have HX := Lib.hid hfx
  have HWF := Lib.hid hwf
  clear hfx hwf
  go_enter Tryz.func272, Tryz.ntmps272
  go_wp2_with fail
  refine Ord.wp_chain [7, 10] (fun u => Below w0.heap.size w0 u ∧ ∃ n8, Blk 0 u a (laneC S.c lv key vs nx st x y z W C n8 wd pf pv)) (fun k w' => Env w0 (pick3 (boxI a (laneC S.c lv key vs nx st x y z W C X wd pf pv) :: LT S R) (boxI a (laneC S.c lv key vs nx st x y z W C X wd pf pv) :: LT { S with qc := { S.qc with l := wrap64 (S.qc.l + 1) } } R) (boxI a (laneC S.c lv key vs nx st x y z W C v wd pf pv) :: LT { S with qc := { S.qc with l := wrap64 (S.qc.l + 1) } } R) k) w') (by kernel_rfl) (by kernel_rfl) (by kernel_rfl) ⟨hE.drew.below, X, hE.drew.get 0 rfl⟩ hE.drew (fun hT => ?_)
  have hT9 := Lib.hid hT
  clear hT
  repeat (first
    | (refine Ord.ch_value (v := ?_) hT9.out (by decide) (by rfl) ?_ ?_; rotate_left; (focus (intro w5 hS; obtain ⟨hS0, n9, hS1⟩ := hS; have r := Blk.rule hS1; unfold laneC at r; go_simp <;> with_reducible rfl)); (try simp only [Act.put, List.setIfInBounds_toArray, List.set_cons_zero, List.set_cons_succ]))
    | (refine Ord.ch_off hT9.out (by decide) (by rfl) ?_; (try simp only [Act.put, List.setIfInBounds_toArray, List.set_cons_zero, List.set_cons_succ]))
    | (refine Ord.ch_call (v := ?_) (f := ?_) (args := ?_) hT9.out (by decide) (by rfl) ?_ ?_ ?_; rotate_left 3; (focus (intro w5 hS; obtain ⟨hS0, n9, hS1⟩ := hS; have r := Blk.rule hS1; unfold laneC at r; go_simp; constructor <;> with_reducible rfl)); (focus (intro w5 hS; (first | (obtain ⟨hS0, n9, hS1⟩ := hS; with_reducible refine (nextLink_l hlv hS1).mono ?_; rintro e w6 ⟨rfl, hb6⟩; constructor; with_reducible rfl; exact ⟨⟨hS0.trans (hb6.mono hS0.size), n9, hS1.under hb6⟩, fun k h => h.over hb6⟩)))); (try simp only [Act.put, List.setIfInBounds_toArray, List.set_cons_zero, List.set_cons_succ])))
  refine Ord.ch_turn (v := .agg #[.int .u64 v, .int .i64 0, .bool false]) 0 hT9.out rfl (by decide) (Or.inl rfl) (by rfl) ?_ ?_
  · rintro w5 hC5 hA5
    replace hA5 : Env w0 (boxI a (laneC S.c lv key vs nx st x y z W C X wd pf pv) :: LT S R) w5 := hA5
    go_simp
    rw [method_load]
    simp only [Result.andThen_ok]
    go_simp
    simp only [Ord.LandsIn]
    have hl := load_w 5 C (7 + lv) 0 HWF.out 3 4 (by decide) hA5 rfl rfl
    rw [HX.out] at hl
    refine hl.mono ?_
    rintro e w6 ⟨rfl, hE6⟩
    exact ⟨rfl, ⟨hE6.below, _, hE6.get 0 rfl⟩, hE6⟩
  (try simp only [Act.put, List.setIfInBounds_toArray, List.set_cons_zero, List.set_cons_succ])
  repeat (first
    | (refine Ord.ch_value (v := ?_) hT9.out (by decide) (by rfl) ?_ ?_; rotate_left; (focus (intro w5 hS; skip; go_simp <;> with_reducible rfl)); (try simp only [Act.put, List.setIfInBounds_toArray, List.set_cons_zero, List.set_cons_succ]))
    | (refine Ord.ch_off hT9.out (by decide) (by rfl) ?_; (try simp only [Act.put, List.setIfInBounds_toArray, List.set_cons_zero, List.set_cons_succ])))
  refine Ord.ch_turn (v := undef) 1 hT9.out rfl (by decide) (Or.inr ⟨_, rfl, by kernel_rfl⟩) (by rfl) ?_ ?_
  · rintro w5 hC5 hA5
    replace hA5 : Env w0 (boxI a (laneC S.c lv key vs nx st x y z W C X wd pf pv) :: LT { S with qc := { S.qc with l := wrap64 (S.qc.l + 1) } } R) w5 := hA5
    have r := hA5.rule 0 rfl
    unfold laneC at r
    have g0 := hA5.thaw 0 rfl 15 (by simp [laneC])
    have g1 := hA5.thaw 0 rfl 16 (by simp [laneC])
    have g2 := hA5.thaw 0 rfl 17 (by simp [laneC])
    go_simp
    have h9 := (((hA5.put 0 rfl (j := 15) (by simp [laneC]) (.int .u64 v)).put 0 rfl (j := 16) (by simp [laneC]) (.int .i64 0)).put 0 rfl (j := 17) (by simp [laneC]) (.bool false))
    replace h9 : Env w0 (boxI a (laneC S.c lv key vs nx st x y z W C v wd pf pv) :: LT { S with qc := { S.qc with l := wrap64 (S.qc.l + 1) } } R) _ := h9
    exact ⟨rfl, ⟨h9.below, _, h9.get 0 rfl⟩, h9⟩
  (try simp only [Act.put, List.setIfInBounds_toArray, List.set_cons_zero, List.set_cons_succ])
  repeat (first
    | (refine Ord.ch_value (v := ?_) hT9.out (by decide) (by rfl) ?_ ?_; rotate_left; (focus (intro w5 hS; skip; go_simp <;> with_reducible rfl)); (try simp only [Act.put, List.setIfInBounds_toArray, List.set_cons_zero, List.set_cons_succ]))
    | (refine Ord.ch_off hT9.out (by decide) (by rfl) ?_; (try simp only [Act.put, List.setIfInBounds_toArray, List.set_cons_zero, List.set_cons_succ])))
  refine Ord.InText.nil fun w5 hS => ?_
  clear hT9
  obtain ⟨hC9, hA9⟩ := Ord.chain_end hS
  clear hS
  replace hA9 : Env w0 (boxI a (laneC S.c lv key vs nx st x y z W C v wd pf pv) :: LT { S with qc := { S.qc with l := wrap64 (S.qc.l + 1) } } R) w5 := hA9
  clear hE hC9
  have r := hA9.rule 0 rfl
  unfold laneC at r
  go_wp2_with fail
  refine (validate_l _ _ _ (by simp [laneC]) hA9).mono ?_
  rintro o w6 ⟨rfl, b1, b2, hE6⟩
  go_wp2_with fail
  go_ret
  exact ⟨rfl, b1, b2, hE6⟩

set_option maxHeartbeats 3200000 in
theorem loadKey_l (v : Int) (hfx : S.f (5, C, 3) = v) (hwf : Wf (5, C, 3)) (hE : Env w0 (boxI a (laneC S.c lv key vs nx st x y z W C X wd pf pv) :: LT S R) w) :
    Calls Tryz.prog 294 #[.pointer (some ⟨a, 0, none⟩), .iface 26 (.pointer (some ⟨S.p, 0, none⟩))] w fun o w' => o = .returned (.int .i64 0) ∧ ∃ b1 b2, Env w0 (boxI a (laneC S.c lv key vs (cvL b1 b2) st x y z W C X v pf pv) :: boxI b1 [.pointer (some ⟨a, 0, none⟩)] :: boxI b2 [mvL 298 a] :: LT { S with qc := { S.qc with l := wrap64 (S.qc.l + 1) } } R) w' := by
  have hmf := makeF
  have hah := ahead_load
  have hvw := val_word
  have HX := Lib.hid hfx
  have HWF := Lib.hid hwf
  clear hfx hwf
  go_enter Tryz.func294, Tryz.ntmps294
  go_wp2_with fail
  refine Ord.wp_chain [7, 11] (fun u => Below w0.heap.size w0 u ∧ ∃ n8, Blk 0 u a (laneC S.c lv key vs nx st x y z W C X n8 pf pv)) (fun k w' => Env w0 (pick3 (boxI a (laneC S.c lv key vs nx st x y z W C X wd pf pv) :: LT S R) (boxI a (laneC S.c lv key vs nx st x y z W C X wd pf pv) :: LT { S with qc := { S.qc with l := wrap64 (S.qc.l + 1) } } R) (boxI a (laneC S.c lv key vs nx st x y z W C X v pf pv) :: LT { S with qc := { S.qc with l := wrap64 (S.qc.l + 1) } } R) k) w') (by kernel_rfl) (by kernel_rfl) (by kernel_rfl) ⟨hE.drew.below, wd, hE.drew.get 0 rfl⟩ hE.drew (fun hT => ?_)
  have hT9 := Lib.hid hT
  clear hT
  repeat (first
    | (refine Ord.ch_value (v := ?_) hT9.out (by decide) (by rfl) ?_ ?_; rotate_left; (focus (intro w5 hS; obtain ⟨hS0, n9, hS1⟩ := hS; have r := Blk.rule hS1; unfold laneC at r; go_simp <;> with_reducible rfl)); (try simp only [Act.put, List.setIfInBounds_toArray, List.set_cons_zero, List.set_cons_succ]))
    | (refine Ord.ch_off hT9.out (by decide) (by rfl) ?_; (try simp only [Act.put, List.setIfInBounds_toArray, List.set_cons_zero, List.set_cons_succ]))
    | (refine Ord.ch_call (v := ?_) (f := ?_) (args := ?_) hT9.out (by decide) (by rfl) ?_ ?_ ?_; rotate_left 3; (focus (intro w5 hS; obtain ⟨hS0, n9, hS1⟩ := hS; have r := Blk.rule hS1; unfold laneC at r; go_simp; constructor <;> with_reducible rfl)); (focus (intro w5 hS; (first | (obtain ⟨hS0, n9, hS1⟩ := hS; with_reducible refine (part_l 3 hS1).mono ?_; rintro e w6 ⟨rfl, hb6⟩; constructor; with_reducible rfl; exact ⟨⟨hS0.trans (hb6.mono hS0.size), n9, hS1.under hb6⟩, fun k h => h.over hb6⟩)))); (try simp only [Act.put, List.setIfInBounds_toArray, List.set_cons_zero, List.set_cons_succ])))
  refine Ord.ch_turn (v := .agg #[.int .u64 v, .int .i64 0, .bool false]) 0 hT9.out rfl (by decide) (Or.inl rfl) (by rfl) ?_ ?_
  · rintro w5 hC5 hA5
    replace hA5 : Env w0 (boxI a (laneC S.c lv key vs nx st x y z W C X wd pf pv) :: LT S R) w5 := hA5
    go_simp
    rw [method_load]
    simp only [Result.andThen_ok]
    go_simp
    simp only [Ord.LandsIn]
    have hl := load_w 5 C 3 0 HWF.out 3 4 (by decide) hA5 rfl rfl
    rw [HX.out] at hl
    refine hl.mono ?_
    rintro e w6 ⟨rfl, hE6⟩
    exact ⟨rfl, ⟨hE6.below, _, hE6.get 0 rfl⟩, hE6⟩
  (try simp only [Act.put, List.setIfInBounds_toArray, List.set_cons_zero, List.set_cons_succ])
  repeat (first
    | (refine Ord.ch_value (v := ?_) hT9.out (by decide) (by rfl) ?_ ?_; rotate_left; (focus (intro w5 hS; skip; go_simp <;> with_reducible rfl)); (try simp only [Act.put, List.setIfInBounds_toArray, List.set_cons_zero, List.set_cons_succ]))
    | (refine Ord.ch_off hT9.out (by decide) (by rfl) ?_; (try simp only [Act.put, List.setIfInBounds_toArray, List.set_cons_zero, List.set_cons_succ])))
  refine Ord.ch_turn (v := undef) 1 hT9.out rfl (by decide) (Or.inr ⟨_, rfl, by kernel_rfl⟩) (by rfl) ?_ ?_
  · rintro w5 hC5 hA5
    replace hA5 : Env w0 (boxI a (laneC S.c lv key vs nx st x y z W C X wd pf pv) :: LT { S with qc := { S.qc with l := wrap64 (S.qc.l + 1) } } R) w5 := hA5
    have r := hA5.rule 0 rfl
    unfold laneC at r
    have g0 := hA5.thaw 0 rfl 18 (by simp [laneC])
    go_simp
    have h9 := (hA5.put 0 rfl (j := 18) (by simp [laneC]) (.int .u64 v))
    replace h9 : Env w0 (boxI a (laneC S.c lv key vs nx st x y z W C X v pf pv) :: LT { S with qc := { S.qc with l := wrap64 (S.qc.l + 1) } } R) _ := h9
    exact ⟨rfl, ⟨h9.below, _, h9.get 0 rfl⟩, h9⟩
  (try simp only [Act.put, List.setIfInBounds_toArray, List.set_cons_zero, List.set_cons_succ])
  repeat (first
    | (refine Ord.ch_value (v := ?_) hT9.out (by decide) (by rfl) ?_ ?_; rotate_left; (focus (intro w5 hS; skip; go_simp <;> with_reducible rfl)); (try simp only [Act.put, List.setIfInBounds_toArray, List.set_cons_zero, List.set_cons_succ]))
    | (refine Ord.ch_off hT9.out (by decide) (by rfl) ?_; (try simp only [Act.put, List.setIfInBounds_toArray, List.set_cons_zero, List.set_cons_succ])))
  refine Ord.InText.nil fun w5 hS => ?_
  clear hT9
  obtain ⟨hC9, hA9⟩ := Ord.chain_end hS
  clear hS
  replace hA9 : Env w0 (boxI a (laneC S.c lv key vs nx st x y z W C X v pf pv) :: LT { S with qc := { S.qc with l := wrap64 (S.qc.l + 1) } } R) w5 := hA9
  clear hE hC9
  have r := hA9.rule 0 rfl
  unfold laneC at r
  go_wp2_with fail
  refine (validate_l _ _ _ (by simp [laneC]) hA9).mono ?_
  rintro o w6 ⟨rfl, b1, b2, hE6⟩
  go_wp2_with fail
  go_ret
  exact ⟨rfl, b1, b2, hE6⟩

set_option maxHeartbeats 3200000 in
theorem loadVal_l (v : Int) (hfx : S.f (5, C, 4) = v) (hwf : Wf (5, C, 4)) (hE : Env w0 (boxI a (laneC S.c lv key vs nx st x y z W C X wd pf pv) :: LT S R) w) :
    Calls Tryz.prog 301 #[.pointer (some ⟨a, 0, none⟩), .iface 26 (.pointer (some ⟨S.p, 0, none⟩))] w fun o w' => o = .returned (.int .i64 0) ∧ ∃ b1 b2, Env w0 (boxI a (laneC S.c lv key vs (cvL b1 b2) st x y z W C X v pf pv) :: boxI b1 [.pointer (some ⟨a, 0, none⟩)] :: boxI b2 [mvL 304 a] :: LT { S with qc := { S.qc with l := wrap64 (S.qc.l + 1) } } R) w' := by
  have hmf := makeF
  have hah := ahead_load
  have hvw := val_word
  have HX := Lib.hid hfx
  have HWF := Lib.hid hwf
  clear hfx hwf
  go_enter Tryz.func301, Tryz.ntmps301
  go_wp2_with fail
  refine Ord.wp_chain [7, 11] (fun u => Below w0.heap.size w0 u ∧ ∃ n8, Blk 0 u a (laneC S.c lv key vs nx st x y z W C X n8 pf pv)) (fun k w' => Env w0 (pick3 (boxI a (laneC S.c lv key vs nx st x y z W C X wd pf pv) :: LT S R) (boxI a (laneC S.c lv key vs nx st x y z W C X wd pf pv) :: LT { S with qc := { S.qc with l := wrap64 (S.qc.l + 1) } } R) (boxI a (laneC S.c lv key vs nx st x y z W C X v pf pv) :: LT { S with qc := { S.qc with l := wrap64 (S.qc.l + 1) } } R) k) w') (by kernel_rfl) (by kernel_rfl) (by kernel_rfl) ⟨hE.drew.below, wd, hE.drew.get 0 rfl⟩ hE.drew (fun hT => ?_)
  have hT9 := Lib.hid hT
  clear hT
  repeat (first
    | (refine Ord.ch_value (v := ?_) hT9.out (by decide) (by rfl) ?_ ?_; rotate_left; (focus (intro w5 hS; obtain ⟨hS0, n9, hS1⟩ := hS; have r := Blk.rule hS1; unfold laneC at r; go_simp <;> with_reducible rfl)); (try simp only [Act.put, List.setIfInBounds_toArray, List.set_cons_zero, List.set_cons_succ]))
    | (refine Ord.ch_off hT9.out (by decide) (by rfl) ?_; (try simp only [Act.put, List.setIfInBounds_toArray, List.set_cons_zero, List.set_cons_succ]))
    | (refine Ord.ch_call (v := ?_) (f := ?_) (args := ?_) hT9.out (by decide) (by rfl) ?_ ?_ ?_; rotate_left 3; (focus (intro w5 hS; obtain ⟨hS0, n9, hS1⟩ := hS; have r := Blk.rule hS1; unfold laneC at r; go_simp; constructor <;> with_reducible rfl)); (focus (intro w5 hS; (first | (obtain ⟨hS0, n9, hS1⟩ := hS; with_reducible refine (part_l 4 hS1).mono ?_; rintro e w6 ⟨rfl, hb6⟩; constructor; with_reducible rfl; exact ⟨⟨hS0.trans (hb6.mono hS0.size), n9, hS1.under hb6⟩, fun k h => h.over hb6⟩)))); (try simp only [Act.put, List.setIfInBounds_toArray, List.set_cons_zero, List.set_cons_succ])))
  refine Ord.ch_turn (v := .agg #[.int .u64 v, .int .i64 0, .bool false]) 0 hT9.out rfl (by decide) (Or.inl rfl) (by rfl) ?_ ?_
  · rintro w5 hC5 hA5
    replace hA5 : Env w0 (boxI a (laneC S.c lv key vs nx st x y z W C X wd pf pv) :: LT S R) w5 := hA5
    go_simp
    rw [method_load]
    simp only [Result.andThen_ok]
    go_simp
    simp only [Ord.LandsIn]
    have hl := load_w 5 C 4 0 HWF.out 3 4 (by decide) hA5 rfl rfl
    rw [HX.out] at hl
    refine hl.mono ?_
    rintro e w6 ⟨rfl, hE6⟩
    exact ⟨rfl, ⟨hE6.below, _, hE6.get 0 rfl⟩, hE6⟩
  (try simp only [Act.put, List.setIfInBounds_toArray, List.set_cons_zero, List.set_cons_succ])
  repeat (first
    | (refine Ord.ch_value (v := ?_) hT9.out (by decide) (by rfl) ?_ ?_; rotate_left; (focus (intro w5 hS; skip; go_simp <;> with_reducible rfl)); (try simp only [Act.put, List.setIfInBounds_toArray, List.set_cons_zero, List.set_cons_succ]))
    | (refine Ord.ch_off hT9.out (by decide) (by rfl) ?_; (try simp only [Act.put, List.setIfInBounds_toArray, List.set_cons_zero, List.set_cons_succ])))
  refine Ord.ch_turn (v := undef) 1 hT9.out rfl (by decide) (Or.inr ⟨_, rfl, by kernel_rfl⟩) (by rfl) ?_ ?_
  · rintro w5 hC5 hA5
    replace hA5 : Env w0 (boxI a (laneC S.c lv key vs nx st x y z W C X wd pf pv) :: LT { S with qc := { S.qc with l := wrap64 (S.qc.l + 1) } } R) w5 := hA5
    have r := hA5.rule 0 rfl
    unfold laneC at r
    have g0 := hA5.thaw 0 rfl 18 (by simp [laneC])
    go_simp
    have h9 := (hA5.put 0 rfl (j := 18) (by simp [laneC]) (.int .u64 v))
    replace h9 : Env w0 (boxI a (laneC S.c lv key vs nx st x y z W C X v pf pv) :: LT { S with qc := { S.qc with l := wrap64 (S.qc.l + 1) } } R) _ := h9
    exact ⟨rfl, ⟨h9.below, _, h9.get 0 rfl⟩, h9⟩
  (try simp only [Act.put, List.setIfInBounds_toArray, List.set_cons_zero, List.set_cons_succ])
  repeat (first
    | (refine Ord.ch_value (v := ?_) hT9.out (by decide) (by rfl) ?_ ?_; rotate_left; (focus (intro w5 hS; skip; go_simp <;> with_reducible rfl)); (try simp only [Act.put, List.setIfInBounds_toArray, List.set_cons_zero, List.set_cons_succ]))
    | (refine Ord.ch_off hT9.out (by decide) (by rfl) ?_; (try simp only [Act.put, List.setIfInBounds_toArray, List.set_cons_zero, List.set_cons_succ])))
  refine Ord.InText.nil fun w5 hS => ?_
  clear hT9
  obtain ⟨hC9, hA9⟩ := Ord.chain_end hS
  clear hS
  replace hA9 : Env w0 (boxI a (laneC S.c lv key vs nx st x y z W C X v pf pv) :: LT { S with qc := { S.qc with l := wrap64 (S.qc.l + 1) } } R) w5 := hA9
  clear hE hC9
  have r := hA9.rule 0 rfl
  unfold laneC at r
  go_wp2_with fail
  refine (validate_l _ _ _ (by simp [laneC]) hA9).mono ?_
  rintro o w6 ⟨rfl, b1, b2, hE6⟩
  go_wp2_with fail
  go_ret
  exact ⟨rfl, b1, b2, hE6⟩

end
end Go.Proofs.YtnnjanaclgjneaaGreatDoor

/- Allocs: the link behind what was loaded; the row p4. -/
namespace Go.Proofs.YtnnjanaclgjneaaGreatDoor
open Go.RowKit Go.Maps
set_option maxRecDepth 100000

theorem AF_over {w0 w w' : World} {z0 : List Value} {St : List Value → List Item → List Value → Prop} {κs : List Value} {fo : Option Value} (h : OrdF.AF w0 z0 St κs fo w) (hb : Below w.heap.size w w') : OrdF.AF w0 z0 St κs fo w' := by
  obtain ⟨L, zs, hst, ⟨h1, h2, hE⟩ | ⟨n, hn, hE⟩⟩ := h
  · exact ⟨L, zs, hst, .inl ⟨h1, h2, hE.over hb⟩⟩
  · exact ⟨L, zs, hst, .inr ⟨n, hn, hE.over hb⟩⟩
end Go.Proofs.YtnnjanaclgjneaaGreatDoor
