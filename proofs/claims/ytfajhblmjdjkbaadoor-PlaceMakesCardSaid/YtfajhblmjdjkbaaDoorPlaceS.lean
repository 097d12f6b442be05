/- Layer 5: names. What the package's variables hold; contracts of Name and of what it calls. -/
import Derived.Test.YtfajhblmjdjkbaaDoorPlaceA
import Derived.Test.YtfajhblmjdjkbaaDoorShelfI
import Derived.Lib.AppendIntMem
import Derived.Lib.ItoaLen
import Derived.Laws.Concat
namespace Go.Proofs.YtfajhblmjdjkbaaDoor
open Go.RowKit

/-- A text by its bytes. -/
def bytes (l : List UInt8) : ByteArray := ⟨l.toArray⟩
theorem bytes_size (l : List UInt8) : (bytes l).size = l.length := by simp [bytes, ByteArray.size]
theorem bytes_add (a b : List UInt8) : bytes a ++ bytes b = bytes (a ++ b) := by
  apply ByteArray.ext
  simp [bytes]
theorem bytes_inj {a b : List UInt8} (h : bytes a = bytes b) : a = b := by simpa [bytes] using congrArg (fun x => x.data.toList) h

/-- The names of a slot's parts ahead of its links; of all others. -/
def partsL : List (List UInt8) := [[98, 105, 114, 116, 104], [114, 101, 116, 105, 114, 101], [99, 104, 97, 105, 110], [107, 101, 121], [118, 97, 108], [116, 111, 112], [115, 116, 97, 116, 101]]
def partL (p : Int) : List UInt8 := if p < 7 then partsL.getD p.toNat [] else [110, 101, 120, 116, 32] ++ Lib.itoa (p - 7)
def singL (x : Int) : List UInt8 := if x = 1 then [101, 112, 111, 99, 104] else if x = 2 then [112, 111, 111, 108] else [102, 114, 101, 115, 104]
def noneL : List UInt8 := [110, 111, 110, 101]
def nameL (x y z : Int) : List UInt8 :=
  if singB x y z then singL x else if rootB x y z then [114, 111, 111, 116, 32] ++ Lib.itoa z else if cellB x y z then [115, 108, 111, 116, 32] ++ Lib.itoa y ++ [32] ++ partL z else noneL

/-- What the package's variables hold. -/
structure Glo (w : World) : Prop where
  tab : Lib.TabIs Tryd.prog w "internal/strconv.uint64pow10" .u64 Lib.pow10Tab
  parts : ∀ i, i < 7 → w.cell? ⟨0, i, none⟩ = some (.string (bytes (partsL.getD i [])))
  lt : 0 < w.heap.size
theorem Glo.keep {n : Nat} {w w' : World} (h : Glo w) (hb : Below n w w') (hn : w.heap.size ≤ n) : Glo w' := by
  have hs := hb.size
  refine ⟨Lib.tabBelow_of_tabIs h.tab w' (hb.mono hn), fun i hi => ?_, by have := h.lt; omega⟩
  rw [hb.cell (p := ⟨_, i, none⟩) (by have := h.lt; simp; omega)]
  exact h.parts i hi
theorem Glo.keep' {w1 w2 : World} (h : Glo w1) (hb : Below w1.heap.size w1 w2) : Glo w2 := h.keep hb (Nat.le_refl _)

theorem itoa_any (n : Int) (h0 : -9223372036854775808 ≤ n) (h1 : n ≤ 9223372036854775807) (w : World) (hg : Glo w) :
    Calls Tryd.prog 32 #[.int .i64 n] w fun e w' => e = .returned (.string (bytes (Lib.itoa n))) ∧ Below w.heap.size w w' := by
  refine Calls.mono (Any.strconv_Itoa Tryd.laysM171 n h0 h1 w hg.tab) ?_
  rintro e w' ⟨rfl, k, os, rfl⟩
  exact ⟨rfl, Lib.below_grow _ w (Nat.le_refl _) k os⟩

set_option maxHeartbeats 400000 in
theorem singleName_any (x : Int) (w : World) : Calls Tryd.prog 31 #[.int .i64 x] w fun e w' => e = .returned (.string (bytes (singL x))) ∧ w = w' := by
  by_cases h1 : x = 1
  · subst h1
    go_enter Tryd.func31, Tryd.ntmps31
    go_wp2
    go_ret
    exact ⟨rfl, rfl⟩
  · by_cases h2 : x = 2
    · subst h2
      go_enter Tryd.func31, Tryd.ntmps31
      go_wp2
      go_ret
      exact ⟨rfl, rfl⟩
    · have HS := Lib.hid (show singL x = [102, 114, 101, 115, 104] by unfold singL; rw [if_neg h1, if_neg h2])
      have b1 : (x == 1) = false := by simpa using h1
      have b2 : (x == 2) = false := by simpa using h2
      clear h1 h2
      go_enter Tryd.func31, Tryd.ntmps31
      go_wp2
      go_ret
      exact ⟨by rw [HS.out]; rfl, rfl⟩

set_option maxRecDepth 100000 in
set_option maxHeartbeats 800000 in
theorem partName_any (p : Int) (h0 : 0 ≤ p) (h1 : p ≤ 9223372036854775807) (w : World) (hg : Glo w) : Calls Tryd.prog 33 #[.int .i64 p] w fun e w' => e = .returned (.string (bytes (partL p))) ∧ Below w.heap.size w w' := by
  by_cases h7 : p < 7
  · obtain ⟨j, rfl⟩ := Int.eq_ofNat_of_zero_le h0
    have hj : j < 7 := by omega
    have r := hg.parts j hj
    have hl := hg.lt
    have HP := Lib.hid (show partL (j : Int) = partsL.getD j [] by unfold partL; rw [if_pos h7]; rfl)
    clear hg
    generalize partsL.getD j [] = v at *
    go_enter Tryd.func33, Tryd.ntmps33
    go_wp2
    go_ret
    exact ⟨by rw [HP.out]; rfl, Below.refl _ _⟩
  · have HP := Lib.hid (show bytes [110, 101, 120, 116, 32] ++ bytes (Lib.itoa (p - 7)) = bytes (partL p) by unfold partL; rw [if_neg h7, bytes_add])
    have hd : decide (p < 7) = false := by simpa using h7
    have hsz : (bytes (Lib.itoa (p - 7))).size ≤ 21 := by rw [bytes_size]; exact Lib.itoa_length_le _ (by omega) (by omega)
    have c1 : Hid (∀ v, Glo v → Calls Tryd.prog 32 #[.int .i64 (p - 7)] v fun e w' => e = .returned (.string (bytes (Lib.itoa (p - 7)))) ∧ Below v.heap.size v w') := Lib.hid fun v hv => itoa_any (p - 7) (by omega) (by omega) v hv
    generalize bytes (Lib.itoa (p - 7)) = I at *
    go_enter Tryd.func33, Tryd.ntmps33
    go_wp2_with fail
    refine (c1.out _ hg).mono ?_
    rintro e w1 ⟨rfl, hb⟩
    go_wp2
    go_ret
    exact ⟨by rw [← HP.out]; rfl, hb⟩

theorem partL_length {p : Int} (h0 : 0 ≤ p) (h1 : p ≤ 9223372036854775807) : (partL p).length ≤ 26 := by
  unfold partL
  split
  · next h =>
    obtain ⟨j, rfl⟩ := Int.eq_ofNat_of_zero_le h0
    have : ∀ i : Fin 7, (partsL.getD i.val []).length ≤ 26 := by decide
    exact this ⟨j, by omega⟩
  · have := Lib.itoa_length_le (p - 7) (by omega) (by omega)
    simp only [List.length_append, List.length_cons, List.length_nil]
    omega

set_option maxRecDepth 100000 in
set_option maxHeartbeats 1600000 in
theorem name_any (x y z : Int) (hy : y ≤ 9223372036854775807) (hz : z ≤ 9223372036854775807) (w : World) (hg : Glo w) : Calls Tryd.prog 23 #[.agg #[.int .i64 x, .int .i64 y, .int .i64 z]] w fun e w' => e = .returned (.string (bytes (nameL x y z))) ∧ Below w.heap.size w w' := by
  have hF := (Fr.start w).push w.heap.size rfl [.int .i64 x, .int .i64 y, .int .i64 z] 25
  have r := hF.rule 0 rfl
  cases hs : singB x y z
  · cases hr : rootB x y z
    · cases hc : cellB x y z
      · have HN := Lib.hid (show nameL x y z = noneL by unfold nameL; rw [hs, hr, hc]; rfl)
        have HS := Lib.hid hs
        have HR := Lib.hid hr
        have HC := Lib.hid hc
        clear hs hr hc
        go_enter Tryd.func23, Tryd.ntmps23
        go_wp2_with (first
          | (with_reducible refine (isSingle_any _ _ _ _).mono ?_; rintro e w1 ⟨rfl, hb⟩; rw [HS.out]; replace hF := hF.over hb; clear hb r; have r := hF.rule 0 rfl)
          | (with_reducible refine (isRoot_any _ _ _ _).mono ?_; rintro e w1 ⟨rfl, hb⟩; rw [HR.out]; replace hF := hF.over hb; clear hb r; have r := hF.rule 0 rfl)
          | (with_reducible refine (isCell_any _ _ _ _).mono ?_; rintro e w1 ⟨rfl, hb⟩; rw [HC.out]; replace hF := hF.over hb; clear hb r; have r := hF.rule 0 rfl))
        go_ret
        exact ⟨by rw [HN.out]; rfl, hF.below⟩
      · have hb := hc
        unfold cellB at hb
        rw [decide_eq_true_iff] at hb
        have HN := Lib.hid (show ({ data := #[115, 108, 111, 116, 32] } ++ bytes (Lib.itoa y) ++ { data := #[32] } ++ bytes (partL z) : ByteArray) = bytes (nameL x y z) by
          have e : nameL x y z = [115, 108, 111, 116, 32] ++ Lib.itoa y ++ [32] ++ partL z := by unfold nameL; rw [hs, hr, hc]; rfl
          rw [e, ← bytes_add, ← bytes_add, ← bytes_add]
          rfl)
        have c1 : Hid (∀ v, Glo v → Calls Tryd.prog 32 #[.int .i64 y] v fun e w' => e = .returned (.string (bytes (Lib.itoa y))) ∧ Below v.heap.size v w') := Lib.hid fun v hv => itoa_any y (by omega) hy v hv
        have c2 : Hid (∀ v, Glo v → Calls Tryd.prog 33 #[.int .i64 z] v fun e w' => e = .returned (.string (bytes (partL z))) ∧ Below v.heap.size v w') := Lib.hid fun v hv => partName_any z (by omega) hz v hv
        have s1 : (bytes (Lib.itoa y)).size ≤ 21 := by rw [bytes_size]; exact Lib.itoa_length_le _ (by omega) (by omega)
        have s2 : (bytes (partL z)).size ≤ 26 := by rw [bytes_size]; exact partL_length (by omega) hz
        have HS := Lib.hid hs
        have HR := Lib.hid hr
        have HC := Lib.hid hc
        clear hs hr hc hb
        generalize bytes (Lib.itoa y) = I at *
        generalize bytes (partL z) = J at *
        generalize bytes (nameL x y z) = K at *
        go_enter Tryd.func23, Tryd.ntmps23
        go_wp2_with (first
          | (with_reducible refine (isSingle_any _ _ _ _).mono ?_; rintro e w1 ⟨rfl, hb⟩; rw [HS.out]; replace hF := hF.over hb; clear hb r; have r := hF.rule 0 rfl)
          | (with_reducible refine (isRoot_any _ _ _ _).mono ?_; rintro e w1 ⟨rfl, hb⟩; rw [HR.out]; replace hF := hF.over hb; clear hb r; have r := hF.rule 0 rfl)
          | (with_reducible refine (isCell_any _ _ _ _).mono ?_; rintro e w1 ⟨rfl, hb⟩; rw [HC.out]; replace hF := hF.over hb; clear hb r; have r := hF.rule 0 rfl))
        clear r
        have g1 : ¬ 9223372036854775807 < 5 + I.size := by omega
        have g2 : ¬ 9223372036854775807 < 5 + I.size + 1 := by omega
        have g3 : ¬ 9223372036854775807 < 5 + I.size + 1 + J.size := by omega
        refine wp_text (S := Fr w [(w.heap.size, [.int .i64 x, .int .i64 y, .int .i64 z])]) (by kernel_rfl) (by kernel_rfl) ?hS (fun hT => ?_)
        case hS => exact Fr.drew hF
        have hT9 := Lib.hid hT
        clear hT hF
        repeat (first
          | (refine text_value (v := ?_) hT9.out (by rfl) ?_ ?_; rotate_left; (focus (intro w5 hS; have r := hS.rule 0 rfl; go_simp <;> with_reducible rfl)); (try simp only [Act.put, List.setIfInBounds_toArray, List.set_cons_zero, List.set_cons_succ]))
          | (refine text_off hT9.out (by rfl) ?_; (try simp only [Act.put, List.setIfInBounds_toArray, List.set_cons_zero, List.set_cons_succ]))
          | (refine text_call (v := ?_) (f := ?_) (args := ?_) hT9.out (by rfl) ?_ ?_ ?_; rotate_left 3; (focus (intro w5 hS; have r := hS.rule 0 rfl; go_simp; constructor <;> with_reducible rfl)); (focus (intro w5 hS; (first | (with_reducible refine (c1.out _ (hg.keep hS.below (Nat.le_refl _))).mono ?_; rintro e w6 ⟨rfl, hb5⟩; constructor; with_reducible rfl; exact hS.over hb5) | (with_reducible refine (c2.out _ (hg.keep hS.below (Nat.le_refl _))).mono ?_; rintro e w6 ⟨rfl, hb5⟩; constructor; with_reducible rfl; exact hS.over hb5)))); (try simp only [Act.put, List.setIfInBounds_toArray, List.set_cons_zero, List.set_cons_succ])))
        refine InText.nil fun w5 hF => ?_
        clear hT9
        go_wp2_with fail
        go_ret
        exact ⟨by rw [← HN.out]; rfl, hF.below⟩
    · have hb := hr
      unfold rootB at hb
      rw [decide_eq_true_iff] at hb
      have HN := Lib.hid (show ({ data := #[114, 111, 111, 116, 32] } ++ bytes (Lib.itoa z) : ByteArray) = bytes (nameL x y z) by
        have e : nameL x y z = [114, 111, 111, 116, 32] ++ Lib.itoa z := by unfold nameL; rw [hs, hr]; rfl
        rw [e, ← bytes_add]
        rfl)
      have c1 : Hid (∀ v, Glo v → Calls Tryd.prog 32 #[.int .i64 z] v fun e w' => e = .returned (.string (bytes (Lib.itoa z))) ∧ Below v.heap.size v w') := Lib.hid fun v hv => itoa_any z (by omega) hz v hv
      have s1 : (bytes (Lib.itoa z)).size ≤ 21 := by rw [bytes_size]; exact Lib.itoa_length_le _ (by omega) (by omega)
      have HS := Lib.hid hs
      have HR := Lib.hid hr
      clear hs hr hb
      generalize bytes (Lib.itoa z) = I at *
      generalize bytes (nameL x y z) = K at *
      go_enter Tryd.func23, Tryd.ntmps23
      go_wp2_with (first
        | (with_reducible refine (isSingle_any _ _ _ _).mono ?_; rintro e w1 ⟨rfl, hb⟩; rw [HS.out]; replace hF := hF.over hb; clear hb r; have r := hF.rule 0 rfl)
        | (with_reducible refine (isRoot_any _ _ _ _).mono ?_; rintro e w1 ⟨rfl, hb⟩; rw [HR.out]; replace hF := hF.over hb; clear hb r; have r := hF.rule 0 rfl)
        | (with_reducible refine (c1.out _ (hg.keep hF.below (Nat.le_refl _))).mono ?_; rintro e w1 ⟨rfl, hb⟩; replace hF := hF.over hb; clear hb r; have r := hF.rule 0 rfl))
      go_ret
      exact ⟨by rw [← HN.out]; rfl, hF.below⟩
  · have HN := Lib.hid (show nameL x y z = singL x by unfold nameL; rw [hs]; rfl)
    have HS := Lib.hid hs
    clear hs
    go_enter Tryd.func23, Tryd.ntmps23
    go_wp2_with (first
      | (with_reducible refine (isSingle_any _ _ _ _).mono ?_; rintro e w1 ⟨rfl, hb⟩; rw [HS.out]; replace hF := hF.over hb; clear hb r; have r := hF.rule 0 rfl)
      | (with_reducible refine (singleName_any _ _).mono ?_; rintro e w1 ⟨rfl, rfl⟩))
    go_ret
    exact ⟨by rw [HN.out]; rfl, hF.below⟩
end Go.Proofs.YtfajhblmjdjkbaaDoor
