/- What is proved on the way to the statement, part 3 of 4: contracts of the functions, among other things in memory. -/
import Derived.Test.YtdeohigggjfjjaaE2
import Derived.Shelf.SlSortCmp.NoneTotal
import Derived.Ground.SlsfProg
import Derived.Test.YtdeohigggjfjjaaProg
import Derived.Test.YtdeohigggjfjjaaChecked
import Derived.Deep.AppendLies
import Derived.Maps.AppendAt
import Derived.OneCell
import Derived.Laws.OwnMore
import Derived.Deep.Light
import Derived.Lib.SmallJoins
import Derived.Deep.Slices
import Derived.WalkKit
import Derived.Lib.SliceRun
import Derived.SizedLaws

/- Layer 21: the program is awake. -/
namespace Go.Proofs.Ytdeohigggjfjjaa
open Go.RowKit
set_option maxRecDepth 100000

theorem k15 : SOk [((1 : Int), (5 : Int))] := ⟨by simp, by simp, by intro p hp; simp at hp; subst hp; unfold InU; omega⟩
theorem up15 : [((1 : Int), (5 : Int))].Pairwise fun a b => a.1 < b.1 := by simp
set_option maxHeartbeats 4000000 in
theorem awake21 (w : World) : Calls Try.prog 8 #[] w fun e w' => e = .returned (.bool true) ∧ Below w.heap.size w w' := by
  have C1 : Hid (∀ w', Calls Try.prog 9 #[.agg (encS []).toArray, .agg #[.int .i64 4, .int .u64 1, .int .u64 5, .int .i64 0]] w' fun e w'' => e = .returned (.tuple #[.agg (encS [(1, 5)]).toArray, .agg (encA 0 false 0).toArray, .int .i64 0]) ∧ Below w'.heap.size w' w'') := Lib.hid fun w' => do_s [] .nil (by simp) 4 1 5 0 w'
  have C2 : Hid (∀ w', Calls Try.prog 9 #[.agg (encS [(1, 5)]).toArray, .agg #[.int .i64 5, .int .u64 1, .int .u64 6, .int .i64 0]] w' fun e w'' => e = .returned (.tuple #[.agg (encS [(1, 5)]).toArray, .agg (encA 0 false 5).toArray, .int .i64 0]) ∧ Below w'.heap.size w' w'') := Lib.hid fun w' => do_s [(1, 5)] up15 (by simp) 5 1 6 0 w'
  have C3 : Hid (∀ w', Calls Try.prog 11 #[.agg (encS [(1, 5)]).toArray, .int .u64 1] w' fun e w'' => e = .returned (.tuple #[.int .u64 5, .bool true]) ∧ Below w'.heap.size w' w'') := Lib.hid fun w' => get_s [(1, 5)] up15 (by simp) 1 w'
  have C4 : Hid (∀ w', Calls Try.prog 16 #[.agg (encS [(1, 5)]).toArray, .agg #[.int .i64 1, .int .u64 2, .int .u64 0, .int .i64 0], .agg #[.int .i64 6, .bool false, .int .u64 0]] w' fun e w'' => e = .returned (.tuple #[.agg (encS [(1, 5)]).toArray, .bool true]) ∧ Below w'.heap.size w' w'') := Lib.hid fun w' => may_s [(1, 5)] up15 (by simp) 1 2 0 0 6 false 0 w'
  have C5 : Hid (∀ w', Calls Try.prog 16 #[.agg (encS [(1, 5)]).toArray, .agg #[.int .i64 7, .int .u64 1, .int .u64 0, .int .i64 0], .agg #[.int .i64 0, .bool false, .int .u64 0]] w' fun e w'' => e = .returned (.tuple #[.agg (encS []).toArray, .bool false]) ∧ Below w'.heap.size w' w'') := Lib.hid fun w' => may_s [(1, 5)] up15 (by simp) 7 1 0 0 0 false 0 w'
  have hF := Fr.start w
  go_enter Try.func8, Try.ntmps8
  go_upto_region 1 with fail
  apply wp_region_lit
  refine wpList_buildTo rfl 29 _ rfl (some 13) rfl (encS []).toArray (by kernel_rfl) ?_
  refine Go.Great.wpList_allocTo rfl (some 1) rfl (.pointer (some ⟨w.heap.size, 0, none⟩)) (.cells (encS []).toArray 29) (by kernel_rfl) ?_
  replace hF := hF.push w.heap.size rfl (encS []) 29
  generalize World.alloc w _ = w1 at *
  refine wpList_store_mid rfl 29 _ _ rfl w.heap.size 0 (encS []).toArray rfl rfl (hF.there 0 rfl (by omega) (by rw [List.size_toArray])) (size33a (by simp)) (one33 _) ?_
  replace hF := hF.whole (us := encS []) (by omega) (by simp <;> omega) rfl
  generalize World.setCells w1 _ _ _ = w2 at *
  go_upto_region 2 with fail
  apply wp_region_lit
  refine wpList_load_mid rfl 29 _ rfl w.heap.size 0 rfl (encS []) _ (hF.range 0 rfl) und29 rfl (size33 (by simp)) ?_
  go_wp2_with fail
  refine (C1.out _).mono ?_
  rintro o w3 ⟨rfl, hb⟩
  replace hF := hF.over hb
  clear hb
  rename_i aK
  refine aK _ _ ?_
  clear aK
  refine Go.Great.wpList_readTo rfl (some 14) rfl _ rfl ?_
  refine Go.Great.wpList_readTo rfl (some 18) rfl (.agg (encS [(1, 5)]).toArray) (by go_simp) ?_
  refine Go.Great.wpList_readTo rfl (some 19) rfl (.agg (encA 0 false 0).toArray) (by go_simp) ?_
  refine Go.Great.wpList_readTo rfl (some 20) rfl (.int .i64 0) (by go_simp) ?_
  refine Go.Great.wpList_allocTo rfl (some 2) rfl (.pointer (some ⟨w3.heap.size, 0, none⟩)) (.cells (encA 0 false 0).toArray 35) (by kernel_rfl) ?_
  have hz5 := hF.lt 0 rfl
  have hz6 : w.heap.size ≤ w3.heap.size := hF.below.size
  replace hF := hF.push w3.heap.size rfl (encA 0 false 0) 35
  generalize World.alloc w3 _ = w4 at *
  generalize w3.heap.size = Z2 at *
  replace hF := hF.sub (bl' := [(w.heap.size, encS []), (Z2, encA 0 false 0)]) (by simp)
  refine wpList_store_mid rfl 29 _ _ rfl w.heap.size 0 (encS [(1, 5)]).toArray rfl rfl (hF.there 0 rfl (by omega) (by rw [encS_length (by simp), List.size_toArray, encS_length (by simp)])) (size33a (by simp)) (one33 _) ?_
  replace hF := hF.whole (us := encS [(1, 5)]) (by omega) (by simp <;> omega) (by rw [encS_length (by simp), encS_length (by simp)])
  generalize World.setCells w4 _ _ _ = w7 at *
  replace hF := hF.sub (bl' := [(Z2, encA 0 false 0), (w.heap.size, encS [(1, 5)])]) (by simp)
  refine wpList_store_mid rfl 35 _ _ rfl Z2 0 (encA 0 false 0).toArray rfl rfl (hF.there 0 rfl (by omega) rfl) size35 (all_oneCell_toArray (encA_one _ _ _)) ?_
  replace hF := hF.whole (us := encA 0 false 0) (by omega) (by simp <;> omega) rfl
  generalize World.setCells w7 _ _ _ = w8 at *
  go_upto_region 3 with fail
  apply wp_region_lit
  refine wpList_load_mid rfl 29 _ rfl w.heap.size 0 rfl (encS [(1, 5)]) _ (hF.range 1 rfl) und29 rfl (size33 (by simp)) ?_
  go_wp2_with fail
  refine (C2.out _).mono ?_
  rintro o w9 ⟨rfl, hb⟩
  replace hF := hF.over hb
  clear hb
  rename_i aK
  refine aK _ _ ?_
  clear aK
  refine Go.Great.wpList_readTo rfl (some 21) rfl _ rfl ?_
  refine Go.Great.wpList_readTo rfl (some 25) rfl (.agg (encS [(1, 5)]).toArray) (by go_simp) ?_
  refine Go.Great.wpList_readTo rfl (some 26) rfl (.agg (encA 0 false 5).toArray) (by go_simp) ?_
  refine Go.Great.wpList_readTo rfl (some 27) rfl (.int .i64 0) (by go_simp) ?_
  refine Go.Great.wpList_allocTo rfl (some 4) rfl (.pointer (some ⟨w9.heap.size, 0, none⟩)) (.cells (encS []).toArray 29) (by kernel_rfl) ?_
  have hz12 := hF.lt 0 rfl
  have hz13 := hF.lt 1 rfl
  have hz14 : w.heap.size ≤ w9.heap.size := hF.below.size
  have hq15 : (w9.alloc (.cells (encS []).toArray 29)).heap.size = w9.heap.size + 1 := by simp
  replace hF := hF.push w9.heap.size rfl (encS []) 29
  generalize World.alloc w9 _ = w10 at *
  generalize w9.heap.size = Z4 at *
  refine Go.Great.wpList_allocTo rfl (some 5) rfl (.pointer (some ⟨Z4 + 1, 0, none⟩)) (.cells (encA 0 false 0).toArray 35) (by rw [← hq15]; kernel_rfl) ?_
  replace hF := hF.push (Z4 + 1) hq15 (encA 0 false 0) 35
  generalize World.alloc w10 _ = w11 at *
  clear hq15
  replace hF := hF.sub (bl' := [(Z4, encS []), ((Z4 + 1), encA 0 false 0), (Z2, encA 0 false 0), (w.heap.size, encS [(1, 5)])]) (by simp)
  refine wpList_store_mid rfl 29 _ _ rfl Z4 0 (encS [(1, 5)]).toArray rfl rfl (hF.there 0 rfl (by omega) (by rw [encS_length (by simp), List.size_toArray, encS_length (by simp)])) (size33a (by simp)) (one33 _) ?_
  replace hF := hF.whole (us := encS [(1, 5)]) (by omega) (by simp <;> omega) (by rw [encS_length (by simp), encS_length (by simp)])
  generalize World.setCells w11 _ _ _ = w16 at *
  replace hF := hF.sub (bl' := [((Z4 + 1), encA 0 false 0), (Z4, encS [(1, 5)]), (Z2, encA 0 false 0), (w.heap.size, encS [(1, 5)])]) (by simp)
  refine wpList_store_mid rfl 35 _ _ rfl (Z4 + 1) 0 (encA 0 false 5).toArray rfl rfl (hF.there 0 rfl (by omega) rfl) size35 (all_oneCell_toArray (encA_one _ _ _)) ?_
  replace hF := hF.whole (us := encA 0 false 5) (by omega) (by simp <;> omega) rfl
  generalize World.setCells w16 _ _ _ = w17 at *
  go_upto_region 4 with fail
  apply wp_region_lit
  refine wpList_load_mid rfl 29 _ rfl Z4 0 rfl (encS [(1, 5)]) _ (hF.range 1 rfl) und29 rfl (size33 (by simp)) ?_
  go_wp2_with fail
  refine (C3.out _).mono ?_
  rintro o w18 ⟨rfl, hb⟩
  replace hF := hF.over hb
  clear hb
  rename_i aK
  refine aK _ _ ?_
  clear aK
  go_upto_region 5 with fail
  apply wp_region_lit
  refine wpList_load_mid rfl 29 _ rfl Z4 0 rfl (encS [(1, 5)]) _ (hF.range 1 rfl) und29 rfl (size33 (by simp)) ?_
  go_wp2_with fail
  refine (C4.out _).mono ?_
  rintro o w19 ⟨rfl, hb⟩
  replace hF := hF.over hb
  clear hb
  rename_i aK
  refine aK _ _ ?_
  clear aK
  refine Go.Great.wpList_readTo rfl (some 33) rfl _ rfl ?_
  refine Go.Great.wpList_readTo rfl (some 38) rfl (.agg (encS [(1, 5)]).toArray) (by go_simp) ?_
  refine Go.Great.wpList_readTo rfl (some 39) rfl (.bool true) (by go_simp) ?_
  refine Go.Great.wpList_allocTo rfl (some 9) rfl (.pointer (some ⟨w19.heap.size, 0, none⟩)) (.cells (encS []).toArray 29) (by kernel_rfl) ?_
  have hz21 := hF.lt 0 rfl
  have hz22 := hF.lt 1 rfl
  have hz23 := hF.lt 2 rfl
  have hz24 := hF.lt 3 rfl
  have hz25 : w.heap.size ≤ w19.heap.size := hF.below.size
  replace hF := hF.push w19.heap.size rfl (encS []) 29
  generalize World.alloc w19 _ = w20 at *
  generalize w19.heap.size = Z9 at *
  refine wpList_store_mid rfl 29 _ _ rfl Z9 0 (encS [(1, 5)]).toArray rfl rfl (hF.there 0 rfl (by omega) (by rw [encS_length (by simp), List.size_toArray, encS_length (by simp)])) (size33a (by simp)) (one33 _) ?_
  replace hF := hF.whole (us := encS [(1, 5)]) (by omega) (by simp <;> omega) (by rw [encS_length (by simp), encS_length (by simp)])
  generalize World.setCells w20 _ _ _ = w26 at *
  go_upto_region 6 with fail
  apply wp_region_lit
  refine wpList_load_mid rfl 29 _ rfl Z4 0 rfl (encS [(1, 5)]) _ (hF.range 2 rfl) und29 rfl (size33 (by simp)) ?_
  go_wp2_with fail
  refine (C5.out _).mono ?_
  rintro o w27 ⟨rfl, hb⟩
  replace hF := hF.over hb
  clear hb
  rename_i aK
  refine aK _ _ ?_
  clear aK
  refine Go.Great.wpList_readTo rfl (some 40) rfl _ rfl ?_
  refine Go.Great.wpList_readTo rfl (some 45) rfl (.agg (encS []).toArray) (by go_simp) ?_
  refine Go.Great.wpList_readTo rfl (some 46) rfl (.bool false) (by go_simp) ?_
  refine Go.Great.wpList_allocTo rfl (some 11) rfl (.pointer (some ⟨w27.heap.size, 0, none⟩)) (.cells (encS []).toArray 29) (by kernel_rfl) ?_
  have hz29 := hF.lt 0 rfl
  have hz30 := hF.lt 1 rfl
  have hz31 := hF.lt 2 rfl
  have hz32 := hF.lt 3 rfl
  have hz33 := hF.lt 4 rfl
  have hz34 : w.heap.size ≤ w27.heap.size := hF.below.size
  replace hF := hF.push w27.heap.size rfl (encS []) 29
  generalize World.alloc w27 _ = w28 at *
  generalize w27.heap.size = Z11 at *
  refine wpList_store_mid rfl 29 _ _ rfl Z11 0 (encS []).toArray rfl rfl (hF.there 0 rfl (by omega) (by rw [List.size_toArray])) (size33a (by simp)) (one33 _) ?_
  replace hF := hF.whole (us := encS []) (by omega) (by simp <;> omega) rfl
  generalize World.setCells w28 _ _ _ = w35 at *
  go_upto_region 7 with fail
  apply wp_region_lit
  refine wpList_on (.agg #[.int .i64 0, .bool false, .int .u64 0]) (by rfl) (exec_load _ 35 _ rfl Z2 rfl (encA 0 false 0) _ (hF.range 4 rfl) und35 rfl size35) ?_
  (try simp only [Act.put, List.setIfInBounds_toArray, List.set_cons_zero, List.set_cons_succ])
  refine wpList_on ?_ (by rfl) ?_ ?_
  rotate_left
  focus (go_simp <;> with_reducible rfl)
  (try simp only [Act.put, List.setIfInBounds_toArray, List.set_cons_zero, List.set_cons_succ])
  refine wpList_on ?_ (by rfl) ?_ ?_
  rotate_left
  focus (go_simp <;> with_reducible rfl)
  (try simp only [Act.put, List.setIfInBounds_toArray, List.set_cons_zero, List.set_cons_succ])
  refine wpList_on ?_ (by rfl) ?_ ?_
  rotate_left
  focus (go_simp <;> with_reducible rfl)
  (try simp only [Act.put, List.setIfInBounds_toArray, List.set_cons_zero, List.set_cons_succ])
  refine wpList_on ?_ (by rfl) ?_ ?_
  rotate_left
  focus (go_simp <;> with_reducible rfl)
  (try simp only [Act.put, List.setIfInBounds_toArray, List.set_cons_zero, List.set_cons_succ])
  refine wpList_on ?_ (by rfl) ?_ ?_
  rotate_left
  focus (go_simp <;> with_reducible rfl)
  (try simp only [Act.put, List.setIfInBounds_toArray, List.set_cons_zero, List.set_cons_succ])
  refine wpList_on ?_ (by rfl) ?_ ?_
  rotate_left
  focus (go_simp <;> with_reducible rfl)
  (try simp only [Act.put, List.setIfInBounds_toArray, List.set_cons_zero, List.set_cons_succ])
  refine wpList_on ?_ (by rfl) ?_ ?_
  rotate_left
  focus (go_simp <;> with_reducible rfl)
  (try simp only [Act.put, List.setIfInBounds_toArray, List.set_cons_zero, List.set_cons_succ])
  refine wpList_on (.agg #[.int .i64 0, .bool false, .int .u64 5]) (by rfl) (exec_load _ 35 _ rfl (Z4 + 1) rfl (encA 0 false 5) _ (hF.range 2 rfl) und35 rfl size35) ?_
  (try simp only [Act.put, List.setIfInBounds_toArray, List.set_cons_zero, List.set_cons_succ])
  refine wpList_on ?_ (by rfl) ?_ ?_
  rotate_left
  focus (go_simp <;> with_reducible rfl)
  (try simp only [Act.put, List.setIfInBounds_toArray, List.set_cons_zero, List.set_cons_succ])
  refine wpList_on ?_ (by rfl) ?_ ?_
  rotate_left
  focus (go_simp <;> with_reducible rfl)
  (try simp only [Act.put, List.setIfInBounds_toArray, List.set_cons_zero, List.set_cons_succ])
  refine wpList_on ?_ (by rfl) ?_ ?_
  rotate_left
  focus (go_simp <;> with_reducible rfl)
  (try simp only [Act.put, List.setIfInBounds_toArray, List.set_cons_zero, List.set_cons_succ])
  refine wpList_on ?_ (by rfl) ?_ ?_
  rotate_left
  focus (go_simp <;> with_reducible rfl)
  (try simp only [Act.put, List.setIfInBounds_toArray, List.set_cons_zero, List.set_cons_succ])
  refine wpList_on ?_ (by rfl) ?_ ?_
  rotate_left
  focus (go_simp <;> with_reducible rfl)
  (try simp only [Act.put, List.setIfInBounds_toArray, List.set_cons_zero, List.set_cons_succ])
  refine wpList_on ?_ (by rfl) ?_ ?_
  rotate_left
  focus (go_simp <;> with_reducible rfl)
  (try simp only [Act.put, List.setIfInBounds_toArray, List.set_cons_zero, List.set_cons_succ])
  refine wpList_on ?_ (by rfl) ?_ ?_
  rotate_left
  focus (go_simp <;> with_reducible rfl)
  (try simp only [Act.put, List.setIfInBounds_toArray, List.set_cons_zero, List.set_cons_succ])
  refine wpList_on ?_ (by rfl) ?_ ?_
  rotate_left
  focus (go_simp <;> with_reducible rfl)
  (try simp only [Act.put, List.setIfInBounds_toArray, List.set_cons_zero, List.set_cons_succ])
  refine wpList_on ?_ (by rfl) ?_ ?_
  rotate_left
  focus (go_simp <;> with_reducible rfl)
  (try simp only [Act.put, List.setIfInBounds_toArray, List.set_cons_zero, List.set_cons_succ])
  refine wpList_on ?_ (by rfl) ?_ ?_
  rotate_left
  focus (go_simp <;> with_reducible rfl)
  (try simp only [Act.put, List.setIfInBounds_toArray, List.set_cons_zero, List.set_cons_succ])
  refine wpList_on ?_ (by rfl) ?_ ?_
  rotate_left
  focus (go_simp <;> with_reducible rfl)
  (try simp only [Act.put, List.setIfInBounds_toArray, List.set_cons_zero, List.set_cons_succ])
  refine wpList_on ?_ (by rfl) ?_ ?_
  rotate_left
  focus (go_simp <;> with_reducible rfl)
  (try simp only [Act.put, List.setIfInBounds_toArray, List.set_cons_zero, List.set_cons_succ])
  refine wpList_on ?_ (by rfl) ?_ ?_
  rotate_left
  focus (go_simp <;> with_reducible rfl)
  (try simp only [Act.put, List.setIfInBounds_toArray, List.set_cons_zero, List.set_cons_succ])
  refine wpList_on ?_ (by rfl) ?_ ?_
  rotate_left
  focus (go_simp <;> with_reducible rfl)
  (try simp only [Act.put, List.setIfInBounds_toArray, List.set_cons_zero, List.set_cons_succ])
  refine wpList_on ?_ (by rfl) ?_ ?_
  rotate_left
  focus (go_simp <;> with_reducible rfl)
  (try simp only [Act.put, List.setIfInBounds_toArray, List.set_cons_zero, List.set_cons_succ])
  refine wpList_on (.agg (encS [(1, 5)]).toArray) (by rfl) (exec_load _ 29 _ rfl w.heap.size rfl (encS [(1, 5)]) _ (hF.range 5 rfl) und29 rfl (size33 (by simp))) ?_
  (try simp only [Act.put, List.setIfInBounds_toArray, List.set_cons_zero, List.set_cons_succ])
  refine wpList_on (.agg (encS [(1, 5)]).toArray) (by rfl) (exec_load _ 29 _ rfl Z4 rfl (encS [(1, 5)]) _ (hF.range 3 rfl) und29 rfl (size33 (by simp))) ?_
  (try simp only [Act.put, List.setIfInBounds_toArray, List.set_cons_zero, List.set_cons_succ])
  refine wpList_on (.bool (decide ([(1, 5)] = [(1, 5)]))) (by rfl) (exec_eql _ _ _ rfl (a := [(1, 5)]) (b := [(1, 5)]) k15 k15 rfl rfl) ?_
  (try simp only [Act.put, List.setIfInBounds_toArray, List.set_cons_zero, List.set_cons_succ])
  refine wpList_on ?_ (by rfl) ?_ ?_
  rotate_left
  focus (go_simp <;> with_reducible rfl)
  (try simp only [Act.put, List.setIfInBounds_toArray, List.set_cons_zero, List.set_cons_succ])
  refine wpList_on ?_ (by rfl) ?_ ?_
  rotate_left
  focus (go_simp <;> with_reducible rfl)
  (try simp only [Act.put, List.setIfInBounds_toArray, List.set_cons_zero, List.set_cons_succ])
  refine wpList_on ?_ (by rfl) ?_ ?_
  rotate_left
  focus (go_simp <;> with_reducible rfl)
  (try simp only [Act.put, List.setIfInBounds_toArray, List.set_cons_zero, List.set_cons_succ])
  refine wpList_on ?_ (by rfl) ?_ ?_
  rotate_left
  focus (go_simp <;> with_reducible rfl)
  (try simp only [Act.put, List.setIfInBounds_toArray, List.set_cons_zero, List.set_cons_succ])
  refine wpList_on ?_ (by rfl) ?_ ?_
  rotate_left
  focus (go_simp <;> with_reducible rfl)
  (try simp only [Act.put, List.setIfInBounds_toArray, List.set_cons_zero, List.set_cons_succ])
  refine wpList_on (.agg (encS [(1, 5)]).toArray) (by rfl) (exec_load _ 29 _ rfl Z9 rfl (encS [(1, 5)]) _ (hF.range 1 rfl) und29 rfl (size33 (by simp))) ?_
  (try simp only [Act.put, List.setIfInBounds_toArray, List.set_cons_zero, List.set_cons_succ])
  refine wpList_on (.agg (encS [(1, 5)]).toArray) (by rfl) (exec_load _ 29 _ rfl Z4 rfl (encS [(1, 5)]) _ (hF.range 3 rfl) und29 rfl (size33 (by simp))) ?_
  (try simp only [Act.put, List.setIfInBounds_toArray, List.set_cons_zero, List.set_cons_succ])
  refine wpList_on (.bool (decide ([(1, 5)] = [(1, 5)]))) (by rfl) (exec_eql _ _ _ rfl (a := [(1, 5)]) (b := [(1, 5)]) k15 k15 rfl rfl) ?_
  (try simp only [Act.put, List.setIfInBounds_toArray, List.set_cons_zero, List.set_cons_succ])
  refine wpList_on ?_ (by rfl) ?_ ?_
  rotate_left
  focus (go_simp <;> with_reducible rfl)
  (try simp only [Act.put, List.setIfInBounds_toArray, List.set_cons_zero, List.set_cons_succ])
  refine wpList_on ?_ (by rfl) ?_ ?_
  rotate_left
  focus (go_simp <;> with_reducible rfl)
  (try simp only [Act.put, List.setIfInBounds_toArray, List.set_cons_zero, List.set_cons_succ])
  refine wpList_on ?_ (by rfl) ?_ ?_
  rotate_left
  focus (go_simp <;> with_reducible rfl)
  (try simp only [Act.put, List.setIfInBounds_toArray, List.set_cons_zero, List.set_cons_succ])
  refine wpList_on ?_ (by rfl) ?_ ?_
  rotate_left
  focus (go_simp <;> with_reducible rfl)
  (try simp only [Act.put, List.setIfInBounds_toArray, List.set_cons_zero, List.set_cons_succ])
  refine wpList_on ?_ (by rfl) ?_ ?_
  rotate_left
  focus (go_simp <;> with_reducible rfl)
  (try simp only [Act.put, List.setIfInBounds_toArray, List.set_cons_zero, List.set_cons_succ])
  refine wpList_on ?_ (by rfl) ?_ ?_
  rotate_left
  focus (go_simp <;> with_reducible rfl)
  (try simp only [Act.put, List.setIfInBounds_toArray, List.set_cons_zero, List.set_cons_succ])
  refine wpList_on ?_ (by rfl) ?_ ?_
  rotate_left
  focus (go_simp <;> with_reducible rfl)
  (try simp only [Act.put, List.setIfInBounds_toArray, List.set_cons_zero, List.set_cons_succ])
  refine wpList_on ?_ (by rfl) ?_ ?_
  rotate_left
  focus (go_simp <;> with_reducible rfl)
  (try simp only [Act.put, List.setIfInBounds_toArray, List.set_cons_zero, List.set_cons_succ])
  apply wpList_nil
  go_wp2_with fail
  go_ret
  exact ⟨rfl, hF.below⟩
end Go.Proofs.Ytdeohigggjfjjaa

/-
  DERIVED: THE SHELF's CONTRACTS AT THIS DUMP, IN PLAIN WORDS (tools/lay-plain.mjs out of 'YtdeohigggjfjjaaShelfP.lean', which tools/lay-shelf.mjs wrote): THE SAME DECLARATIONS UNDER THE SAME NAMES: 'import', 'namespace', 'open', 'def', 'theorem' AND NOTHING ELSE: no command of the shelf's: FOR A HAND-IN. Each laying: the table of numbers ('.._ren') and one theorem, a field a fact of the dump's own or the kernel's comparison; each contract: ONE APPLICATION.
-/
namespace Go.Proofs
open Go.Shelf
def Try.sortPairs_ren : Go.Shelf.Ren := ⟨fun | 6 => 27 | 15 => 34 | 14 => 33 | 28 => 44 | 29 => 45 | 20 => 36 | 21 => 37 | 22 => 38 | 23 => 39 | 24 => 40 | 25 => 41 | 26 => 42 | 27 => 43 | 46 => 46 | 47 => 47 | 48 => 48 | 49 => 49 | 50 => 50 | 57 => 51 | n => n, fun | 22 => 46 | 24 => 26 | 25 => 74 | 3 => 3 | 39 => 62 | 0 => 0 | 53 => 90 | 55 => 23 | 4 => 4 | 46 => 84 | 45 => 83 | 50 => 66 | 5 => 5 | 9 => 9 | 66 => 92 | 70 => 96 | 76 => 98 | 77 => 99 | n => n, fun | n => n⟩
theorem Try.sortPairs : Go.Proofs.SlLaysF0.n6 Try.prog Try.sortPairs_ren := {
  mixed := by kernel_rfl
  f6 := ⟨Try.f27.name, by decide, Try.func27.trans (congrArg some (by kernel_rfl))⟩
  f14 := ⟨Try.f33.name, by decide, Try.func33.trans (congrArg some (by kernel_rfl))⟩
  f15 := Try.func34.trans (congrArg some (by kernel_rfl))
  f20 := ⟨Try.f36.name, by decide, Try.func36.trans (congrArg some (by kernel_rfl))⟩
  f21 := ⟨Try.f37.name, by decide, Try.func37.trans (congrArg some (by kernel_rfl))⟩
  f22 := ⟨Try.f38.name, by decide, Try.func38.trans (congrArg some (by kernel_rfl))⟩
  f23 := ⟨Try.f39.name, by decide, Try.func39.trans (congrArg some (by kernel_rfl))⟩
  f24 := ⟨Try.f40.name, by decide, Try.func40.trans (congrArg some (by kernel_rfl))⟩
  f25 := ⟨Try.f41.name, by decide, Try.func41.trans (congrArg some (by kernel_rfl))⟩
  f26 := ⟨Try.f42.name, by decide, Try.func42.trans (congrArg some (by kernel_rfl))⟩
  f27 := ⟨Try.f43.name, by decide, Try.func43.trans (congrArg some (by kernel_rfl))⟩
  f28 := Try.func44.trans (congrArg some (by kernel_rfl))
  f29 := Try.func45.trans (congrArg some (by kernel_rfl))
  f46 := ⟨Try.f46.name, by decide, Try.func46.trans (congrArg some (by kernel_rfl))⟩
  f47 := Try.func47.trans (congrArg some (by kernel_rfl))
  f48 := Try.func48.trans (congrArg some (by kernel_rfl))
  f49 := ⟨Try.f49.name, by decide, Try.func49.trans (congrArg some (by kernel_rfl))⟩
  f50 := ⟨Try.f50.name, by decide, Try.func50.trans (congrArg some (by kernel_rfl))⟩
  f57 := ⟨Try.f51.name, by decide, Try.func51.trans (congrArg some (by kernel_rfl))⟩
  t0 := Try.underlying0
  a0 := Try.isAgg0
  z0 := Try.sizeOf0
  v0 := Try.zeroValue0
  t3 := Try.underlying3
  a3 := Try.isAgg3
  z3 := Try.sizeOf3
  v3 := Try.zeroValue3
  t4 := Try.underlying4
  a4 := Try.isAgg4
  z4 := Try.sizeOf4
  v4 := Try.zeroValue4
  t5 := Try.underlying5
  a5 := Try.isAgg5
  z5 := Try.sizeOf5
  v5 := Try.zeroValue5
  t9 := Try.underlying9
  a9 := Try.isAgg9
  z9 := Try.sizeOf9
  v9 := Try.zeroValue9
  t22 := Try.underlying46
  a22 := Try.isAgg46
  z22 := Try.sizeOf46
  v22 := Try.zeroValue46
  t25 := Try.underlying74
  a25 := Try.isAgg74
  z25 := Try.sizeOf74
  v25 := Try.zeroValue74
  t39 := Try.underlying62
  a39 := Try.isAgg62
  z39 := Try.sizeOf62
  v39 := Try.zeroValue62
  t45 := Try.underlying83
  a45 := Try.isAgg83
  z45 := Try.sizeOf83
  v45 := Try.zeroValue83
  t46 := Try.underlying84
  a46 := Try.isAgg84
  z46 := Try.sizeOf84
  v46 := Try.zeroValue84
  t50 := Try.underlying66
  a50 := Try.isAgg66
  z50 := Try.sizeOf66
  v50 := Try.zeroValue66
  t53 := Try.underlying90
  a53 := Try.isAgg90
  z53 := Try.sizeOf90
  v53 := Try.zeroValue90
  t55 := Try.underlying23
  a55 := Try.isAgg23
  z55 := Try.sizeOf23
  v55 := Try.zeroValue23
  t66 := Try.underlying92
  a66 := Try.isAgg92
  z66 := Try.sizeOf92
  v66 := Try.zeroValue92
  t70 := Try.underlying96
  a70 := Try.isAgg96
  z70 := Try.sizeOf96
  v70 := Try.zeroValue96
  t76 := Try.underlying98
  a76 := Try.isAgg98
  z76 := Try.sizeOf98
  v76 := Try.zeroValue98
  t77 := Try.underlying99
  a77 := Try.isAgg99
  z77 := Try.sizeOf99
  v77 := Try.zeroValue99 }
end Go.Proofs

/- Things that a call has made, kept apart: a list of them, each with its blocks and what it is good for. -/
namespace Go.Proofs.Ytdeohigggjfjjaa
open Go.RowKit
set_option maxRecDepth 100000

/-- A thing: its blocks, and what is said of it, which hangs on them alone. -/
structure Item where
  F : Nat → Prop
  says : World → Prop
  loc : ∀ w1 w2, says w1 → (∀ k, F k → w2.heap[k]? = w1.heap[k]?) → w1.heap.size ≤ w2.heap.size → says w2
/-- Since w0 nothing that was there has turned; each thing of the list is what it is; no two share a block. -/
def Env (w0 : World) (L : List Item) (w : World) : Prop :=
  Below w0.heap.size w0 w ∧ L.Pairwise (fun a b => Off a.F b.F) ∧ ∀ a ∈ L, a.says w ∧ ∀ k, a.F k → w0.heap.size ≤ k ∧ k < w.heap.size

section
variable {w0 w w' : World} {L : List Item}
theorem Env.start (w : World) : Env w [] w := ⟨Below.refl _ _, List.Pairwise.nil, by simp⟩
theorem Env.below (h : Env w0 L w) : Below w0.heap.size w0 w := h.1
theorem Env.over (h : Env w0 L w) (hb : Below w.heap.size w w') : Env w0 L w' := by
  refine ⟨h.1.trans (hb.mono h.1.size), h.2.1, fun a ha => ?_⟩
  obtain ⟨h1, h2⟩ := h.2.2 a ha
  exact ⟨a.loc w w' h1 (fun k hk => hb.block k (h2 k hk).2) hb.size, fun k hk => ⟨(h2 k hk).1, Nat.lt_of_lt_of_le (h2 k hk).2 hb.size⟩⟩
theorem Env.more (h : Env w0 L w) (o : Obj) : Env w0 L (w.alloc o) := h.over ((Below.refl _ _).alloc (Nat.le_refl _) o)
theorem Env.drew (h : Env w0 L w) : Env w0 L w.drew := h.over (Below.refl _ w).drew
theorem Env.add (h : Env w0 L w) (a : Item) (hb : Below w.heap.size w w') (ha : a.says w') (hF : ∀ k, a.F k → w.heap.size ≤ k ∧ k < w'.heap.size) : Env w0 (a :: L) w' := by
  have h' := h.over hb
  refine ⟨h'.1, List.pairwise_cons.2 ⟨fun b hb' k hk hk' => ?_, h'.2.1⟩, fun b hb' => ?_⟩
  · have := ((h.2.2 b hb').2 k hk').2
    have := (hF k hk).1
    omega
  · rcases List.mem_cons.1 hb' with rfl | hb'
    · exact ⟨ha, fun k hk => ⟨Nat.le_trans h.1.size (hF k hk).1, (hF k hk).2⟩⟩
    · exact h'.2.2 b hb'
theorem Env.get (h : Env w0 L w) (i : Nat) {a : Item} (hi : L[i]? = some a) : a.says w := (h.2.2 a (List.mem_of_getElem? hi)).1
theorem Env.lt (h : Env w0 L w) (i : Nat) {a : Item} (hi : L[i]? = some a) : ∀ k, a.F k → k < w.heap.size := fun k hk => ((h.2.2 a (List.mem_of_getElem? hi)).2 k hk).2
theorem Env.off (h : Env w0 L w) {i j : Nat} {a b : Item} (hi : L[i]? = some a) (hj : L[j]? = some b) (hij : i ≠ j) : Off a.F b.F := by
  obtain ⟨hi1, hi2⟩ := List.getElem?_eq_some_iff.1 hi
  obtain ⟨hj1, hj2⟩ := List.getElem?_eq_some_iff.1 hj
  have hp := List.pairwise_iff_getElem.1 h.2.1
  rcases Nat.lt_or_gt_of_ne hij with hlt | hlt
  · have := hp i j hi1 hj1 hlt; rw [hi2, hj2] at this; exact this
  · have := hp j i hj1 hi1 hlt; rw [hi2, hj2] at this; exact this.symm
/-- One of them turns. -/
theorem Env.step (h : Env w0 L w) (i : Nat) {a : Item} (b : Item) (hi : L[i]? = some a) (hs : Step a.F b.F w w') (hb : b.says w') (hlt : ∀ k, b.F k → k < w'.heap.size) : Env w0 (L.set i b) w' := by
  have hil : i < L.length := (List.getElem?_eq_some_iff.1 hi).1
  have hai : L[i] = a := (List.getElem?_eq_some_iff.1 hi).2
  have ha := h.2.2 a (List.mem_of_getElem? hi)
  have hB : Below w0.heap.size w0 w' := Turn.below h.1 hs.turn h.1.size fun k hk => (ha.2 k hk).1
  refine ⟨hB, List.pairwise_iff_getElem.2 fun m n hm hn hmn => ?_, fun x hx => ?_⟩
  · rw [List.length_set] at hm hn
    rw [List.getElem_set, List.getElem_set]
    have hof : ∀ j (hj : j < L.length), j ≠ i → Off b.F L[j].F := fun j hj hne => hs.off (h.lt j (by simp)) (h.off hi (j := j) (b := L[j]) (by simp) (fun e => hne e.symm))
    split
    · rename_i e
      split
      · omega
      · rename_i e'; exact hof n hn (fun e2 => e' e2.symm)
    · split
      · rename_i e e'; exact (hof m hm (fun e2 => e e2.symm)).symm
      · exact List.pairwise_iff_getElem.1 h.2.1 m n hm hn hmn
  · obtain ⟨j, hj, rfl⟩ := List.getElem_of_mem hx
    rw [List.length_set] at hj
    rw [List.getElem_set]
    split
    · refine ⟨hb, fun k hk => ⟨?_, hlt k hk⟩⟩
      exact hs.base h.1.size (fun k hk => (ha.2 k hk).1) k hk
    · rename_i e
      obtain ⟨h1, h2⟩ := h.2.2 L[j] (List.getElem_mem hj)
      refine ⟨(L[j]).loc w w' h1 (fun k hk => hs.turn.block k (h2 k hk).2 fun hk' => ?_) hs.turn.size, fun k hk => ⟨(h2 k hk).1, Nat.lt_of_lt_of_le (h2 k hk).2 hs.turn.size⟩⟩
      exact h.off hi (j := j) (b := L[j]) (by simp [hj]) e k hk' hk
theorem Env.sub {L' : List Item} (h : Env w0 L w) (hs : L'.Sublist L) : Env w0 L' w := ⟨h.1, h.2.1.sublist hs, fun a ha => h.2.2 a (hs.subset ha)⟩

theorem Env.perm {L' : List Item} (h : Env w0 L w) (hp : L.Perm L') : Env w0 L' w := ⟨h.1, (hp.pairwise_iff (fun h => Off.symm h)).1 h.2.1, fun a ha => h.2.2 a (hp.mem_iff.2 ha)⟩

/-- A block of cells. -/
def boxI (B : Nat) (vs : List Value) : Item where
  F := fun k => k = B
  says := fun w => Blk 0 w B vs
  loc := fun w1 w2 h hk hs => h.kept hs (hk B rfl)
theorem Env.box (h : Env w0 L w) (n : Nat) (hn : w.heap.size = n) (vs : List Value) (t : TypeId) : Env w0 (boxI n vs :: L) (w.alloc (.cells vs.toArray t)) := by
  subst hn
  exact h.add (boxI w.heap.size vs) ((Below.refl _ _).alloc (Nat.le_refl _) _) (Blk.new 0 w vs t) fun k hk => by subst hk; simp
theorem Env.rule (h : Env w0 L w) (i : Nat) {B : Nat} {vs : List Value} (hi : L[i]? = some (boxI B vs)) : ∀ j, w.cell? ⟨B, j, none⟩ = vs[j]? := Blk.rule (h.get i hi)
theorem Env.thaw (h : Env w0 L w) (i : Nat) {B : Nat} {vs : List Value} (hi : L[i]? = some (boxI B vs)) : ∀ j, j < vs.length → w.frozen? ⟨B, j, none⟩ = false := Blk.thaw (h.get i hi)
theorem Env.boxLt (h : Env w0 L w) (i : Nat) {B : Nat} {vs : List Value} (hi : L[i]? = some (boxI B vs)) : B < w.heap.size := h.lt i hi B rfl
theorem Env.put (h : Env w0 L w) (i : Nat) {B : Nat} {vs : List Value} (hi : L[i]? = some (boxI B vs)) {j : Nat} (hj : j < vs.length) (v : Value) : Env w0 (L.set i (boxI B (vs.set j v))) (w.setCell ⟨B, j, none⟩ v) :=
  h.step i (boxI B (vs.set j v)) hi ⟨(Turn.refl (fun k => k = B) w).setCell (p := ⟨B, j, none⟩) (fun _ => rfl) v, fun k hk => .inl hk⟩ ((show Blk 0 w B vs from h.get i hi).set hj v) fun k hk => by
    have := h.lt i hi k hk
    simpa using this
end
/-- How far it is: of the row the j-th holds. -/
def Stage (Ps : List (World → Prop)) (j : Nat) (w : World) : Prop := ∃ P, Ps[j]? = some P ∧ P w
end Go.Proofs.Ytdeohigggjfjjaa

/- Rows of the call's own, of whatever: kept while others turn; appended to; as things among others. General. -/
namespace Go.Proofs.Ytdeohigggjfjjaa
open Go.RowKit
set_option maxRecDepth 100000

theorem ownsRow_lt {w : World} {b : Nat} {v : Value} {e : TypeId} {n s : Nat} {xs : List Value} (h : w.ownsRow b e s v n xs) : ∀ k, v.ownBlock = some k → k < w.heap.size := fun k hk => (h.lt k hk).2
theorem ownsRow_kept {w w' : World} {b : Nat} {v : Value} {e : TypeId} {n s : Nat} {xs : List Value} (h : w.ownsRow b e s v n xs) (hk : ∀ k, v.ownBlock = some k → w'.heap[k]? = w.heap[k]?) : w'.ownsRow b e s v n xs := by
  refine ⟨h.1, ?_⟩
  rcases h.2 with hn | ⟨g, cap, cur, rfl, hb, hg, rest⟩
  · exact .inl hn
  · exact .inr ⟨g, cap, cur, rfl, hb, (hk g rfl).trans hg, rest⟩
theorem run_call_append {P : Program} {o : Oper} {f : Operand → Value} (s x : Operand) (t : TypeId) (ho : o.op = .call { callee := .builtin .append, args := #[s, x], argTypes := #[t, t] }) {vs vx r : Value} {w w' : World} (hs : f s = vs) (hx : f x = vx)
    (hr : (Builtin.append_ #[t, t] o.type #[vs, vx]).run P w = .ok r w') : (execOp f o).run P w = .ok (.value r) w' := by
  unfold execOp
  simp only [ho, resolve, invoke, builtin, Sem.run_bind, Sem.run_pure, Result.andThen_ok, List.map_toArray, List.map_cons, List.map_nil, hs, hx, hr]
theorem append_lands {P : Program} {o : Oper} {f : Operand → Value} {T : World → Prop} {s x : Operand} {t : TypeId} {vs vx r : Value} {w w' : World} (ho : o.op = .call { callee := .builtin .append, args := #[s, x], argTypes := #[t, t] }) (hr : (Builtin.append_ #[t, t] o.type #[vs, vx]).run P w = .ok r w') (hs : f s = vs) (hx : f x = vx) (hT : T w') : Ord.LandsIn P T r ((execOp f o).run P w) := by
  rw [run_call_append s x t ho hs hx hr]
  exact ⟨rfl, hT⟩
theorem Step.of_below {w w' : World} (F : Nat → Prop) (hb : Below w.heap.size w w') : Step F F w w' := ⟨Turn.of_below hb, fun _ h => .inl h⟩
/-- A row appended to a row of ours: what is appended is nothing, or cells behind an address. -/
theorem run_append_rows {P : Program} (t ty : TypeId) (base : Nat) (e : TypeId) (i : TypeInfo) (z : Value) (size bytes : Nat) (ht : P.underlying t = some (.slice e)) (hi : P.info? e = some i) (hz : i.zero = some z)
    (hsize : i.size = size) (hby : i.bytes = bytes) (hzs : z.cells.size = size) (hsz : 0 < size) (w : World)
    (v : Value) (n : Nat) (xs : List Value) (hown : w.ownsRow base e size v n xs) (A : Option Addr) (m c : Nat) (news : List Value) (hl : news.length = m * size)
    (hnews : (A = none ∧ m = 0) ∨ ∃ ad, A = some ad ∧ ∀ j u, news[j]? = some u → w.cell? (ad.add j) = some u) (h1 : ∀ u ∈ news, u.oneCell' = true)
    (h63 : n + m ≤ maxLen) (hbytes : (n + m) * bytes ≤ 140737488355328) (hbase : base ≤ w.heap.size) :
    ∃ v' w', (Builtin.append_ #[t, t] ty #[v, .slice A m c]).run P w = .ok v' w' ∧ w'.ownsRow base e size v' (n + m) (xs ++ news) ∧ w.grownBy w' v.ownBlock ∧ (v'.ownBlock = v.ownBlock ∨ v'.ownBlock = some w.heap.size) := by
  rcases hnews with ⟨rfl, rfl⟩ | ⟨ad, rfl, hn⟩
  · have h0 : news = [] := List.eq_nil_of_length_eq_zero (by simpa using hl)
    subst h0
    refine ⟨v, w, ?_, by simpa using hown, ⟨rfl, rfl, rfl, Nat.le_refl _, fun _ _ _ => rfl⟩, .inl rfl⟩
    rcases hown.2 with ⟨rfl, rfl⟩ | ⟨g, cap, cur, rfl, hb, hg, hnc, hcm, hcs, htk⟩
    · simp [Builtin.append_, run_underlying ht, sizeOf, typeInfo, hi, Builtin.lenOf, Builtin.firstCells]
    · simp [Builtin.append_, run_underlying ht, sizeOf, typeInfo, hi, Builtin.lenOf, Builtin.firstCells, hnc, storeCells]
  · obtain ⟨v', w', hr, h2, h3, _, h5⟩ := run_append_own_at (P := P) w base t ty e i z size bytes ht hi hz hsize hby hzs hsz v n xs hown ad m c news hl hn h1 h63 hbytes hbase
    exact ⟨v', w', hr, h2, h3, h5⟩
theorem wpList_append_run {P : Program} {ops : Array Oper} {rest : List Oper} {o : Oper} {a : Act} {w : World} {Q : Exit → Act → World → Prop} (hgd : o.guard = none) (s x : Operand) (t : TypeId) (ho : o.op = .call { callee := .builtin .append, args := #[s, x], argTypes := #[t, t] })
    {vs vx r : Value} {w' : World} (hr : (Builtin.append_ #[t, t] o.type #[vs, vx]).run P w = .ok r w') (hs : a.eval s = vs) (hx : a.eval x = vx) (h : wpList P ops Q rest (a.put o.dst r) w') : wpList P ops Q (o :: rest) a w :=
  wpList_plain hgd fun K hK => by
    unfold Oper.wp
    rw [run_call_append s x t ho hs hx hr]
    exact hK _ _ h
theorem ownsRow_base {w : World} {b b' : Nat} {e : TypeId} {s n : Nat} {v : Value} {xs : List Value} (h : w.ownsRow b e s v n xs) (hb : b' ≤ b) : w.ownsRow b' e s v n xs :=
  ⟨h.1, h.2.imp id fun ⟨g, cap, cur, h1, h2, h3⟩ => ⟨g, cap, cur, h1, Nat.le_trans hb h2, h3⟩⟩
theorem ownsRow_slice {w : World} {b : Nat} {e : TypeId} {s n : Nat} {v : Value} {xs : List Value} (h : w.ownsRow b e s v n xs) : ∃ A c, v = .slice A n c := by
  rcases h.2 with ⟨rfl, rfl⟩ | ⟨g, cap, cur, rfl, _⟩
  · exact ⟨_, _, rfl⟩
  · exact ⟨_, _, rfl⟩
theorem cells_new (w : World) (vs : List Value) (t : TypeId) : ∀ j u, vs[j]? = some u → (w.alloc (.cells vs.toArray t)).cell? ((⟨w.heap.size, 0, none⟩ : Addr).add j) = some u := fun j u h => by
  have e : (⟨w.heap.size, 0, none⟩ : Addr).add j = ⟨w.heap.size, j, none⟩ := by unfold Addr.add; split <;> simp_all
  rw [e, (Blk.new 0 w vs t).rule j]
  exact h

/-! ### as things -/
/-- A row: the slice v owns the cells xs. -/
def rowI (v : Value) (e : TypeId) (s n : Nat) (xs : List Value) : Item where
  F := fun k => v.ownBlock = some k
  says := fun w => w.ownsRow 0 e s v n xs
  loc := fun w1 w2 h hk _ => ownsRow_kept h hk
end Go.Proofs.Ytdeohigggjfjjaa

/- A struct by value whose fields are numbers and bools, of however many fields: opened. -/
namespace Go.Proofs.Ytdeohigggjfjjaa
open Go.RowKit Go.WideShapes Go.ChangeShapes Go.ChangeAt Go.Deep
set_option maxRecDepth 100000

inductive Sca | num (k : IntKind) | boo
/-- A field's type is of that form; a value is. -/
def Sca.fits (P : Program) (t : TypeId) : Sca → Prop
  | .num k => P.underlying t = some (.int k)
  | .boo => P.underlying t = some .bool
def Sca.ok (v : Value) : Sca → Prop
  | .num k => ∃ n, v = .int k n ∧ (Lit.int k n).wf = true
  | .boo => ∃ b, v = .bool b
def FitAll (P : Program) : List Field → List Sca → Prop
  | [], [] => True
  | f :: fs, s :: ss => s.fits P f.type ∧ FitAll P fs ss
  | _, _ => False
theorem FitAll.length {P : Program} : ∀ {fs : List Field} {ss : List Sca}, FitAll P fs ss → fs.length = ss.length
  | [], [], _ => rfl
  | _ :: _, _ :: _, h => by simp [FitAll.length h.2]
theorem FitAll.get {P : Program} : ∀ {fs : List Field} {ss : List Sca}, FitAll P fs ss → ∀ {i : Nat} {s : Sca}, ss[i]? = some s → ∃ f, fs[i]? = some f ∧ s.fits P f.type := by
  intro fs
  induction fs with
  | nil =>
    intro ss h i s e
    cases ss with
    | nil => simp at e
    | cons x ss => exact absurd h (by simp [FitAll])
  | cons f fs ih =>
    intro ss h i s e
    cases ss with
    | nil => exact absurd h (by simp [FitAll])
    | cons x ss =>
      cases i with
      | zero =>
        simp at e
        subst e
        exact ⟨f, rfl, h.1⟩
      | succ i =>
        obtain ⟨f', hf, hs⟩ := ih h.2 (i := i) (by simpa using e)
        exact ⟨f', by simpa using hf, hs⟩

section
variable {H : Type} {enc : TypeId × Value → H} {P : Program} {w : World} {base : Nat} {spare : Nat → Bool} {held : Bool}
theorem open_flat {r : Reach} {b0 : Nat} {t : TypeId} {fs : Array Field} {ss : List Sca} {v : Value} {d : DataW H} {p : List MemPlace} (hs : P.underlying t = some (.struct fs)) (hone : oneCellFields P fs = true) (hC : P.cellsOf t = ss.length) (hfit : FitAll P fs.toList ss)
    (hv : Value.okWide P w r b0 t v) (h : DataW.Trod enc P w base spare held t v d p) :
    ∃ cs : Array Value, v = .agg cs ∧ cs.size = ss.length ∧ ∀ (i : Nat) (s : Sca), ss[i]? = some s → ∃ x, cs[i]? = some x ∧ s.ok x := by
  obtain ⟨cs, rfl, hsz⟩ := okWide_struct hs hv
  obtain ⟨fuel, hf⟩ := h
  obtain ⟨xs, n, -, -, hl, hlen, hall⟩ := DataW.trod_struct hs hf
  refine ⟨cs, rfl, hsz.trans hC, fun i s e => ?_⟩
  obtain ⟨f, hfi, hfs⟩ := hfit.get e
  have hfi' : fs[i]? = some f := by simpa using hfi
  obtain ⟨o, k⟩ := hone_of hone i f hfi'
  have hi : i < cs.size := by
    have : i < ss.length := by
      rcases Nat.lt_or_ge i ss.length with hh | hh
      · exact hh
      · rw [List.getElem?_eq_none hh] at e; cases e
    omega
  have hx : xs[i]? ≠ none := by
    have := (Array.getElem?_eq_some_iff.1 hfi').1
    rw [List.getElem?_eq_getElem (by omega)]
    simp
  have ht := hall i f hfi'
  have hcell : ((Value.agg cs).cells.toList.drop f.offset).take (P.cellsOf f.type) = [cs[i]] := by
    rw [o, k]
    show (cs.toList.drop i).take 1 = _
    have hi' : i < cs.toList.length := by simpa using hi
    rw [List.drop_eq_getElem_cons hi']
    simp
  rw [hcell] at ht
  obtain ⟨y, hy⟩ := Option.ne_none_iff_exists'.1 hx
  rw [hy] at ht
  refine ⟨cs[i], by simp [hi], ?_⟩
  cases s with
  | num k =>
    obtain ⟨n, e1, -, wf⟩ := DataW.trod_int hfs ht
    exact ⟨n, by simpa using e1, wf⟩
  | boo =>
    obtain ⟨b, e1, -⟩ := DataW.trod_bool hfs ht
    exact ⟨b, by simpa using e1⟩
end
theorem list_of {α : Type} {cs : Array α} {n : Nat} (h : cs.size = n) : ∃ l : List α, cs = l.toArray ∧ l.length = n := ⟨cs.toList, rfl, by simpa using h⟩
theorem list2 {α : Type} {l : List α} (h : l.length = 2) : ∃ a b, l = [a, b] := by
  match l, h with
  | [a, b], _ => exact ⟨a, b, rfl⟩
theorem list3 {α : Type} {l : List α} (h : l.length = 3) : ∃ a b c, l = [a, b, c] := by
  match l, h with
  | [a, b, c], _ => exact ⟨a, b, c, rfl⟩
theorem list4 {α : Type} {l : List α} (h : l.length = 4) : ∃ a b c d, l = [a, b, c, d] := by
  match l, h with
  | [a, b, c, d], _ => exact ⟨a, b, c, d, rfl⟩
theorem list5 {α : Type} {l : List α} (h : l.length = 5) : ∃ a b c d e, l = [a, b, c, d, e] := by
  match l, h with
  | [a, b, c, d, e], _ => exact ⟨a, b, c, d, e, rfl⟩
theorem list6 {α : Type} {l : List α} (h : l.length = 6) : ∃ a b c d e f, l = [a, b, c, d, e, f] := by
  match l, h with
  | [a, b, c, d, e, f], _ => exact ⟨a, b, c, d, e, f, rfl⟩
end Go.Proofs.Ytdeohigggjfjjaa

/- Whatever comes to numbers and bools, structs in structs too: what its cells hold; a slice of such that came in. -/
namespace Go.Proofs.Ytdeohigggjfjjaa
open Go.RowKit Go.WideShapes Go.ChangeShapes Go.ChangeAt Go.Deep
set_option maxRecDepth 100000

/-- The cells of the fields from offset o on. -/
def flatF (P : Program) (g : TypeId → Option (List Sca)) : List Field → Nat → Option (List Sca)
  | [], _ => some []
  | f :: fs, o => if f.offset = o then (g f.type).bind fun ss => if P.cellsOf f.type = ss.length then (flatF P g fs (o + ss.length)).map fun r => ss ++ r else none else none
/-- The cells of a type, if all are numbers and bools. -/
def flatT (P : Program) : Nat → TypeId → Option (List Sca)
  | 0, _ => none
  | d + 1, t =>
    match P.underlying t with
    | some .bool => some [.boo]
    | some (.int k) => some [.num k]
    | some (.struct fs) => (flatF P (flatT P d) fs.toList 0).bind fun ss => if P.cellsOf t = ss.length then some ss else none
    | _ => none

/-- Each cell is of its kind. -/
def CellsOk (cs : List Value) (ss : List Sca) : Prop := ∀ (i : Nat) (s : Sca), ss[i]? = some s → ∃ v, cs[i]? = some v ∧ s.ok v

section
variable {H : Type} {enc : TypeId × Value → H} {P : Program} {w : World} {base : Nat} {spare : Nat → Bool} {held : Bool}

theorem open_fields {g : TypeId → Option (List Sca)} {n : Nat} (hg : ∀ {t ss} {cs : List Value} {x : DataW H × List MemPlace}, g t = some ss → DataW.trod enc P w base spare held n t cs = some x → CellsOk cs ss) (cs : List Value) :
    ∀ (fs : List Field) (o : Nat) (ss : List Sca), flatF P g fs o = some ss → (∀ f ∈ fs, ∃ y, DataW.trod enc P w base spare held n f.type ((cs.drop f.offset).take (P.cellsOf f.type)) = some y) → CellsOk (cs.drop o) ss
  | [], o, ss, h, _ => by
    simp [flatF] at h
    subst h
    intro i s e
    simp at e
  | f :: fs, o, ss, h, hf => by
    unfold flatF at h
    split at h
    · rename_i ho
      cases h1 : g f.type with
      | none => rw [h1] at h; cases h
      | some s1 =>
        rw [h1] at h
        simp only [Option.bind_some] at h
        split at h
        · rename_i hc
          cases h2 : flatF P g fs (o + s1.length) with
          | none => rw [h2] at h; cases h
          | some s2 =>
            rw [h2] at h
            obtain rfl : s1 ++ s2 = ss := by simpa using h
            obtain ⟨y, hy⟩ := hf f (by simp)
            rw [ho, hc] at hy
            have hk := hg h1 hy
            have hr := open_fields hg cs fs (o + s1.length) s2 h2 fun f' hf' => hf f' (by simp [hf'])
            intro i s e
            by_cases hi : i < s1.length
            · rw [List.getElem?_append_left hi] at e
              obtain ⟨v, hv, hs⟩ := hk i s e
              rw [List.getElem?_take_of_lt hi] at hv
              exact ⟨v, hv, hs⟩
            · rw [List.getElem?_append_right (by omega)] at e
              obtain ⟨v, hv, hs⟩ := hr _ s e
              refine ⟨v, ?_, hs⟩
              rw [List.getElem?_drop] at hv ⊢
              rw [← hv]
              congr 1
              omega
        · cases h
    · cases h

theorem open_cells : ∀ (d : Nat) {t : TypeId} {ss : List Sca} {fuel : Nat} {cs : List Value} {x : DataW H × List MemPlace}, flatT P d t = some ss → DataW.trod enc P w base spare held fuel t cs = some x → CellsOk cs ss
  | 0, _, _, _, _, _, h, _ => by simp [flatT] at h
  | d + 1, t, ss, fuel, cs, x, h, hx => by
    unfold flatT at h
    split at h
    · rename_i hu
      obtain ⟨b, rfl, _⟩ := DataW.trod_bool hu hx
      obtain rfl : [Sca.boo] = ss := by simpa using h
      intro i s e
      cases i with
      | zero => simp at e; subst e; exact ⟨_, rfl, b, rfl⟩
      | succ i => simp at e
    · rename_i k hu
      obtain ⟨n, rfl, _, hw⟩ := DataW.trod_int hu hx
      obtain rfl : [Sca.num k] = ss := by simpa using h
      intro i s e
      cases i with
      | zero => simp at e; subst e; exact ⟨_, rfl, n, rfl, hw⟩
      | succ i => simp at e
    · rename_i fs hu
      cases h1 : flatF P (flatT P d) fs.toList 0 with
      | none => rw [h1] at h; cases h
      | some s1 =>
        rw [h1] at h
        simp only [Option.bind_some] at h
        split at h
        · obtain rfl : s1 = ss := by simpa using h
          obtain ⟨xs, n, _, _, _, hl, hall⟩ := DataW.trod_struct hu hx
          have := open_fields (n := n) (fun {t ss cs x} h1 h2 => open_cells d h1 h2) cs fs.toList 0 s1 h1 fun f hf => by
            obtain ⟨i, hi, he⟩ := List.getElem_of_mem hf
            have hi' : i < fs.size := by simpa using hi
            have := hall i f (by simp [hi']; simpa using he)
            rw [this]
            exact ⟨xs[i]'(by omega), by simp [hl, hi']⟩
          simpa using this
        · cases h
    · cases h

/-- A slice that came in: each cell of each element. -/
theorem open_deep_row {t e : TypeId} {ss : List Sca} {d : Nat} {A : Option Addr} {len cap : Nat} {dt : DataW H} {p : List MemPlace} (ht : P.underlying t = some (.slice e)) (hss : flatT P d e = some ss) (ce : P.cellsOf e = ss.length) (h0 : 0 < ss.length)
    (h : DataW.Trod enc P w 0 (fun _ => true) true t (.slice A len cap) dt p) (hlt : ∀ x ∈ p, x.block < w.heap.size) :
    len ≤ maxLen ∧ (len = 0 ∨ ∃ b off, A = some ⟨b, off, none⟩ ∧ b < w.heap.size ∧ ∀ i, i < len → ∀ (j : Nat) (s : Sca), ss[j]? = some s → ∃ v, w.cell? ⟨b, off + i * ss.length + j, none⟩ = some v ∧ s.ok v) := by
  obtain ⟨fuel, hf⟩ := h
  rcases open_slice ht hf with ⟨hcs, hx⟩ | ⟨a, len', cap', m, n, D, Pl, hcs, _, hl, hm, hmm, hx, hall⟩
  · simp [Value.cells] at hcs
    obtain ⟨rfl, rfl, rfl⟩ := hcs
    exact ⟨Nat.zero_le _, .inl rfl⟩
  · simp [Value.cells] at hcs
    obtain ⟨rfl, rfl, rfl⟩ := hcs
    simp only [Prod.mk.injEq] at hx
    obtain ⟨rfl, rfl⟩ := hx
    simp only [if_true] at hmm
    subst hmm
    refine ⟨by omega, ?_⟩
    by_cases hz : len = 0
    · exact .inl hz
    · right
      have each : ∀ i, i < m → ∀ (j : Nat) (s : Sca), ss[j]? = some s → ∃ v, w.cell? (a.add (i * ss.length + j)) = some v ∧ s.ok v := fun i hi j s hs => by
        obtain ⟨cs', h1, h2⟩ := hall i hi
        obtain ⟨_, hlen, hcell⟩ := World.cells?_some h1
        obtain ⟨v, hv, hok⟩ := open_cells d hss h2 j s hs
        have hj : j < ss.length := (List.getElem?_eq_some_iff.1 hs).1
        have := hcell j (by omega)
        rw [add_add, ce, hv] at this
        exact ⟨v, this, hok⟩
      obtain ⟨b, off, spot⟩ := a
      have hspot : spot = none := by
        obtain ⟨v, hv, _⟩ := each 0 (by omega) 0 (ss[0]) (by simp [h0])
        simpa [Addr.add] using World.cell?_spot hv
      subst hspot
      refine ⟨b, off, rfl, hlt (.cell b off) (List.mem_append_left _ (MemPlace.mem_row.2 ⟨0, by rw [ce]; exact Nat.mul_pos (by omega) h0, by simp⟩)), fun i hi j s hs => ?_⟩
      obtain ⟨v, hv, hok⟩ := each i (by omega) j s hs
      rw [add_plain] at hv
      exact ⟨v, by rw [Nat.add_assoc]; exact hv, hok⟩
/-- A struct by value, structs in it too. -/
theorem open_deep {r : Reach} {b0 : Nat} {t : TypeId} {fs : Array Field} {ss : List Sca} {d : Nat} {v : Value} {dt : DataW H} {p : List MemPlace} (hs : P.underlying t = some (.struct fs)) (hss : flatT P d t = some ss) (hC : P.cellsOf t = ss.length)
    (hv : Value.okWide P w r b0 t v) (h : DataW.Trod enc P w base spare held t v dt p) :
    ∃ cs : Array Value, v = .agg cs ∧ cs.size = ss.length ∧ ∀ (i : Nat) (s : Sca), ss[i]? = some s → ∃ x, cs[i]? = some x ∧ s.ok x := by
  obtain ⟨cs, rfl, hsz⟩ := okWide_struct hs hv
  obtain ⟨fuel, hf⟩ := h
  refine ⟨cs, rfl, hsz.trans hC, fun i s e => ?_⟩
  obtain ⟨x, hx, hk⟩ := open_cells d hss hf i s e
  exact ⟨x, by simpa [Value.cells] using hx, hk⟩
end
end Go.Proofs.Ytdeohigggjfjjaa

/- Rows that came in: of whatever structs of numbers and bools; each element's cells. General. -/
namespace Go.Proofs.Ytdeohigggjfjjaa
open Go.RowKit Go.Maps Go.Deep
set_option maxRecDepth 100000

/-- From o on the block b holds vs. -/
def CellsAt (w : World) (b o : Nat) (vs : List Value) : Prop := ∀ (j : Nat) (v : Value), vs[j]? = some v → w.cell? ⟨b, o + j, none⟩ = some v
theorem CellsAt.below {w w' : World} {b o : Nat} {vs : List Value} (h : CellsAt w b o vs) (hb : Below w.heap.size w w') (hl : b < w.heap.size) : CellsAt w' b o vs := fun j v e => by
  rw [hb.cell (p := ⟨b, o + j, none⟩) hl]; exact h j v e
/-- A row of things of m cells. -/
def RowX {α : Type} [Inhabited α] (enc : α → List Value) (m : Nat) (w : World) (A : Option Addr) (xs : List α) : Prop :=
  xs = [] ∨ ∃ b off, A = some ⟨b, off, none⟩ ∧ b < w.heap.size ∧ ∀ i, i < xs.length → CellsAt w b (off + i * m) (enc (xs.getD i default))
theorem RowX.below {α : Type} [Inhabited α] {enc : α → List Value} {m : Nat} {w w' : World} {A : Option Addr} {xs : List α} (h : RowX enc m w A xs) (hb : Below w.heap.size w w') : RowX enc m w' A xs := by
  rcases h with h | ⟨b, off, rfl, hl, hc⟩
  · exact .inl h
  · exact .inr ⟨b, off, rfl, Nat.lt_of_lt_of_le hl hb.size, fun i hi => (hc i hi).below hb hl⟩
theorem open_rowX {α : Type} [Inhabited α] {enc : α → List Value} {Ok : α → Prop} {P : Program} {H : Type} {en : TypeId × Value → H} {W : World} {t e : TypeId} {ss : List Sca} {dd : Nat} {A : Option Addr} {len cap : Nat} {d : DataW H} {p : List MemPlace}
    (ht : P.underlying t = some (.slice e)) (hss : flatT P dd e = some ss) (ce : P.cellsOf e = ss.length) (h0 : 0 < ss.length)
    (hdec : ∀ (w : World) (b o : Nat), (∀ (j : Nat) (s : Sca), ss[j]? = some s → ∃ v, w.cell? ⟨b, o + j, none⟩ = some v ∧ s.ok v) → ∃ r : α, CellsAt w b o (enc r) ∧ Ok r)
    (h : DataW.Trod en P W 0 (fun _ => true) true t (.slice A len cap) d p) (hlt : ∀ x ∈ p, x.block < W.heap.size) :
    ∃ xs : List α, xs.length = len ∧ len ≤ maxLen ∧ (∀ r ∈ xs, Ok r) ∧ RowX enc ss.length W A xs := by
  obtain ⟨hm, hz | ⟨b, off, rfl, hb, hall⟩⟩ := open_deep_row ht hss ce h0 h hlt
  · exact ⟨[], hz.symm, hm, by simp, .inl rfl⟩
  · have each : ∀ i, i < len → ∃ r : α, CellsAt W b (off + i * ss.length) (enc r) ∧ Ok r := fun i hi => hdec W b _ (hall i hi)
    obtain ⟨f, hf⟩ := choose_lt each
    refine ⟨(List.range len).map f, by simp, hm, fun r hr => ?_, ?_⟩
    · obtain ⟨i, hi, rfl⟩ := List.mem_map.1 hr
      exact (hf i (by simpa using hi)).2
    · refine .inr ⟨b, off, rfl, hb, fun i hi => ?_⟩
      have hi' : i < len := by simpa using hi
      have e : ((List.range len).map f).getD i default = f i := by simp [hi']
      rw [e]
      exact (hf i hi').1
end Go.Proofs.Ytdeohigggjfjjaa

/- Structs of three ints: what their cells hold; rows of them that a call reads, its own, blocks of them, new ones. General. -/
namespace Go.Proofs.Ytdeohigggjfjjaa
open Go.RowKit Go.Maps Go.Deep
set_option maxRecDepth 100000

abbrev Trip := Int × Int × Int
def enc3 (x : Trip) : List Value := [.int .i64 x.1, .int .i64 x.2.1, .int .i64 x.2.2]
def tv (x : Trip) : Value := .agg #[.int .i64 x.1, .int .i64 x.2.1, .int .i64 x.2.2]
def t0 : Trip := (0, 0, 0)
theorem t0_default : (default : Trip) = t0 := rfl
def flat3 (l : List Trip) : List Value := l.flatMap enc3
theorem flat3_length (l : List Trip) : (flat3 l).length = l.length * 3 := by
  induction l with
  | nil => rfl
  | cons x l ih => simp [flat3, enc3] at *; omega
theorem flat3_append (l m : List Trip) : flat3 (l ++ m) = flat3 l ++ flat3 m := by simp [flat3]
theorem flat3_get (l : List Trip) : ∀ (j c : Nat), j < l.length → c < 3 → (flat3 l)[j * 3 + c]? = (enc3 (l.getD j t0))[c]? := by
  induction l with
  | nil => intro j c h; simp at h
  | cons x l ih =>
    intro j c hj hc
    have e : flat3 (x :: l) = enc3 x ++ flat3 l := by simp [flat3]
    cases j with
    | zero => rw [e, List.getElem?_append_left (by simp [enc3]; omega)]; simp
    | succ j =>
      rw [e, List.getElem?_append_right (by simp [enc3]; omega)]
      have := ih j c (by simpa using hj) hc
      have e2 : (j + 1) * 3 + c - (enc3 x).length = j * 3 + c := by simp [enc3]; omega
      rw [e2, this]
      simp
theorem flat3_set (x : Trip) : ∀ (l : List Trip) (k : Nat), k < l.length → flat3 (l.set k x) = (((flat3 l).set (k * 3) (.int .i64 x.1)).set (k * 3 + 1) (.int .i64 x.2.1)).set (k * 3 + 2) (.int .i64 x.2.2)
  | [], k, h => by simp at h
  | y :: l, k, h => by
    have e : ∀ (z : Trip) (m : List Trip), flat3 (z :: m) = .int .i64 z.1 :: .int .i64 z.2.1 :: .int .i64 z.2.2 :: flat3 m := fun z m => by simp [flat3, enc3]
    cases k with
    | zero => simp [e]
    | succ k =>
      have ih := flat3_set x l k (by simpa using h)
      rw [List.set_cons_succ, e, e, ih]
      rw [show (k + 1) * 3 = k * 3 + 3 by omega]
      simp
theorem flat3_zero (n : Nat) : flat3 (List.replicate n t0) = List.replicate (n * 3) (.int .i64 0) := by
  induction n with
  | zero => rfl
  | succ n ih =>
    have e : flat3 (List.replicate (n + 1) t0) = enc3 t0 ++ flat3 (List.replicate n t0) := by simp [flat3, List.replicate_succ]
    rw [e, ih, show (n + 1) * 3 = n * 3 + 3 by omega]
    simp [enc3, t0, List.replicate_succ]

/-! ### rows that are read -/
theorem at3 {w : World} {b o : Nat} {x y z : Int} (h : CellsAt w b o (enc3 (x, y, z))) : w.cell? ⟨b, o, none⟩ = some (.int .i64 x) ∧ w.cell? ⟨b, o + 1, none⟩ = some (.int .i64 y) ∧ w.cell? ⟨b, o + 2, none⟩ = some (.int .i64 z) :=
  ⟨h 0 _ rfl, h 1 _ rfl, h 2 _ rfl⟩
/-- A row of such, wherever it lies. -/
abbrev Row3 (w : World) (A : Option Addr) (xs : List Trip) : Prop := RowX enc3 3 w A xs
/-- Its block. -/
def In3 (A : Option Addr) (k : Nat) : Prop := ∃ off, A = some ⟨k, off, none⟩
theorem CellsAt.kept {w w' : World} {b o : Nat} {vs : List Value} (h : CellsAt w b o vs) (hb : w'.heap[b]? = w.heap[b]?) : CellsAt w' b o vs := fun j v e => by
  rw [World.cell?_of_block (w := w) hb]; exact h j v e
theorem Row3.kept {w w' : World} {A : Option Addr} {xs : List Trip} (h : Row3 w A xs) (hk : ∀ k, In3 A k → w'.heap[k]? = w.heap[k]?) (hs : w.heap.size ≤ w'.heap.size) : Row3 w' A xs := by
  rcases h with h | ⟨b, off, rfl, hl, hc⟩
  · exact .inl h
  · exact .inr ⟨b, off, rfl, Nat.lt_of_lt_of_le hl hs, fun i hi => (hc i hi).kept (hk b ⟨off, rfl⟩)⟩
theorem Blk.row3 {w : World} {g : Nat} {l : List Trip} (h : Blk 0 w g (flat3 l)) : Row3 w (some ⟨g, 0, none⟩) l := by
  refine .inr ⟨g, 0, rfl, h.1, fun i hi j v e => ?_⟩
  have hj : j < 3 := by have := (List.getElem?_eq_some_iff.1 e).1; simpa [enc3] using this
  rw [Nat.zero_add, h.rule, flat3_get l i j hi hj, ← t0_default]
  exact e
theorem owns_row3 {w : World} {b : Nat} {e : TypeId} {A : Option Addr} {cap : Nat} {l : List Trip} (h : w.ownsRow b e 3 (.slice A l.length cap) l.length (flat3 l)) : Row3 w A l := by
  rcases h.2 with ⟨_, h0⟩ | ⟨g, cap', cur, hv, _, hg, hn, hc, hcs, htk⟩
  · exact .inl (List.eq_nil_of_length_eq_zero h0)
  · simp only [Value.slice.injEq] at hv
    obtain ⟨rfl, -, rfl⟩ := hv
    refine .inr ⟨g, 0, rfl, (Array.getElem?_eq_some_iff.1 hg).1, fun i hi j v e => ?_⟩
    have hj : j < 3 := by have := (List.getElem?_eq_some_iff.1 e).1; simpa [enc3] using this
    have h1 := flat3_get l i j hi hj
    rw [← t0_default, e, ← htk, List.getElem?_take_of_lt (by omega)] at h1
    rw [Nat.zero_add]
    simp only [World.cell?, hg]
    simpa using h1
theorem Row3.nil {w : World} : Row3 w none [] := .inl rfl
theorem Row3.news {w : World} {ad : Addr} {xs : List Trip} (h : Row3 w (some ad) xs) : ∀ j u, (flat3 xs)[j]? = some u → w.cell? (ad.add j) = some u := by
  intro j u hu
  rcases h with rfl | ⟨b, off, he, hl, hc⟩
  · simp [flat3] at hu
  · cases he
    have hj : j < xs.length * 3 := by rw [← flat3_length]; exact (List.getElem?_eq_some_iff.1 hu).1
    have e : (⟨b, off, none⟩ : Addr).add j = ⟨b, off + j, none⟩ := by unfold Addr.add; split <;> simp_all
    have e2 : j / 3 * 3 + j % 3 = j := by omega
    have h1 := hc (j / 3) (by omega) (j % 3) u (by rw [t0_default, ← flat3_get xs (j / 3) (j % 3) (by omega) (Nat.mod_lt _ (by omega)), e2, hu])
    rw [e]
    rwa [Nat.add_assoc, e2] at h1
theorem flat3_one (l : List Trip) : ∀ u ∈ flat3 l, u.oneCell' = true := fun x hx => by
  obtain ⟨o, _, ho⟩ := List.mem_flatMap.1 hx
  simp [enc3] at ho
  rcases ho with rfl | rfl | rfl <;> rfl

/-! ### a block of them: one written; a new one -/
theorem Blk.set3 {m n k : Nat} {l : List Trip} {w : World} (h : Blk m w n (flat3 l)) (hk : k < l.length) (x : Trip) :
    Blk m (((w.setCell ⟨n, k * 3, none⟩ (.int .i64 x.1)).setCell ⟨n, k * 3 + 1, none⟩ (.int .i64 x.2.1)).setCell ⟨n, k * 3 + 2, none⟩ (.int .i64 x.2.2)) n (flat3 (l.set k x)) := by
  rw [flat3_set x l k hk]
  have hl := flat3_length l
  exact ((h.set (by omega) _).set (by simp; omega) _).set (by simp; omega) _
theorem made3 (n : Nat) : madeCells (tv t0).cells (n * 3) = (flat3 (List.replicate n t0)).toArray := by
  rw [flat3_zero]
  apply Array.ext
  · simp [size_madeCells]
  · intro i h1 h2
    have : i % 3 = 0 ∨ i % 3 = 1 ∨ i % 3 = 2 := by omega
    simp only [madeCells, Array.getElem_map, Array.getElem_range, tv, t0, Value.cells, List.getElem_toArray, List.getElem_replicate]
    rcases this with h | h | h <;> simp [h]
theorem run_make3 {P : Program} (t e : TypeId) (ht : P.underlying t = some (.slice e)) (hinfo : (P.info? e).map (fun i => (i.zero, i.size, i.bytes)) = some (some (tv t0), 3, 24))
    (kl kc : IntKind) (n : Nat) (hn : n ≤ 1099511627776) (w : World) :
    (Instr.makeSlice t (.int kl (n : Int)) (.int kc (n : Int))).run P w = .ok (.slice (some ⟨w.heap.size, 0, none⟩) n n) (w.alloc (.cells (flat3 (List.replicate n t0)).toArray e)) := by
  obtain ⟨i, hi, hzz⟩ := Option.map_eq_some_iff.1 hinfo
  simp only [Prod.mk.injEq] at hzz
  obtain ⟨hz, hs, hb⟩ := hzz
  have hr := run_make (P := P) w t e i (tv t0) ht hi hz kl kc n n (by omega) (Int.le_refl _) (by rw [hb]; omega) (by omega)
  simp only [Int.toNat_natCast, hs, made3] at hr
  exact hr
theorem wpList_make3 {P : Program} (w : World) {ops : Array Oper} {rest : List Oper} {o : Oper} {a : Act} {Q : Exit → Act → World → Prop}
    (hg : o.guard = none) (l c : Operand) (t : TypeId) (hop : o.op = Op.makeSlice t l c)
    (e : TypeId) (ht : P.underlying t = some (.slice e)) (hinfo : (P.info? e).map (fun i => (i.zero, i.size, i.bytes)) = some (some (tv t0), 3, 24))
    (kl kc : IntKind) (N M : Int) (n : Nat) (hl : a.eval l = .int kl N) (hc : a.eval c = .int kc M) (hN : N = (n : Int)) (hM : M = (n : Int)) (hn : n ≤ 1099511627776)
    (hK : wpList P ops Q rest (a.put o.dst (.slice (some ⟨w.heap.size, 0, none⟩) n n)) (w.alloc (.cells (flat3 (List.replicate n t0)).toArray e))) :
    wpList P ops Q (o :: rest) a w := by
  refine wpList_plain hg fun K hK' => ?_
  subst hN
  subst hM
  have hrun := run_make3 (P := P) t e ht hinfo kl kc n hn w
  unfold Oper.wp
  simp [execOp, hop, hl, hc, hrun, Result.andThen]
  exact hK' _ _ hK

/-! ### among others -/
section
variable {w0 w w' : World} {L : List Item}
/-- A row of its own, appended to. -/
def row3I (v : Value) (e : TypeId) (l : List Trip) : Item := rowI v e 3 l.length (flat3 l)
theorem Env.row3 (h : Env w0 L w) (i : Nat) {v : Value} {e : TypeId} {l : List Trip} (hi : L[i]? = some (row3I v e l)) : w.ownsRow 0 e 3 v l.length (flat3 l) := h.get i hi
theorem Env.cells3 (h : Env w0 L w) (i : Nat) {A : Option Addr} {n cap : Nat} {e : TypeId} {l : List Trip} (hn : n = l.length) (hi : L[i]? = some (row3I (.slice A n cap) e l)) : Row3 w A l := by subst hn; exact owns_row3 (h.row3 i hi)
theorem Env.addRow3 (h : Env w0 L w) {v : Value} {e : TypeId} {l : List Trip} (ho : w'.ownsRow w.heap.size e 3 v l.length (flat3 l)) (hb : Below w.heap.size w w') : Env w0 (row3I v e l :: L) w' :=
  h.add (row3I v e l) hb (ownsRow_base ho (Nat.zero_le _)) fun k hk => ho.lt k hk
theorem Env.addEmpty3 (h : Env w0 L w) (n : Nat) (hn : w.heap.size = n) (e : TypeId) : Env w0 (row3I (.slice (some ⟨n, 0, none⟩) 0 0) e [] :: L) (w.alloc (.cells #[] e)) := by
  subst hn
  exact h.addRow3 (v := .slice (some ⟨w.heap.size, 0, none⟩) 0 0) (l := []) ⟨rfl, .inr ⟨w.heap.size, 0, #[], rfl, Nat.le_refl _, heap_alloc_new w _, Nat.le_refl _, Nat.zero_le _, rfl, rfl⟩⟩ ((Below.refl _ _).alloc (Nat.le_refl _) _)
theorem Env.addNone3 (h : Env w0 L w) (e : TypeId) : Env w0 (row3I (.slice none 0 0) e [] :: L) w :=
  h.add (row3I (.slice none 0 0) e []) (Below.refl _ _) (World.ownsRow_nil _ _ _ _) fun k hk => by cases hk
/-- A row appended to a row of its own. -/
theorem Env.append3 {P : Program} (h : Env w0 L w) (i : Nat) {v : Value} {e : TypeId} {l xs : List Trip} (hi : L[i]? = some (row3I v e l)) (t ty : TypeId) (ht : P.underlying t = some (.slice e)) (hinfo : (P.info? e).map (fun i => (i.zero, i.size, i.bytes)) = some (some (tv t0), 3, 24))
    {A : Option Addr} (c : Nat) (hx : Row3 w A xs) (hz : l.length + xs.length ≤ 1048576) :
    ∃ A' c' w', (Builtin.append_ #[t, t] ty #[v, .slice A xs.length c]).run P w = .ok (.slice A' (l.length + xs.length) c') w' ∧ Env w0 (L.set i (row3I (.slice A' (l.length + xs.length) c') e (l ++ xs))) w' ∧ Step (fun k => v.ownBlock = some k) (fun k => (Value.slice A' (l.length + xs.length) c').ownBlock = some k) w w' := by
  obtain ⟨i0, hi0, hzz⟩ := Option.map_eq_some_iff.1 hinfo
  simp only [Prod.mk.injEq] at hzz
  obtain ⟨hz0, hs, hb⟩ := hzz
  have hown := h.row3 i hi
  obtain ⟨v', w', hrun, ho, hg, hv⟩ := run_append_rows (P := P) t ty 0 e i0 (tv t0) 3 24 ht hi0 hz0 hs hb rfl (by decide) w v l.length (flat3 l) hown A xs.length c (flat3 xs) (flat3_length xs)
    (by
      cases A with
      | none =>
        left
        rcases hx with rfl | ⟨b, off, he, _⟩
        · exact ⟨rfl, rfl⟩
        · cases he
      | some ad => exact .inr ⟨ad, rfl, Row3.news hx⟩) (flat3_one xs) (by simp [maxLen]; omega) (by omega) (Nat.zero_le _)
  obtain ⟨A', c', rfl⟩ := ownsRow_slice ho
  have hst : Step (fun k => v.ownBlock = some k) (fun k => (Value.slice A' (l.length + xs.length) c').ownBlock = some k) w w' := ⟨(Turn.refl _ w).grown hg fun k _ e => e, fun k hk => by
    rcases hv with e | e
    · exact .inl (by rw [← e]; exact hk)
    · right
      rw [e] at hk
      cases hk
      exact Nat.le_refl _⟩
  refine ⟨A', c', w', hrun, h.step i (row3I _ e (l ++ xs)) hi hst ?_ ?_, hst⟩
  · show w'.ownsRow 0 e 3 _ (l ++ xs).length (flat3 (l ++ xs))
    rw [List.length_append, flat3_append]
    exact ho
  · exact ownsRow_lt ho
/-- .. its length told of the whole. -/
theorem Env.append3' {P : Program} (h : Env w0 L w) (i : Nat) {v : Value} {e : TypeId} {l xs : List Trip} (hi : L[i]? = some (row3I v e l)) (t ty : TypeId) (ht : P.underlying t = some (.slice e)) (hinfo : (P.info? e).map (fun i => (i.zero, i.size, i.bytes)) = some (some (tv t0), 3, 24))
    {A : Option Addr} {n : Nat} (c : Nat) (hn : n = xs.length) (hx : Row3 w A xs) (hz : l.length + xs.length ≤ 1048576) :
    ∃ A' c' w', (Builtin.append_ #[t, t] ty #[v, .slice A n c]).run P w = .ok (.slice A' (l ++ xs).length c') w' ∧ Env w0 (L.set i (row3I (.slice A' (l ++ xs).length c') e (l ++ xs))) w' := by
  subst hn
  obtain ⟨A', c', w', h1, h2, -⟩ := h.append3 i hi t ty ht hinfo c hx hz
  rw [← List.length_append] at h1 h2
  exact ⟨A', c', w', h1, h2⟩
/-- What stands first takes another one's place. -/
theorem Env.into (j : Nat) {a : Item} (h : Env w0 (a :: L) w) : Env w0 (L.set j a) w := by
  rcases Nat.lt_or_ge j L.length with hj | hj
  · have hp : (L.set j a).Perm (a :: L.eraseIdx j) := by
      rw [List.set_eq_take_append_cons_drop, if_pos hj, List.eraseIdx_eq_take_drop_succ]
      exact List.perm_middle
    have h1 : Env w0 (a :: L.eraseIdx j) w := h.sub (.cons_cons _ (List.eraseIdx_sublist L j))
    exact ⟨h1.1, (hp.symm.pairwise_iff (fun h => Off.symm h)).1 h1.2.1, fun b hb => h1.2.2 b (hp.mem_iff.1 hb)⟩
  · rw [List.set_eq_of_length_le hj]
    exact h.sub (.cons _ (List.Sublist.refl _))
/-- A row that this call neither made nor turns. -/
theorem Env.seen3 (h : Env w0 L w) {A : Option Addr} {xs : List Trip} (hr : Row3 w0 A xs) : Row3 w A xs := RowX.below hr h.below
end
end Go.Proofs.Ytdeohigggjfjjaa

/- Rows of the call's own, of structs of k cells each: appended to, read. General. -/
namespace Go.Proofs.Ytdeohigggjfjjaa
open Go.RowKit Go.Maps
set_option maxRecDepth 100000

section
variable {α : Type} {enc : α → List Value} {k : Nat}
def flatK (enc : α → List Value) (l : List α) : List Value := l.flatMap enc
theorem flatK_length (hk : ∀ x, (enc x).length = k) (l : List α) : (flatK enc l).length = l.length * k := by
  induction l with
  | nil => simp [flatK]
  | cons x l ih =>
    have e : flatK enc (x :: l) = enc x ++ flatK enc l := by simp [flatK]
    rw [e, List.length_append, ih, hk, List.length_cons, Nat.add_mul]
    omega
theorem flatK_append (a b : List α) : flatK enc (a ++ b) = flatK enc a ++ flatK enc b := by simp [flatK]
theorem flatK_get [Inhabited α] (hk : ∀ x, (enc x).length = k) : ∀ (l : List α) (j c : Nat), j < l.length → c < k → (flatK enc l)[j * k + c]? = (enc (l.getD j default))[c]? := by
  intro l
  induction l with
  | nil => intro j c h; simp at h
  | cons x l ih =>
    intro j c hj hc
    have e : flatK enc (x :: l) = enc x ++ flatK enc l := by simp [flatK]
    cases j with
    | zero => rw [e, List.getElem?_append_left (by rw [hk]; omega)]; simp
    | succ j =>
      have e3 : (j + 1) * k = j * k + k := by rw [Nat.add_mul, Nat.one_mul]
      rw [e, List.getElem?_append_right (by rw [hk]; omega)]
      have := ih j c (by simpa using hj) hc
      have e2 : (j + 1) * k + c - (enc x).length = j * k + c := by rw [hk]; omega
      rw [e2, this]
      simp
theorem RowX.news [Inhabited α] (hk : ∀ x, (enc x).length = k) (hk0 : 0 < k) {w : World} {ad : Addr} {xs : List α} (h : RowX enc k w (some ad) xs) : ∀ j u, (flatK enc xs)[j]? = some u → w.cell? (ad.add j) = some u := by
  intro j u hu
  rcases h with rfl | ⟨b, off, he, hl, hc⟩
  · simp [flatK] at hu
  · cases he
    have hj : j < xs.length * k := by rw [← flatK_length hk]; exact (List.getElem?_eq_some_iff.1 hu).1
    have e : (⟨b, off, none⟩ : Addr).add j = ⟨b, off + j, none⟩ := by unfold Addr.add; split <;> simp_all
    have e2 : j / k * k + j % k = j := by rw [Nat.mul_comm]; exact Nat.div_add_mod j k
    have hlt : j / k < xs.length := (Nat.div_lt_iff_lt_mul hk0).2 hj
    have h1 := hc (j / k) hlt (j % k) u (by rw [← flatK_get hk xs (j / k) (j % k) hlt (Nat.mod_lt _ hk0), e2, hu])
    rw [e]
    rwa [Nat.add_assoc, e2] at h1
theorem Blk.rowK [Inhabited α] (hk : ∀ x, (enc x).length = k) {w : World} {g : Nat} {l : List α} (h : Blk 0 w g (flatK enc l)) : RowX enc k w (some ⟨g, 0, none⟩) l := by
  refine .inr ⟨g, 0, rfl, h.1, fun i hi j v e => ?_⟩
  have hj : j < k := by have := (List.getElem?_eq_some_iff.1 e).1; rw [hk] at this; exact this
  rw [Nat.zero_add, h.rule, flatK_get hk l i j hi hj]
  exact e
theorem owns_rowK [Inhabited α] (hk : ∀ x, (enc x).length = k) {w : World} {b : Nat} {e : TypeId} {A : Option Addr} {cap : Nat} {l : List α} (h : w.ownsRow b e k (.slice A l.length cap) l.length (flatK enc l)) : RowX enc k w A l := by
  rcases h.2 with ⟨_, h0⟩ | ⟨g, cap', cur, hv, _, hg, hn, hc, hcs, htk⟩
  · exact .inl (List.eq_nil_of_length_eq_zero h0)
  · simp only [Value.slice.injEq] at hv
    obtain ⟨rfl, -, rfl⟩ := hv
    refine .inr ⟨g, 0, rfl, (Array.getElem?_eq_some_iff.1 hg).1, fun i hi j v e => ?_⟩
    have hj : j < k := by have := (List.getElem?_eq_some_iff.1 e).1; rw [hk] at this; exact this
    have h1 := flatK_get hk l i j hi hj
    have hlt : i * k + j < l.length * k := by
      have : (i + 1) * k ≤ l.length * k := Nat.mul_le_mul_right k hi
      rw [Nat.add_mul] at this
      omega
    rw [e, ← htk, List.getElem?_take_of_lt hlt] at h1
    rw [Nat.zero_add]
    simp only [World.cell?, hg]
    simpa using h1
/-- A row of its own, appended to. -/
def rowKI (enc : α → List Value) (k : Nat) (v : Value) (e : TypeId) (l : List α) : Item := rowI v e k l.length (flatK enc l)
variable {w0 w w' : World} {L : List Item}
theorem Env.rowK (h : Env w0 L w) (i : Nat) {v : Value} {e : TypeId} {l : List α} (hi : L[i]? = some (rowKI enc k v e l)) : w.ownsRow 0 e k v l.length (flatK enc l) := h.get i hi
theorem Env.cellsK [Inhabited α] (hk : ∀ x, (enc x).length = k) (h : Env w0 L w) (i : Nat) {A : Option Addr} {n cap : Nat} {e : TypeId} {l : List α} (hn : n = l.length) (hi : L[i]? = some (rowKI enc k (.slice A n cap) e l)) : RowX enc k w A l := by subst hn; exact owns_rowK hk (h.rowK i hi)
theorem Env.addEmptyK (h : Env w0 L w) (n : Nat) (hn : w.heap.size = n) (e : TypeId) : Env w0 (rowKI enc k (.slice (some ⟨n, 0, none⟩) 0 0) e [] :: L) (w.alloc (.cells #[] e)) := by
  subst hn
  have ho : (w.alloc (.cells #[] e)).ownsRow w.heap.size e k (.slice (some ⟨w.heap.size, 0, none⟩) 0 0) 0 (flatK enc []) := ⟨by simp [flatK], .inr ⟨w.heap.size, 0, #[], rfl, Nat.le_refl _, heap_alloc_new w _, Nat.le_refl _, by simp, by simp, by simp [flatK]⟩⟩
  exact h.add (rowKI enc k (.slice (some ⟨w.heap.size, 0, none⟩) 0 0) e []) ((Below.refl _ _).alloc (Nat.le_refl _) _) (ownsRow_base ho (Nat.zero_le _)) fun k hk => ho.lt k hk
/-- A row appended to a row of its own. -/
theorem Env.appendK [Inhabited α] (hk : ∀ x, (enc x).length = k) (hk0 : 0 < k) (hone : ∀ x, ∀ u ∈ enc x, u.oneCell' = true) {P : Program} (h : Env w0 L w) (i : Nat) {v : Value} {e : TypeId} {l xs : List α} (hi : L[i]? = some (rowKI enc k v e l)) (t ty : TypeId) (ht : P.underlying t = some (.slice e))
    {zz : Value} {bytes : Nat} (hzz0 : zz.cells.size = k) (hinfo : (P.info? e).map (fun i => (i.zero, i.size, i.bytes)) = some (some zz, k, bytes))
    {A : Option Addr} (c : Nat) (hx : RowX enc k w A xs) (hA : A = none → xs = []) (hz : l.length + xs.length ≤ maxLen) (hby : (l.length + xs.length) * bytes ≤ 140737488355328) :
    ∃ A' c' w', (Builtin.append_ #[t, t] ty #[v, .slice A xs.length c]).run P w = .ok (.slice A' (l.length + xs.length) c') w' ∧ Env w0 (L.set i (rowKI enc k (.slice A' (l.length + xs.length) c') e (l ++ xs))) w' := by
  obtain ⟨i0, hi0, hzz⟩ := Option.map_eq_some_iff.1 hinfo
  simp only [Prod.mk.injEq] at hzz
  obtain ⟨hz0, hs, hb⟩ := hzz
  have hown := h.rowK i hi
  obtain ⟨v', w', hrun, ho, hg, hv⟩ := run_append_rows (P := P) t ty 0 e i0 zz k bytes ht hi0 hz0 hs hb hzz0 hk0 w v l.length (flatK enc l) hown A xs.length c (flatK enc xs) (flatK_length hk xs)
    (by
      cases A with
      | none =>
        left
        have := hA rfl
        subst this
        exact ⟨rfl, rfl⟩
      | some ad => exact .inr ⟨ad, rfl, RowX.news hk hk0 hx⟩) (fun u hu => by
        obtain ⟨x, _, hx2⟩ := List.mem_flatMap.1 hu
        exact hone x u hx2) hz hby (Nat.zero_le _)
  obtain ⟨A', c', rfl⟩ := ownsRow_slice ho
  have hst : Step (fun k => v.ownBlock = some k) (fun k => (Value.slice A' (l.length + xs.length) c').ownBlock = some k) w w' := ⟨(Turn.refl _ w).grown hg fun k _ e => e, fun k hk => by
    rcases hv with e | e
    · exact .inl (by rw [← e]; exact hk)
    · right
      rw [e] at hk
      cases hk
      exact Nat.le_refl _⟩
  refine ⟨A', c', w', hrun, h.step i (rowKI enc k _ e (l ++ xs)) hi hst ?_ ?_⟩
  · show w'.ownsRow 0 e k _ (l ++ xs).length (flatK enc (l ++ xs))
    rw [List.length_append, flatK_append]
    exact ho
  · exact ownsRow_lt ho
end
end Go.Proofs.Ytdeohigggjfjjaa

/- Rows of pairs: cloned, sorted. -/
namespace Go.Proofs.Ytdeohigggjfjjaa
open Go.RowKit Go.Maps Go.Shelf Go.Sort
set_option maxRecDepth 100000

theorem flatP_flat (l : List (Int × Int)) : flatK encP l = flatP l := by
  induction l with
  | nil => rfl
  | cons p l ih =>
    have e : flatK encP (p :: l) = encP p ++ flatK encP l := by simp [flatK]
    rw [e, ih]
    rfl
theorem encP_length (p : Int × Int) : (encP p).length = 2 := rfl
theorem infoPair : (Try.prog.info? 26).map (fun i => (i.zero, i.size, i.bytes)) = some (some (.agg #[.int .u64 0, .int .u64 0]), 2, 16) := by kernel_rfl
theorem flatP_one' (l : List (Int × Int)) : ∀ v ∈ flatP l, v.oneCell' = true := fun v hv => encS_one l v (by unfold encS; simp [hv])
theorem clone_p {w : World} {A : Option Addr} {cap : Nat} {l : List (Int × Int)} (hz : l.length * 16 ≤ 140737488351232) (hr : RowX encP 2 w A l) :
    Calls Try.prog 26 #[.slice A l.length cap] w fun e w' => ∃ A' cap', e = .returned (.slice A' l.length cap') ∧ w'.ownsRow w.heap.size 26 2 (.slice A' l.length cap') l.length (flatP l) ∧ Below w.heap.size w w' := by
  obtain ⟨i0, hi, hz0, hz1, hz2⟩ := info_parts infoPair
  have q22 : ∀ (w : World) (a : Option Addr) (n c n' c' : Nat), (binOp .eql 46 (.slice a n c) (.slice none n' c')).run Try.prog w = .ok (.bool a.isNone) w := fun w a n c n' c' => Lib.run_eql_slice_nil w _ _ a n c n' c' (show Try.prog.underlying 46 = some (.slice 26) by kernel_rfl)
  rcases A with _ | ad
  · have hm0 : l = [] := by
      rcases hr with h | ⟨_, _, h, _⟩
      · exact h
      · cases h
    subst hm0
    go_enter Try.func26, Try.ntmps26
    go_wp2
    go_ret
    exact ⟨none, 0, rfl, World.ownsRow_nil _ _ _ _, Below.refl _ _⟩
  · have hown0 : (w.alloc (.cells #[] 26)).ownsRow w.heap.size 26 2 (.slice (some ⟨w.heap.size, 0, none⟩) 0 0) 0 [] := ⟨rfl, .inr ⟨w.heap.size, 0, #[], rfl, Nat.le_refl _, heap_alloc_new w _, Nat.le_refl _, Nat.zero_le _, rfl, rfl⟩⟩
    have hr' : RowX encP 2 (w.alloc (.cells #[] 26)) (some ad) l := hr.below ((Below.refl _ _).alloc (Nat.le_refl _) _)
    obtain ⟨v', w2, hrun, hown2, hgrow, hv'⟩ := run_append_rows (P := Try.prog) 46 46 w.heap.size 26 i0 (.agg #[.int .u64 0, .int .u64 0]) 2 16 (by kernel_rfl) hi hz0 hz1 hz2 rfl (by decide) _ _ 0 [] hown0 (some ad) l.length cap (flatP l) (by rw [flatP_length, Nat.mul_comm])
      (.inr ⟨ad, rfl, by have := RowX.news (enc := encP) (k := 2) encP_length (by decide) hr'; rw [flatP_flat] at this; exact this⟩) (flatP_one' l) (by simp [maxLen]; omega) (by omega) (by simp)
    simp only [Nat.zero_add, List.nil_append] at hown2
    obtain ⟨A', cap2, rfl⟩ := ownsRow_slice hown2
    go_enter Try.func26, Try.ntmps26
    go_wp2_with (first | (at_builtin; refine wpList_append_run rfl _ _ 46 rfl hrun rfl rfl ?_))
    go_ret
    exact ⟨A', cap2, rfl, hown2, ((Below.refl _ w).alloc (Nat.le_refl _) _).grown hgrow (by simp) (by intro k hk; simp [Value.ownBlock] at hk; omega)⟩

/-! ### the order -/
def cmpK (x y : Int × Int) : Int := if x.1 < y.1 then -1 else if y.1 < x.1 then 1 else 0
theorem lt_cmpK (x y : Int × Int) : ltOf cmpK x y = decide (x.1 < y.1) := by
  unfold ltOf cmpK
  split
  · rename_i h; simp [h]
  · rename_i h; split <;> simp [h]
theorem swoK : SWO (ltOf cmpK) := ⟨fun x => by rw [lt_cmpK]; simp, fun x y z h1 h2 => by rw [lt_cmpK] at *; simp only [decide_eq_true_eq] at *; omega, fun x y z h1 h2 => by rw [lt_cmpK] at *; simp only [decide_eq_false_iff_not] at *; omega⟩
set_option maxHeartbeats 800000 in
theorem cmp_new (a b c d : Int) (w : World) : Calls Try.prog 28 #[.agg #[.int .u64 a, .int .u64 b], .agg #[.int .u64 c, .int .u64 d]] w fun e w' => e = .returned (.int .i64 (cmpK (a, b) (c, d))) ∧ ∃ q os', w' = grow (w.drewN q) os' := by
  have c1 := Lib.hid (cmp_u a c)
  unfold cmpK
  simp only
  generalize (if a < c then (-1 : Int) else if c < a then 1 else 0) = z at *
  go_enter Try.func28, Try.ntmps28
  go_wp2_with (with_reducible refine (c1.out _).mono ?_; rintro e w1 ⟨rfl, rfl⟩)
  go_ret
  refine ⟨rfl, 0, #[.cells #[.int .u64 a, .int .u64 b] 26, .cells #[.int .u64 c, .int .u64 d] 26], ?_⟩
  simp only [alloc_eq_grow, grow_grow]
  rfl
theorem cmpLays_p (blk off size : Nat) (w : World) : CmpLays Try.prog 28 #[] encP 2 cmpK blk off size w := fun _ _ _ _ x y => cmp_new x.1 x.2 y.1 y.2 _
theorem sort_p (blk off cap : Nat) (d : Array (Int × Int)) (w : World) (hH : HoldsK encP 2 w blk off d) (hblk : blk < w.heap.size) (hsz : d.size < 4611686018427387904) :
    Calls Try.prog 27 #[.slice (some ⟨blk, off, none⟩) d.size cap, .func (.func 28) #[] #[]] w fun e w' => e = .returned (.tuple #[]) ∧ ∃ d' n os, d'.toList.Perm d.toList ∧ d'.toList.Pairwise (fun x y => x.1 ≤ y.1) ∧ w' = sortWorldK encP 2 w blk off n d' os := by
  have h := AnyQ.slices_SortFunc Try.sortPairs 2 (fun w => by kernel_rfl) (fun w => by kernel_rfl) encP encP_length (fun x v hv => by simp [encP] at hv; rcases hv with rfl | rfl <;> rfl) cmpK swoK 28 #[] blk off cap d w
    (enters_of Try.func28 (by kernel_rfl) rfl) (cmpLays_p blk off d.size w) hH hblk hsz
  refine h.mono ?_
  rintro e w' ⟨he, d', n, os, hp, hs, hw⟩
  obtain ⟨hsz', -, hperm⟩ := hp
  have e1 : d'.extract 0 d.size = d' := by rw [← hsz']; exact Array.extract_size
  rw [e1, Array.extract_size] at hperm
  refine ⟨he, d', n, os, hperm, ?_, hw⟩
  rw [List.pairwise_iff_getElem]
  intro i j hi hj hij
  have hi' : i < d'.size := by simpa using hi
  have hj' : j < d'.size := by simpa using hj
  have h2 := hs i j (Nat.zero_le _) hij (by omega)
  rw [lt_cmpK] at h2
  simp only [decide_eq_false_iff_not] at h2
  rw [getElem!_pos d' i hi', getElem!_pos d' j hj'] at h2
  simp only [Array.getElem_toList]
  omega
theorem sort_none (p : Option Addr) (cap : Nat) (fv : Value) (w : World) : Calls Try.prog 27 #[.slice p 0 cap, fv] w fun e w' => e = .returned (.tuple #[]) ∧ w' = w :=
  AnyF.slices_SortFunc_none { Try.sortPairs with } p cap fv w
end Go.Proofs.Ytdeohigggjfjjaa

/- New: a state of a row of pairs. -/
namespace Go.Proofs.Ytdeohigggjfjjaa
open Go.RowKit Go.Maps Go.Shelf Go.Sort
set_option maxRecDepth 100000

theorem Fr.lower {w0 w w' : World} {bl : List (Nat × List Value)} {m : Nat} (h : Fr w0 bl w) (hb : Below m w w') (h0 : w0.heap.size ≤ m) (hm : ∀ x ∈ bl, x.1 < m) : Fr w0 bl w' := by
  refine ⟨h.1.trans (hb.mono h0), fun x hx => ?_⟩
  obtain ⟨h1, h2, h3⟩ := h.2 x hx
  have hs := hb.size
  have hx' := hm x hx
  refine ⟨by omega, fun i => ?_, fun hq i hi => ?_⟩
  · rw [hb.cell (p := ⟨x.1, i, none⟩) hx']; exact h2 i
  · rw [hb.frozen (p := ⟨x.1, i, none⟩) hx']; exact h3 hq i hi
theorem holds_p {w : World} {g cap : Nat} {cur : Array Value} {l : List (Int × Int)} {t : TypeId} (hg : w.heap[g]? = some (.cells cur t (0, 0))) (hc : cur.size = cap * 2) (hl : l.length ≤ cap) (ht : cur.toList.take (l.length * 2) = flatP l) : HoldsK encP 2 w g 0 l.toArray := by
  intro j hj
  have hj' : j < l.length * 2 := by simpa using hj
  refine ⟨?_, by simp [World.frozen?, hg]⟩
  have h1 : (cur.toList.take (l.length * 2))[j]? = (flatP l)[j]? := by rw [ht]
  rw [List.getElem?_take_of_lt hj'] at h1
  have hlt : j / 2 < l.length := by omega
  have h2 := flatP_get l (j / 2) hlt
  simp only [World.cell?, hg, Nat.zero_add]
  rw [get_flatK _ _ _ _ (by simpa using hj')]
  have h4 : l.toArray[j / 2]! = l.getD (j / 2) (0, 0) := by simp [hlt]
  rw [h4]
  have h5 : cur[j]? = (flatP l)[j]? := by rw [← h1]; simp
  rw [h5]
  by_cases hp : j % 2 = 0
  · rw [hp, show j = 2 * (j / 2) by omega, h2.1]; rw [show 2 * (j / 2) / 2 = j / 2 by omega]; rfl
  · have hp1 : j % 2 = 1 := by omega
    rw [hp1, show j = 2 * (j / 2) + 1 by omega, h2.2]; rw [show (2 * (j / 2) + 1) / 2 = j / 2 by omega]; rfl
theorem grown_p {w : World} {g n : Nat} {os : Array Obj} (d : Array (Int × Int)) : w.grownBy (sortWorldK encP 2 w g 0 n d os) (some g) := by
  refine ⟨rfl, rfl, rfl, by simp [sortWorldK, putRowK, grow, putRow, mapBlock, Sort.ahead], fun k hk hne => ?_⟩
  have h1 : g ≠ k := fun e => hne (by rw [e])
  unfold sortWorldK putRowK
  rw [heap_grow_old _ _ (by simpa [putRow, mapBlock, Sort.ahead] using hk)]
  simp [putRow, mapBlock, Sort.ahead, Array.getElem?_modify, h1]
theorem rowX_holds {w : World} {g : Nat} {l : List (Int × Int)} (hg : g < w.heap.size) (h : HoldsK encP 2 w g 0 l.toArray) : RowX encP 2 w (some ⟨g, 0, none⟩) l := by
  refine .inr ⟨g, 0, rfl, hg, fun i hi j v e => ?_⟩
  have e9 : l.toArray[i]! = l.getD i default := by simp [hi]
  have hj : j < 2 := by have := (List.getElem?_eq_some_iff.1 e).1; simpa [encP] using this
  have h0 := (h.cell (i := i) (c := j) (by simpa using hi) hj).1
  rw [e9, getElem!_pos (encP (l.getD i default)) j (by simpa [encP] using hj)] at h0
  rw [h0]
  rw [List.getElem?_eq_getElem (by simpa [encP] using hj)] at e
  exact e
/-- A row of the call's own, sorted. -/
theorem sort_own {w : World} {base cap : Nat} {A : Option Addr} {l : List (Int × Int)} (hz : l.length * 16 ≤ 140737488351232) (hb : base ≤ w.heap.size) (ho : w.ownsRow base 26 2 (.slice A l.length cap) l.length (flatP l)) :
    Calls Try.prog 27 #[.slice A l.length cap, .func (.func 28) #[] #[]] w fun e w' => e = .returned (.tuple #[]) ∧ ∃ S, S.Perm l ∧ S.Pairwise (fun x y => x.1 ≤ y.1) ∧ RowX encP 2 w' A S ∧ Below base w w' := by
  rcases ho.2 with ⟨hv, h0⟩ | ⟨g, cap', cur, hv, hg0, hg, hl, hcap, hcs, htk⟩
  · have hm0 : l = [] := List.eq_nil_of_length_eq_zero h0
    subst hm0
    refine (sort_none _ _ _ _).mono ?_
    rintro e w2 ⟨rfl, rfl⟩
    exact ⟨rfl, [], .refl _, .nil, .inl rfl, Below.refl _ _⟩
  · simp only [Value.slice.injEq] at hv
    obtain ⟨rfl, -, rfl⟩ := hv
    have hH := holds_p hg hcs hl htk
    have hgl : g < w.heap.size := (Array.getElem?_eq_some_iff.1 hg).1
    have hc := sort_p g 0 cap l.toArray w hH hgl (by simp; omega)
    simp only [List.size_toArray] at hc
    refine hc.mono ?_
    rintro e w2 ⟨rfl, d', n, os, hp, hs, rfl⟩
    have hlen : d'.toList.length = l.length := hp.length_eq
    have hgr := grown_p (w := w) (g := g) (n := n) (os := os) d'
    refine ⟨rfl, d'.toList, hp, hs, ?_, (Below.refl base w).grown hgr hb fun k e => by cases e; exact hg0⟩
    have hA : HoldsK encP 2 (Sort.ahead w n) g 0 l.toArray := holdsK_ahead _ _ _ _ _ _ _ hH
    have hB := holdsK_putRowK encP 2 (Sort.ahead w n) g 0 l.toArray d' hA (by simpa using hlen)
    refine rowX_holds (Nat.lt_of_lt_of_le hgl hgr.size) (holdsK_grow _ _ _ _ _ _ _ (by simpa [putRowK, putRow, mapBlock, Sort.ahead] using hgl) ?_)
    have e : d'.toList.toArray = d' := by simp
    rw [e]
    exact hB

theorem run_copy2_none {P : Program} (w : World) (dT sT ty elem : TypeId) (d : Addr) (dLen dCap sCap : Nat)
    (hu : P.underlying dT = some (.slice elem)) (hs : (P.info? elem).map (·.size) = some 2) :
    (Builtin.copy_ #[dT, sT] ty #[.slice (some d) dLen dCap, .slice none 0 sCap]).run P w = .ok (goInt 0) w := by
  cases hq : P.info? elem with
  | none => simp [hq] at hs
  | some i =>
    simp [Builtin.copy_, run_underlying hu, Builtin.lenOf, Builtin.firstCells, sizeOf, typeInfo, hq, storeCells]
theorem slice_all (N : Nat) (w : World) : (Instr.sliceAt 27 (.pointer (some ⟨N, 0, none⟩)) none none none).run Try.prog w = .ok (.slice (some ⟨N, 0, none⟩) 16 16) w := by
  rw [run_sliceAt_array_all w _ _ und27, size27]
  simp [slicedAt, len27, Result.andThen, Addr.add]
/-- A state's pairs, copied in. -/
theorem copy_in {w w5 : World} {bl : List (Nat × List Value)} {N : Nat} {A : Option Addr} {cap : Nat} {S : List (Int × Int)} (hn : S.length ≤ 16) (hN : w.heap.size ≤ N) (hd : ∀ x ∈ bl, x.1 ≠ N) (h : Fr w ((N, zeros 32 ++ [.int .i64 S.length]) :: bl) w5) (hR : RowX encP 2 w5 A S) :
    ∃ w6, (∀ ty, (Builtin.copy_ #[46, 46] ty #[.slice (some ⟨N, 0, none⟩) 16 16, .slice A S.length cap]).run Try.prog w5 = .ok (goInt S.length) w6) ∧ Fr w ((N, encS S) :: bl) w6 := by
  have h2 : Fr w ((N, [] ++ zeros (2 * S.length) ++ (zeros (32 - 2 * S.length) ++ [.int .i64 S.length])) :: bl) w5 := by
    rw [List.nil_append, ← List.append_assoc, ← zeros_add, show 2 * S.length + (32 - 2 * S.length) = 32 by omega]; exact h
  have h3 := Fr.puts hN hd _ (flatP S) _ _ w5 h2 (by simp [zeros])
  have h4 : [] ++ flatP S ++ (zeros (32 - 2 * S.length) ++ [.int .i64 S.length]) = encS S := by unfold encS; simp
  rw [h4] at h3
  refine ⟨_, fun ty => ?_, h3⟩
  rcases hR with rfl | ⟨b, off, rfl, hl, hc⟩
  · rcases A with _ | a
    · exact run_copy2_none w5 _ _ ty 26 _ _ _ _ (by kernel_rfl) (by kernel_rfl)
    · exact run_copy2 w5 _ _ ty 26 N 0 _ _ a _ _ [] (by kernel_rfl) (by kernel_rfl) (by simp) (by simp) (by simp) (by simp) (by simp)
  · have hmin : Nat.min S.length 16 = S.length := Nat.min_eq_left hn
    have := run_copy2 (P := Try.prog) w5 46 46 ty 26 N 0 16 16 ⟨b, off, none⟩ S.length cap (flatP S) (by kernel_rfl) (by kernel_rfl) (by rw [hmin, flatP_length]; omega) (by
        have := RowX.news (enc := encP) (k := 2) encP_length (by decide) (w := w5) (ad := ⟨b, off, none⟩) (.inr ⟨b, off, rfl, hl, hc⟩)
        rw [flatP_flat] at this
        exact this)
      (fun j hj => by
        rw [flatP_length] at hj
        rw [Nat.zero_add, h.rule 0 rfl, List.getElem?_eq_getElem (by simp [zeros]; omega)]; rfl)
      (fun j hj => by
        rw [flatP_length] at hj
        rw [Nat.zero_add]; exact h.thaw 0 rfl hN j (by simp [zeros]; omega)) (flatP_one' S)
    rw [hmin] at this
    exact this

theorem below_sets {B : Nat} {a : World} {b : Nat} (hb : B ≤ b) : ∀ (vs : List Value) (o : Nat) (w : World), Below B a w → Below B a (w.setCells b o vs)
  | [], _, _, h => h
  | _ :: r, o, _, h => below_sets hb r (o + 1) _ (h.setCell hb _)
/-- What New answers. -/
def NewOk (l S : List (Int × Int)) (er : Int) : Prop :=
  (¬ (l.map (·.1)).Nodup ∧ S = [] ∧ er = 1) ∨ ((l.map (·.1)).Nodup ∧ 16 < l.length ∧ S = [] ∧ er = 6) ∨ ((l.map (·.1)).Nodup ∧ l.length ≤ 16 ∧ er = 0 ∧ S.Perm l ∧ S.Pairwise fun a b => a.1 < b.1)
theorem RowX.two {w : World} {A : Option Addr} {S : List (Int × Int)} (h : RowX encP 2 w A S) {i : Nat} (hi : i < S.length) : ∃ g off, A = some ⟨g, off, none⟩ ∧ ∀ j, j < S.length → w.cell? ⟨g, off + j * 2, none⟩ = some (.int .u64 (S.getD j (0, 0)).1) ∧ w.cell? ⟨g, off + j * 2 + 1, none⟩ = some (.int .u64 (S.getD j (0, 0)).2) := by
  rcases h with rfl | ⟨b, off, rfl, hl, hc⟩
  · simp at hi
  · exact ⟨b, off, rfl, fun j hj => ⟨by have := hc j hj 0 (.int .u64 (S.getD j (0, 0)).1) rfl; simpa using this, by have := hc j hj 1 (.int .u64 (S.getD j (0, 0)).2) rfl; simpa using this⟩⟩
theorem strict_of {S : List (Int × Int)} (h : S.Pairwise fun x y => x.1 ≤ y.1) (ha : ∀ j, j + 1 < S.length → (S.getD (j + 1) (0, 0)).1 ≠ (S.getD j (0, 0)).1) : S.Pairwise fun a b => a.1 < b.1 := by
  have hg : ∀ i (hi : i < S.length), S.getD i (0, 0) = S[i] := fun i hi => by rw [List.getD_eq_getElem?_getD, List.getElem?_eq_getElem hi]; rfl
  rw [List.pairwise_iff_getElem] at *
  intro i j hi hj hij
  obtain ⟨j', rfl⟩ : ∃ j', j = j' + 1 := ⟨j - 1, by omega⟩
  have h1 := ha j' hj
  rw [hg _ hj, hg j' (by omega)] at h1
  have h2 := h j' (j' + 1) (by omega) hj (by omega)
  by_cases e : i = j'
  · subst e; omega
  · have h3 := h i j' hi (by omega) (by omega); omega
theorem nodup_of {S : List (Int × Int)} (h : S.Pairwise fun a b => a.1 < b.1) : (S.map (·.1)).Nodup := by
  rw [List.Nodup, List.pairwise_map]
  exact h.imp fun h => by omega

set_option maxHeartbeats 4000000 in
theorem new_s {A : Option Addr} {cap : Nat} {l : List (Int × Int)} {w : World} (hz : l.length * 16 ≤ 140737488351232) (hr : RowX encP 2 w A l) :
    Calls Try.prog 14 #[.slice A l.length cap] w fun e w' => ∃ S er, e = .returned (.tuple #[.agg (encS S).toArray, .int .i64 er]) ∧ NewOk l S er ∧ Below w.heap.size w w' := by
  have hF := (Fr.start w).push w.heap.size rfl (encS []) 29
  have hr' := hr.below ((Below.refl _ w).alloc (Nat.le_refl _) (.cells (encS []).toArray 29))
  have C1 := clone_p (cap := cap) hz hr'
  have HZ := Lib.hid hz
  go_enter Try.func14, Try.ntmps14
  go_wp2_with fail
  refine C1.mono ?_
  rintro e w1 ⟨A1, cap1, rfl, ho, hb⟩
  replace hF := hF.over hb
  have hb1 := hb.size
  simp only [World.size_alloc] at ho hb1
  clear hb C1 hr hr'
  go_wp2_with fail
  refine (sort_own hz hb1 ho).mono ?_
  rintro e w2 ⟨rfl, S, hp, hs, hR, hb⟩
  replace hF := hF.lower hb (by omega) (by simp)
  have hn := hp.length_eq
  clear hb ho
  generalize hnn : l.length = n at *
  go_wp2_with fail
  have HP := Lib.hid hp
  have HS := Lib.hid hs
  have HN := Lib.hid hnn
  clear hp hs hnn
  go_loopg [5] (n + 1) (fun kx s5 wr => ∃ m : Nat, s5 = .int .i64 ((m : Int) + 1) ∧ (m = 0 ∨ m < n) ∧ n - m ≤ kx ∧ Hid (Fr w [(w.heap.size, encS [])] wr) ∧ Hid (RowX encP 2 wr A1 S) ∧ Hid (∀ j, j < m → (S.getD (j + 1) (0, 0)).1 ≠ (S.getD j (0, 0)).1))
  case atStart => exact ⟨0, rfl, .inl rfl, by omega, Lib.hid hF, Lib.hid hR, Lib.hid fun j hj => absurd hj (Nat.not_lt_zero j)⟩
  case round =>
    clear hF hR
    obtain ⟨m, rfl, hm, hk, hF, hR, hA⟩ := hrel
    by_cases hlt : m + 1 < n
    · obtain ⟨g, off, rfl, hcell⟩ := hR.out.two (i := m + 1) (by omega)
      obtain ⟨c1, c2⟩ := hcell (m + 1) (by omega)
      obtain ⟨c3, c4⟩ := hcell m (by omega)
      clear hcell c2 c4
      have hX : ∃ x, (S.getD (m + 1) (0, 0)).1 = x := ⟨_, rfl⟩
      obtain ⟨x, hX⟩ := hX
      have hY : ∃ y, (S.getD m (0, 0)).1 = y := ⟨_, rfl⟩
      obtain ⟨y, hY⟩ := hY
      rw [hX] at c1
      rw [hY] at c3
      have HX := Lib.hid hX
      have HY := Lib.hid hY
      clear hX hY
      have hlt' : ((m : Int) + 1 < (n : Int)) := by omega
      have W1 : Hid (IntKind.i64.wrap (m : Int) = (m : Int)) := Lib.hid (by rw [IntKind.wrap_i64]; omega)
      have hlm : m < n := by omega
      have hlm' : (m : Int) < n := by omega
      have h00 : (0 : Int) ≤ (m : Int) + 1 := by omega
      have h01 : (0 : Int) ≤ (m : Int) := by omega
      have t1 : ((m : Int) + 1).toNat = m + 1 := by omega
      go_upto_region 6 with fail
      refine wp_text (S := (fun w' => Fr w [(w.heap.size, encS [])] w' ∧ RowX encP 2 w' (some ⟨g, off, none⟩) S ∧ w'.cell? ⟨g, off + (m + 1) * 2, none⟩ = some (.int .u64 x) ∧ w'.cell? ⟨g, off + m * 2, none⟩ = some (.int .u64 y))) (by kernel_rfl) (by kernel_rfl) ⟨hF.out.drew, hR.out, c1, c3⟩ (fun hT => ?_)
      have hT9 := Lib.hid hT
      clear hT
      repeat (first
        | (refine text_value (v := ?_) hT9.out (by rfl) ?_ ?_; rotate_left; (focus (intro w5 hS; have q1 := hS.2.2.1; have q3 := hS.2.2.2; have w1 := W1.out; go_simp <;> with_reducible rfl)); (try simp only [Act.put, List.setIfInBounds_toArray, List.set_cons_zero, List.set_cons_succ]))
        | (refine text_off hT9.out (by rfl) ?_; (try simp only [Act.put, List.setIfInBounds_toArray, List.set_cons_zero, List.set_cons_succ]))
        | (refine text_call (v := ?_) (f := ?_) (args := ?_) hT9.out (by rfl) ?_ ?_ ?_; rotate_left 3; (focus (intro w5 hS; have q1 := hS.2.2.1; have q3 := hS.2.2.2; have w1 := W1.out; go_simp; constructor <;> with_reducible rfl)); (focus (intro w5 hS; (first | skip))); (try simp only [Act.put, List.setIfInBounds_toArray, List.set_cons_zero, List.set_cons_succ])))
      refine InText.nil fun w5 hS5 => ?_
      clear hT9
      obtain ⟨hF5, hR5, -, -⟩ := hS5
      by_cases hxy : x = y
      · subst hxy
        go_upto_region 7 with fail
        apply wp_region_lit
        refine wpList_buildTo rfl 29 _ rfl (some 29) rfl (encS []).toArray (by kernel_rfl) ?_
        refine wpList_store_mid rfl 29 _ _ rfl w.heap.size 0 (encS []).toArray rfl rfl (hF5.there 0 rfl (Nat.le_refl _) (by rw [List.size_toArray])) (size33a (by simp)) (one33 _) ?_
        replace hF5 := hF5.whole (us := encS []) (Nat.le_refl _) (by simp) rfl
        generalize World.setCells w5 _ _ _ = w6 at *
        go_wp2_with fail
        (try simp only [Exit.inBlock, Exit.then])
        refine bodyPost_ret (res_ct rfl _ _ w.heap.size rfl _ _ (hF5.range 0 rfl) und29 rfl (size33 (by simp))) rfl ⟨[], 1, rfl, .inl ⟨fun hnd => ?_, rfl, rfl⟩, hF5.below⟩
        have h9 := (hnd.perm (HP.out.map (·.1)).symm)
        rw [List.Nodup, List.pairwise_map, List.pairwise_iff_getElem] at h9
        refine h9 m (m + 1) (by omega) (by omega) (by omega) ?_
        have e1 := HX.out
        have e2 := HY.out
        rw [List.getD_eq_getElem?_getD, List.getElem?_eq_getElem (by omega)] at e1 e2
        exact e2.trans e1.symm
      · have hxy' : (x == y) = false := by simpa using hxy
        go_wp2_with fail
        go_roundg (n - (m + 1))
        case measure => omega
        case rel => exact ⟨m + 1, by simp, .inr hlt, Nat.le_refl _, Lib.hid hF5, Lib.hid hR5, Lib.hid fun j hj => by
          by_cases e : j = m
          · subst e; rw [HX.out, HY.out]; exact hxy
          · exact hA.out j (by omega)⟩
    · have hst : S.Pairwise fun a b => a.1 < b.1 := strict_of HS.out fun j hj => hA.out j (by omega)
      have HST := Lib.hid hst
      clear hst
      have hlt' : ¬ ((m : Int) + 1 < (n : Int)) := by omega
      by_cases h16 : n ≤ 16
      · have h16' : ¬ ((16 : Int) < (n : Int)) := by omega
        have hnl : S.length ≤ 16 := by omega
        replace hF := hF.out
        replace hR := hR.out
        have hzz := hF.lt 0 rfl
        go_upto_region 10 with fail
        apply wp_region_lit
        refine Go.Great.wpList_readTo rfl (some 34) rfl (.slice A1 n cap1) rfl ?_
        (try simp only [Act.put, List.setIfInBounds_toArray, List.set_cons_zero, List.set_cons_succ])
        refine Go.Great.wpList_readTo rfl (some 35) rfl (.int .i64 n) (by go_simp) ?_
        (try simp only [Act.put, List.setIfInBounds_toArray, List.set_cons_zero, List.set_cons_succ])
        refine wpList_buildTo rfl 29 _ rfl (some 36) rfl (zeros 32 ++ [Value.int .i64 n]).toArray (by kernel_rfl) ?_
        refine Go.Great.wpList_allocTo rfl (some 6) rfl (.pointer (some ⟨wr.heap.size, 0, none⟩)) (.cells (encS []).toArray 29) (by kernel_rfl) ?_
        have hb0 := hF.below.size
        have hB3 := (Below.refl wr.heap.size wr).alloc (Nat.le_refl _) (.cells (encS []).toArray 29)
        replace hF := hF.push wr.heap.size rfl (encS []) 29
        generalize World.alloc wr _ = w3 at *
        refine wpList_store_mid rfl 29 _ _ rfl wr.heap.size 0 (zeros 32 ++ [Value.int .i64 n]).toArray rfl rfl (hF.there 0 rfl (by omega) (by simp [zeros, encS])) (by rw [List.size_toArray]; exact size29) (all_oneCell_toArray (fun v hv => by simp [zeros] at hv; rcases hv with rfl | rfl <;> rfl)) ?_
        replace hF := hF.whole (us := zeros 32 ++ [Value.int .i64 n]) (by omega) (by simp; omega) (by simp [zeros, encS])
        have hB4 := below_sets (Nat.le_refl wr.heap.size) (zeros 32 ++ [Value.int .i64 n]) 0 w3 hB3
        replace hR := hR.below hB4
        clear hB3 hB4
        generalize World.setCells w3 _ _ _ = w4 at *
        generalize wr.heap.size = Z at *
        subst hn
        obtain ⟨w5, hcp, hG⟩ := copy_in (cap := cap1) hnl (by omega) (by simp; omega) hF hR
        have SA := Lib.hid (slice_all Z)
        have CP := Lib.hid hcp
        clear hcp hF hR
        (try simp only [Act.put, List.setIfInBounds_toArray, List.set_cons_zero, List.set_cons_succ])
        go_upto_region 11 with fail
        apply wp_region_lit
        refine Go.Great.wpList_readTo rfl (some 37) rfl (.pointer (some ⟨Z, 0, none⟩)) (by go_simp) ?_
        refine Go.Great.wpList_readTo rfl (some 38) rfl (.slice (some ⟨Z, 0, none⟩) 16 16) (by have := SA.out; go_simp) ?_
        (try simp only [Act.put, List.setIfInBounds_toArray, List.set_cons_zero, List.set_cons_succ])
        refine Go.Great.wpList_readTo rfl (some 39) rfl (.slice A1 S.length cap1) rfl ?_
        (try simp only [Act.put, List.setIfInBounds_toArray, List.set_cons_zero, List.set_cons_succ])
        refine Go.Great.wpList_runTo rfl (some 40) rfl (goInt S.length) w5 (by have := CP.out; go_simp) ?_
        (try simp only [Act.put, List.setIfInBounds_toArray, List.set_cons_zero, List.set_cons_succ])
        go_upto_region 12 with fail
        apply wp_region_lit
        replace hG := hG.sub (bl' := [(w.heap.size, encS []), (Z, encS S)]) (by simp)
        refine wpList_load_mid rfl 29 _ rfl Z 0 rfl (encS S) _ (hG.range 1 rfl) und29 rfl (size33 hnl) ?_
        refine wpList_store_mid rfl 29 _ _ rfl w.heap.size 0 (encS S).toArray rfl rfl (hG.there 0 rfl (Nat.le_refl _) (by rw [encS_length (by simp), List.size_toArray, encS_length hnl])) (size33a hnl) (one33 _) ?_
        replace hG := hG.whole (us := encS S) (Nat.le_refl _) (by simp; omega) (by rw [encS_length (by simp), encS_length hnl])
        generalize World.setCells w5 _ _ _ = w6 at *
        go_wp2_with fail
        exact bodyPost_ret (res_ct rfl _ _ w.heap.size rfl _ _ (hG.range 0 rfl) und29 rfl (size33 hnl)) rfl ⟨S, 0, rfl, .inr (.inr ⟨(HP.out.map (·.1)).nodup_iff.1 (nodup_of HST.out), by rw [HN.out]; omega, rfl, HP.out, HST.out⟩), hG.below⟩
      · have h16' : (16 : Int) < (n : Int) := by omega
        replace hF := hF.out
        go_upto_region 9 with fail
        apply wp_region_lit
        refine wpList_buildTo rfl 29 _ rfl (some 33) rfl (encS []).toArray (by kernel_rfl) ?_
        refine wpList_store_mid rfl 29 _ _ rfl w.heap.size 0 (encS []).toArray rfl rfl (hF.there 0 rfl (Nat.le_refl _) (by rw [List.size_toArray])) (size33a (by simp)) (one33 _) ?_
        replace hF := hF.whole (us := encS []) (Nat.le_refl _) (by simp) rfl
        generalize World.setCells wr _ _ _ = w6 at *
        go_wp2_with fail
        refine bodyPost_ret (res_ct rfl _ _ w.heap.size rfl _ _ (hF.range 0 rfl) und29 rfl (size33 (by simp))) rfl ⟨[], 6, rfl, .inr (.inl ⟨(HP.out.map (·.1)).nodup_iff.1 (nodup_of HST.out), by rw [HN.out]; omega, rfl, rfl⟩), hF.below⟩
end Go.Proofs.Ytdeohigggjfjjaa

/- How many structs came in, by what they read as. General. -/
namespace Go.Proofs.Ytdeohigggjfjjaa
open Go.RowKit Go.Maps Go.WideShapes Go.ChangeShapes Go.ChangeAt Go.Deep
set_option maxRecDepth 100000

section
variable {H : Type} {enc : TypeId × Value → H} {P : Program} {W : World}
theorem row_size {t e : TypeId} {by' : Nat} {A : Option Addr} {len cap j : Nat} {d : DataW H} {p : List MemPlace} {ts : List TypeId} {ds : List (DataW H)} (ht : P.underlying t = some (.slice e)) (hby : P.bytesOf e = by')
    (h : DataW.Trod enc P W 0 (fun _ => true) true t (.slice A len cap) d p) (hsz : (DataW.weightsEach P ts ds).all (· ≤ reachBytes) = true) (hts : ts[j]? = some t) (hds : ds[j]? = some d) : len * by' ≤ 140737488351232 := by
  obtain ⟨fuel, hf⟩ := h
  rcases open_slice ht hf with ⟨hcs, _⟩ | ⟨a, len', cap', m, n, D, Pl, hcs, _, hl, hm, hmm, hx, _⟩
  · simp [Value.cells] at hcs
    obtain ⟨_, rfl, _⟩ := hcs
    omega
  · simp [Value.cells] at hcs
    obtain ⟨_, rfl, rfl⟩ := hcs
    simp only [Prod.mk.injEq] at hx
    obtain ⟨rfl, _⟩ := hx
    have := sized_slice hsz hts hds ht
    rw [hby] at this
    simp only [List.length_map, List.length_range, reachBytes] at this
    simp only [if_true] at hmm
    exact Nat.le_trans (Nat.mul_le_mul_right _ (by omega)) this
end
end Go.Proofs.Ytdeohigggjfjjaa
