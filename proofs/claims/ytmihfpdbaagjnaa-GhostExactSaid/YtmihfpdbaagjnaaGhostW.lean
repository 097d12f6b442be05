/- The plain world, watched: answers that the document fixes. -/
import Derived.Test.YtmihfpdbaagjnaaGhostC
import Derived.Test.YtmihfpdbaagjnaaGhostD
import Derived.Test.YtmihfpdbaagjnaaPlaceO
namespace Go.Proofs.Ytmihfpdbaagjnaa
open Go.RowKit Go.Maps
set_option maxRecDepth 100000

theorem Env.put4 {w0 w : World} {L : List Item} (h : Env w0 L w) (i : Nat) {B : Nat} {a b c d : Value} (hi : L[i]? = some (boxI B [a, b, c, d])) (u v t x : Value) :
    Env w0 (L.set i (boxI B [u, v, t, x])) ((((w.setCell ⟨B, 0, none⟩ u).setCell ⟨B, 1, none⟩ v).setCell ⟨B, 2, none⟩ t).setCell ⟨B, 3, none⟩ x) := by
  have hl : i < L.length := (List.getElem?_eq_some_iff.1 hi).1
  have h1 := h.put i hi (j := 0) (by simp) u
  have h2 := h1.put i (by rw [List.getElem?_set_self hl]) (j := 1) (by simp) v
  have h3 := h2.put i (by rw [List.getElem?_set_self (by simpa using hl)]) (j := 2) (by simp) t
  have h4 := h3.put i (by rw [List.getElem?_set_self (by simpa using hl)]) (j := 3) (by simp) x
  simpa using h4

set_option maxHeartbeats 3200000 in
theorem awake8 (w : World) : Calls Try.prog 7 #[] w fun e w' => e = .returned (.bool true) ∧ Below w.heap.size w w' := by
  have hE := Env.start w
  have h3 : Hid (In64 3) := Lib.hid (by unfold In64; omega)
  have HW : Hid (Wf (5, 3, 3)) := Lib.hid ⟨show In64 5 by unfold In64; omega, show In64 3 by unfold In64; omega, show In64 3 by unfold In64; omega⟩
  have HM : Hid (∀ n : Nat, n ≤ 10 → n < maxLen) := Lib.hid fun n hn => by unfold maxLen; omega
  go_enter Try.func7, Try.ntmps7
  go_wp2_with fail
  refine (new_g hE).mono ?_
  rintro e w1 ⟨g, p, s, c, rfl, hE, hb⟩
  clear hb
  go_wp2_with fail
  refine (placeOf_any 3 3 _).mono ?_
  rintro e w2 ⟨rfl, hb⟩
  replace hE := hE.over hb
  clear hb
  replace hE := hE.box w2.heap.size rfl [.int .i64 5, .int .i64 3, .int .i64 3, .int .i64 1] 43
  have h7 : Hid (In64 7) := Lib.hid (by unfold In64; omega)
  have h0 : Hid (In64 0) := Lib.hid (by unfold In64; omega)
  go_upto_region 3 with fail
  generalize w2.alloc _ = w3 at *
  generalize w2.heap.size = A at *
  go_wp2_with fail
  refine (born_g 3 h3.out (by simp) 1 hE rfl rfl).mono ?_
  rintro e w4 ⟨rfl, S4, hE⟩
  rw [show bornV [] 3 = 1 by decide]
  rw [show bornL [] 3 = [3] by decide] at hE
  simp only [List.set_cons_succ, List.set_cons_zero] at hE
  have rA := hE.rule 0 rfl
  go_wp2_with fail
  refine (store_g 5 3 3 1 5 7 false HW.out (by unfold InU; omega) h7.out (HM.out 0 (by omega)) (HM.out 0 (by omega)) (by simp) 1 hE rfl rfl rfl rfl rfl).mono ?_
  rintro e w5 ⟨rfl, mp5, F5, hE⟩
  rw [show faS [3] 5 3 1 false 0 = 0 by decide] at hE
  simp only [List.set_cons_succ, List.set_cons_zero] at hE
  clear rA
  have rA := hE.rule 0 rfl
  go_wp2_with fail
  refine (load_g 5 3 3 1 HW.out (by simp) 1 hE rfl rfl rfl rfl rfl).mono ?_
  rintro e w6 ⟨rfl, hE⟩
  rw [upd_same, upd_same, show stB [3] 5 3 1 = false by decide]
  rw [show stB [3] 5 3 1 = false by decide] at hE
  simp only [List.set_cons_succ, List.set_cons_zero, Bool.false_eq_true, if_false] at hE
  clear rA
  replace hE := hE.box w6.heap.size rfl [.int .u64 5, .int .i64 7, .bool false] 39
  go_upto_region 6 with fail
  generalize w6.alloc _ = w7 at *
  generalize w6.heap.size = V at *
  go_wp2_with fail
  refine (born_g 3 h3.out (by simp) 2 hE rfl rfl).mono ?_
  rintro e w8 ⟨rfl, S8, hE⟩
  rw [show bornV [3] 3 = 2 by decide]
  rw [show bornL [3] 3 = [3, 3] by decide] at hE
  simp only [List.set_cons_succ, List.set_cons_zero] at hE
  have rA := hE.rule 1 rfl
  go_wp2_with fail
  refine (load_g 5 3 3 1 HW.out (by simp) 2 hE rfl rfl rfl rfl rfl).mono ?_
  rintro e w9 ⟨rfl, hE⟩
  rw [upd_same, upd_same, show stB [3, 3] 5 3 1 = true by decide]
  rw [show stB [3, 3] 5 3 1 = true by decide] at hE
  simp only [List.set_cons_succ, List.set_cons_zero, if_true] at hE
  clear rA
  replace hE := hE.box w9.heap.size rfl [.int .u64 5, .int .i64 7, .bool true] 39
  go_upto_region 8 with fail
  generalize w9.alloc _ = w10 at *
  generalize w9.heap.size = W at *
  have rA := hE.rule 2 rfl
  go_wp2_with fail
  refine (store_g 5 3 3 1 6 0 false HW.out (by unfold InU; omega) h0.out (HM.out 1 (by omega)) (HM.out 1 (by omega)) (by simp) 3 hE rfl rfl rfl rfl rfl).mono ?_
  rintro e w11 ⟨rfl, mp11, F11, hE⟩
  rw [show faS [3, 3] 5 3 1 false 0 = 1 by unfold faS; rw [show stB [3, 3] 5 3 1 = true by decide]; simp [wrap64]] at hE
  rw [show wrap64 (0 + 1) = 1 by simp [wrap64]] at hE
  simp only [List.set_cons_succ, List.set_cons_zero] at hE
  clear rA
  have rA := hE.rule 2 rfl
  have rV := hE.rule 1 rfl
  have rW := hE.rule 0 rfl
  go_wp2_with fail
  refine (stale_any (hE.gblk 3 rfl)).mono ?_
  rintro e w12 ⟨rfl, rfl⟩
  go_wp2_with fail
  refine (faults_any (hE.gblk 3 rfl)).mono ?_
  rintro e w13 ⟨rfl, rfl⟩
  go_wp2_with fail
  refine (souls_any (hE.gblk 3 rfl)).mono ?_
  rintro e w14 ⟨rfl, rfl⟩
  go_wp2_with fail
  refine (is_any 3 2 h3.out (by simp) (hE.soul 5 rfl)).mono ?_
  rintro e w15 ⟨rfl, hb⟩
  rw [show decide ((2 : Int) ≠ 0 ∧ nowL [3, 3] 3 = 2) = true by decide]
  replace hE := hE.over hb
  clear hb rA rV rW
  have rA := hE.rule 2 rfl
  go_wp2_with fail
  refine (peek_g 5 3 3 HW.out 3 hE rfl rfl rfl).mono ?_
  rintro e w16 ⟨rfl, hb⟩
  rw [upd_same]
  replace hE := hE.over hb
  go_wp2
  go_ret
  exact ⟨rfl, hE.below⟩
end Go.Proofs.Ytmihfpdbaagjnaa
