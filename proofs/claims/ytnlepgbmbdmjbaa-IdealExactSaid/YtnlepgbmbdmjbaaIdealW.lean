/- The ideal world: answers that the document fixes. -/
import Derived.Test.YtnlepgbmbdmjbaaIdealC
import Derived.Test.YtnlepgbmbdmjbaaIdealD
namespace Go.Proofs.Ytnlepgbmbdmjbaa
open Go.RowKit Go.Maps
set_option maxRecDepth 100000

set_option maxHeartbeats 3200000 in
theorem awake9 (w : World) : Calls Try.prog 7 #[] w fun e w' => e = .returned (.bool true) ∧ Below w.heap.size w w' := by
  have hE := Env.start w
  have h3 : Hid (In64 3) := Lib.hid (by unfold In64; omega)
  have h1 : Hid (In64 1) := Lib.hid (by unfold In64; omega)
  have h2 : Hid (In64 2) := Lib.hid (by unfold In64; omega)
  have h8 : Hid (In64 8) := Lib.hid (by unfold In64; omega)
  have HW : Hid (Wf (5, 3, 3)) := Lib.hid ⟨show In64 5 by unfold In64; omega, h3.out, h3.out⟩
  have HM : Hid (0 < maxLen) := Lib.hid (by unfold maxLen; omega)
  go_enter Try.func7, Try.ntmps7
  go_wp2_with fail
  refine (new_i hE).mono ?_
  rintro e w1 ⟨g, c, s, rfl, hE, hb⟩
  clear hb
  go_wp2_with fail
  refine (born_i 3 h3.out (by simp) 0 hE rfl rfl).mono ?_
  rintro e w2 ⟨rfl, S2, hE⟩
  rw [show bornV [] 3 = 1 by decide]
  rw [show bornL [] 3 = [3] by decide] at hE
  simp only [List.set_cons_succ, List.set_cons_zero] at hE
  go_wp2_with fail
  refine (placeOf_any 3 3 _).mono ?_
  rintro e w3 ⟨rfl, hb⟩
  replace hE := (hE.over hb).box w3.heap.size rfl [.int .i64 5, .int .i64 3, .int .i64 3, .int .i64 1] 41
  clear hb
  go_upto_region 4 with fail
  generalize w3.alloc _ = w4 at *
  generalize w3.heap.size = A at *
  have rA := hE.rule 0 rfl
  go_wp2_with fail
  refine (store_i 5 3 3 1 5 8 false HW.out h1.out (by unfold InU; omega) h8.out HM.out HM.out 1 hE rfl rfl rfl).mono ?_
  rintro e w5 ⟨rfl, mp5, F5, hE⟩
  simp only [List.set_cons_succ, List.set_cons_zero] at hE
  rw [show wrap64 (0 + 1) = 1 by simp [wrap64]] at hE
  clear rA
  go_wp2_with fail
  refine (born_i 3 h3.out (by simp) 1 hE rfl rfl).mono ?_
  rintro e w6 ⟨rfl, S6, hE⟩
  rw [show bornV [3] 3 = 2 by decide]
  rw [show bornL [3] 3 = [3, 3] by decide] at hE
  simp only [List.set_cons_succ, List.set_cons_zero] at hE
  have rA := hE.rule 0 rfl
  replace hE := hE.box w6.heap.size rfl [.int .i64 5, .int .i64 3, .int .i64 3, .int .i64 2] 41
  go_upto_region 7 with fail
  clear rA
  generalize w6.alloc _ = w7 at *
  generalize w6.heap.size = B at *
  have rA := hE.rule 1 rfl
  have rB := hE.rule 0 rfl
  go_wp2_with fail
  refine (load_i 5 3 3 1 HW.out h1.out 2 hE rfl rfl rfl).mono ?_
  rintro e w8 ⟨rfl, hE⟩
  rw [upd_same, upd_same]
  simp only [List.set_cons_succ, List.set_cons_zero] at hE
  rw [show wrap64 (0 + 1) = 1 by simp [wrap64]] at hE
  clear rA rB
  have rA := hE.rule 1 rfl
  have rB := hE.rule 0 rfl
  go_wp2_with fail
  refine (load_i 5 3 3 2 HW.out h2.out 2 hE rfl rfl rfl).mono ?_
  rintro e w9 ⟨rfl, hE⟩
  rw [show upd (fun _ => 0) (ownP 5 3 3 1) 5 (ownP 5 3 3 2) = 0 by decide, show upd (fun _ => 0) (ownP 5 3 3 1) 8 (ownP 5 3 3 2) = 0 by decide]
  simp only [List.set_cons_succ, List.set_cons_zero] at hE
  rw [show wrap64 (1 + 1) = 2 by simp [wrap64]] at hE
  clear rA rB
  go_wp2_with fail
  refine (content_i 1 3 h1.out h3.out 2 hE rfl rfl).mono ?_
  rintro e w10 ⟨rfl, hb⟩
  rw [show (if contB 5 3 = true then upd (fun _ => 0) (ownP 5 3 3 1) 5 (5, 1, 3) else 0) = 5 by decide]
  replace hE := hE.over hb
  clear hb
  have rA := hE.rule 1 rfl
  go_wp2_with fail
  refine (peek_i 5 3 3 HW.out (by simp) 2 hE rfl rfl rfl).mono ?_
  rintro e w11 ⟨rfl, hb⟩
  rw [show upd (fun _ => 0) (ownP 5 3 3 1) 5 (ownP 5 3 3 (nowL [3, 3] 3)) = 0 by decide]
  replace hE := hE.over hb
  clear hb rA
  go_wp2_with fail
  refine (count_i 2 hE rfl rfl).mono ?_
  rintro e w12 ⟨rfl, hb⟩
  replace hE := hE.over hb
  go_wp2_with fail
  go_ret
  exact ⟨rfl, hE.below⟩
end Go.Proofs.Ytnlepgbmbdmjbaa
