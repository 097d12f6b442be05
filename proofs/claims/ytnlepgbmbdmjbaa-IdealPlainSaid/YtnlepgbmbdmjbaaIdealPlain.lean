/- IdealPlain: where no slot is born twice an ideal world answers as the plain one does: so the law answers true, for every input. -/
import Derived.Test.YtnlepgbmbdmjbaaIdealW
import Derived.Test.YtnlepgbmbdmjbaaIdealO
import Derived.Test.YtnlepgbmbdmjbaaActI
import Derived.Test.YtnlepgbmbdmjbaaLaw
import Derived.Test.YtnlepgbmbdmjbaaRows
namespace Go.Proofs.Ytnlepgbmbdmjbaa.idealPlain
open Go.ChangeShapes Go.WideShapes Go.ChangeAt Go.RowKit Go.Maps
set_option maxRecDepth 100000

theorem own_same {x y z d : Int} (h : x = 5 → d = y) : ownP x y z d = (x, y, z) := by
  cases hc : contB x z
  · exact ownP_no hc
  · rw [ownP_yes hc]
    unfold contB at hc
    rw [decide_eq_true_iff] at hc
    rw [h hc.1, hc.1]
theorem now7 (y : Int) (h : 1 ≤ y ∧ y ≤ 7) : nowL [1, 2, 3, 4, 5, 6, 7] y = y := by
  have : y = 1 ∨ y = 2 ∨ y = 3 ∨ y = 4 ∨ y = 5 ∨ y = 6 ∨ y = 7 := by omega
  rcases this with rfl | rfl | rfl | rfl | rfl | rfl | rfl <;> decide
theorem arr7 (t : Nat) (h : 1 ≤ t ∧ t ≤ 7) : ([.int .i64 0, .int .i64 1, .int .i64 2, .int .i64 3, .int .i64 4, .int .i64 5, .int .i64 6, .int .i64 7] : List Value)[t]? = some (.int .i64 t) := by
  obtain ⟨h1, h2⟩ := h
  have : t = 1 ∨ t = 2 ∨ t = 3 ∨ t = 4 ∨ t = 5 ∨ t = 6 ∨ t = 7 := by omega
  rcases this with rfl | rfl | rfl | rfl | rfl | rfl | rfl <;> rfl
/-- The row of who was born, and the births, when the next slot is number j. -/
def arrJ (j : Nat) : List Value := (List.range 8).map fun t => .int .i64 (if t < j then (t : Int) else 0)
def lJ (j : Nat) : List Int := (List.range (j - 1)).map fun (t : Nat) => (t : Int) + 1

set_option maxHeartbeats 25600000 in
theorem walk (xs : List ActI) (A : Option Addr) (cap : Nat) (hok : ∀ r ∈ xs, OkActI r) (hlen : xs.length ≤ 9223372036854775807) (w : World) (hr : RowX encActI 11 w A xs) :
    Calls Try.prog 6 #[.slice A xs.length cap] w fun e w' => e = .returned (.bool true) ∧ Below w.heap.size w w' := by
  have hE := Env.start w
  have HZ := Lib.hid hok
  have HR := Lib.hid hr
  have HM : Hid (∀ k : Nat, k ≤ 1000 → k < maxLen) := Lib.hid fun k hk => by unfold maxLen; omega
  clear hok hr
  go_enter Try.func6, Try.ntmps6
  go_wp2_with fail
  refine (awake9 _).mono ?_
  rintro e w1 ⟨rfl, hb⟩
  replace hE := hE.over hb
  clear hb
  go_wp2_with fail
  refine (new_i hE).mono ?_
  rintro e w2 ⟨g, c, so, rfl, hE, hb⟩
  clear hb
  go_wp2_with fail
  refine (new_w hE).mono ?_
  rintro e w3 ⟨p2, c2, rfl, hE, hb⟩
  clear hb
  replace hE := hE.box w3.heap.size rfl [.int .i64 0, .int .i64 0, .int .i64 0, .int .i64 0, .int .i64 0, .int .i64 0, .int .i64 0, .int .i64 0] 66
  go_upto_region 6 with fail
  generalize w3.alloc _ = w4 at *
  generalize w3.heap.size = B at *
  go_wp2_with fail
  go_loopw [6] (fun i wr => ∃ (j : Nat) (S : Nat → Prop), 1 ≤ j ∧ j ≤ 8 ∧ i = .int .i64 j ∧ Env w [boxI B (arrJ j), wbox p2 c2, cellI c2 (fun k => k = c2) (fun _ => 0) ⟨0, 0, 0, 0, 0⟩ 0, boxI g (iv c none so), leadsI none (fun _ => 0) 0, soulI so S (lJ j), cellI c (fun k => k = c) (fun _ => 0) ⟨0, 0, 0, 0, 0⟩ 0] wr) (fun i _ => 8 - (intOf i).toNat)
  case atStart => exact ⟨1, _, by omega, by omega, rfl, hE⟩
  case round =>
    obtain ⟨j, S, hj1, hj2, rfl, hEr⟩ := hrel
    clear hE
    by_cases hj8 : j = 8
    · subst hj8
      have hE : Env w [boxI B [.int .i64 0, .int .i64 1, .int .i64 2, .int .i64 3, .int .i64 4, .int .i64 5, .int .i64 6, .int .i64 7], wbox p2 c2, cellI c2 (fun k => k = c2) (fun _ => 0) ⟨0, 0, 0, 0, 0⟩ 0, boxI g (iv c none so), leadsI none (fun _ => 0) 0, soulI so S [1, 2, 3, 4, 5, 6, 7], cellI c (fun k => k = c) (fun _ => 0) ⟨0, 0, 0, 0, 0⟩ 0] _ := hEr
      clear hEr hj1 hj2
      go_wp2_with fail
      go_loopw [7] (fun i wr => ∃ (k n m : Nat) (mp : Option Nat) (S F F2 : Nat → Prop) (h f : Plc → Int) (q : Cnt), k ≤ xs.length ∧ k ≤ 150 ∧ n ≤ k ∧ m ≤ k ∧ i = .int .i64 k ∧ Env w [boxI B [.int .i64 0, .int .i64 1, .int .i64 2, .int .i64 3, .int .i64 4, .int .i64 5, .int .i64 6, .int .i64 7], wbox p2 c2, cellI c2 F2 f q n, boxI g (iv c mp so), leadsI mp h m, soulI so S [1, 2, 3, 4, 5, 6, 7], cellI c F f q n] wr) (fun i _ => xs.length - (intOf i).toNat)
      case atStart => exact ⟨0, 0, 0, _, _, _, _, _, _, _, by omega, by omega, by omega, by omega, rfl, hE⟩
      case round =>
        clear hE
        obtain ⟨k, n, m, mp, S, F, F2, h, f, q, hk, hk1, hn, hm, rfl, hEr⟩ := hrel
        have hnm : n < maxLen := HM.out _ (by omega)
        have hmm : m < maxLen := HM.out _ (by omega)
        by_cases hlt : k < xs.length ∧ k < 150
        · obtain ⟨hlt, hlt1⟩ := hlt
          have hb1 : decide ((k : Int) < xs.length) = true := by simp; omega
          have hb2 : decide ((k : Int) < 150) = true := by simp; omega
          rcases HR.out with hz0 | ⟨blk, off, rfl, hbw, hc⟩
          · rw [hz0] at hlt; simp at hlt
          have hok : OkActI (xs.getD k default) := HZ.out _ (by simp [hlt])
          have hat := (hc k hlt).below hEr.below hbw
          clear hc
          generalize xs.getD k default = r at *
          obtain ⟨kd, x, y, z, d, ow, oi, os, vw, vi, vs⟩ := r
          obtain ⟨_, wx, wy, wz, wd, how, _, hvw, hvi⟩ := hok
          simp only at wx wy wz wd how hvw hvi
          have HVW := Lib.hid hvw
          have HVI : Hid (In64 vi) := Lib.hid hvi
          obtain ⟨c0, c1', c2', c3, c4, c5, c6, c7, c8, c9, c10⟩ := at_ActI hat
          clear hat how hvw hvi
          have hE := hEr.box wr.heap.size rfl [.int .i64 kd, .int .i64 x, .int .i64 y, .int .i64 z, .int .i64 d, .int .u64 ow, .int .i64 oi, .bool os, .int .u64 vw, .int .i64 vi, .bool vs] 43
          go_upto_region 14 with fail
          clear c0 c1' c2' c3 c4 c5 c6 c7 c8 c9 c10 hEr
          generalize wr.alloc _ = w8 at *
          generalize wr.heap.size = X at *
          have r0 := hE.rule 0 rfl
          by_cases h5 : x = 5
          case' pos =>
            have hxb : (x == 5) = true := by simpa using h5
            have H5 := Lib.hid h5
            clear h5
            obtain ⟨y2, hy2, y0, y1⟩ := cut_u1 y 7 (by decide) (by decide)
            obtain ⟨t, rfl⟩ : ∃ t : Nat, y2 = t := ⟨y2.toNat, by omega⟩
            have z0 := hE.thaw 0 rfl 2 (by simp)
            go_upto_region 16 with fail
            rw [hy2]
            replace hE := hE.put 0 rfl (j := 2) (by simp) (.int .i64 t)
            simp only [List.set_cons_succ, List.set_cons_zero] at hE
            clear r0 z0 hxb
            generalize World.setCell _ _ _ = w9 at *
            have r0 := hE.rule 0 rfl
            have rt : w9.cell? ⟨B, t, none⟩ = some (.int .i64 t) := by rw [hE.rule 1 rfl]; exact arr7 t ⟨by omega, by omega⟩
            have z4 := hE.thaw 0 rfl 4 (by simp)
            have ht1 : t < 8 := by omega
            have ht2 : (t : Int) < 8 := by omega
            have ht3 : (0 : Int) ≤ t := by omega
            go_upto_region 17 with fail
            replace hE := hE.put 0 rfl (j := 4) (by simp) (.int .i64 t)
            simp only [List.set_cons_succ, List.set_cons_zero] at hE
            generalize World.setCell _ _ _ = w10 at *
            obtain ⟨y2, d2, ey, ed, hwf, hd2, ho, hnn⟩ : ∃ y2 d2 : Int, y2 = t ∧ d2 = t ∧ Wf (x, y2, z) ∧ In64 d2 ∧ ownP x y2 z d2 = (x, y2, z) ∧ ownP x y2 z (nowL [1, 2, 3, 4, 5, 6, 7] y2) = (x, y2, z) :=
              ⟨t, t, rfl, rfl, ⟨wx, show In64 t by unfold In64; omega, wz⟩, by unfold In64; omega, own_same fun _ => rfl, own_same fun _ => now7 _ ⟨by omega, by omega⟩⟩
            replace hE : Env w [boxI X [.int .i64 kd, .int .i64 x, .int .i64 y2, .int .i64 z, .int .i64 d2, .int .u64 ow, .int .i64 oi, .bool os, .int .u64 vw, .int .i64 vi, .bool vs], boxI B [.int .i64 0, .int .i64 1, .int .i64 2, .int .i64 3, .int .i64 4, .int .i64 5, .int .i64 6, .int .i64 7], wbox p2 c2, cellI c2 F2 f q n, boxI g (iv c mp so), leadsI mp h m, soulI so S [1, 2, 3, 4, 5, 6, 7], cellI c F f q n] w10 := by rw [ey, ed]; exact hE
            clear r0 rt z4 ht1 ht2 ht3 ey ed hy2 y0 y1 wx wy wz wd H5
          case' neg =>
            have hxb : (x == 5) = false := by simpa using h5
            go_upto_region 17 with fail
            obtain ⟨y2, d2, ey, ed, hwf, hd2, ho, hnn⟩ : ∃ y2 d2 : Int, y2 = y ∧ d2 = d ∧ Wf (x, y2, z) ∧ In64 d2 ∧ ownP x y2 z d2 = (x, y2, z) ∧ ownP x y2 z (nowL [1, 2, 3, 4, 5, 6, 7] y2) = (x, y2, z) :=
              ⟨y, d, rfl, rfl, ⟨wx, wy, wz⟩, wd, own_same fun h => absurd h h5, own_same fun h => absurd h h5⟩
            replace hE : Env w [boxI X [.int .i64 kd, .int .i64 x, .int .i64 y2, .int .i64 z, .int .i64 d2, .int .u64 ow, .int .i64 oi, .bool os, .int .u64 vw, .int .i64 vi, .bool vs], boxI B [.int .i64 0, .int .i64 1, .int .i64 2, .int .i64 3, .int .i64 4, .int .i64 5, .int .i64 6, .int .i64 7], wbox p2 c2, cellI c2 F2 f q n, boxI g (iv c mp so), leadsI mp h m, soulI so S [1, 2, 3, 4, 5, 6, 7], cellI c F f q n] w8 := by rw [ey, ed]; exact hE
            clear r0 hxb h5 ey ed wx wy wz wd
            generalize w8 = w10 at *
          all_goals
            have HX := Lib.hid hwf
            have HD := Lib.hid hd2
            have EO := Lib.hid ho
            have EN := Lib.hid hnn
            clear hwf hd2 ho hnn
            by_cases h1 : kd = 1
            · subst h1
              have r0 := hE.rule 0 rfl
              go_wp2_with fail
              refine Ord.wp_chain [3, 8] (fun w' => Blk 0 w' X [.int .i64 1, .int .i64 x, .int .i64 y2, .int .i64 z, .int .i64 d2, .int .u64 ow, .int .i64 oi, .bool os, .int .u64 vw, .int .i64 vi, .bool vs]) (Stage [Env w [boxI X [.int .i64 1, .int .i64 x, .int .i64 y2, .int .i64 z, .int .i64 d2, .int .u64 ow, .int .i64 oi, .bool os, .int .u64 vw, .int .i64 vi, .bool vs], boxI B [.int .i64 0, .int .i64 1, .int .i64 2, .int .i64 3, .int .i64 4, .int .i64 5, .int .i64 6, .int .i64 7], wbox p2 c2, cellI c2 F2 f q n, boxI g (iv c mp so), leadsI mp h m, soulI so S [1, 2, 3, 4, 5, 6, 7], cellI c F f q n], fun w' => ∃ (mp1 : Option Nat) (h1 : Plc → Int) (m1 : Nat), m1 ≤ k + 1 ∧ ∃ (G1 : Nat → Prop), Env w [boxI X [.int .i64 1, .int .i64 x, .int .i64 y2, .int .i64 z, .int .i64 d2, .int .u64 ow, .int .i64 oi, .bool os, .int .u64 vw, .int .i64 vi, .bool vs], boxI B [.int .i64 0, .int .i64 1, .int .i64 2, .int .i64 3, .int .i64 4, .int .i64 5, .int .i64 6, .int .i64 7], wbox p2 c2, cellI c2 F2 f q n, boxI g (iv c mp1 so), leadsI mp1 h1 m1, soulI so S [1, 2, 3, 4, 5, 6, 7], cellI c G1 f { q with l := wrap64 (q.l + 1) } n] w', fun w' => ∃ (mp1 : Option Nat) (h1 : Plc → Int) (m1 : Nat), m1 ≤ k + 1 ∧ ∃ (G1 G2 : Nat → Prop), Env w [boxI X [.int .i64 1, .int .i64 x, .int .i64 y2, .int .i64 z, .int .i64 d2, .int .u64 ow, .int .i64 oi, .bool os, .int .u64 vw, .int .i64 vi, .bool vs], boxI B [.int .i64 0, .int .i64 1, .int .i64 2, .int .i64 3, .int .i64 4, .int .i64 5, .int .i64 6, .int .i64 7], wbox p2 c2, cellI c2 G2 f { q with l := wrap64 (q.l + 1) } n, boxI g (iv c mp1 so), leadsI mp1 h1 m1, soulI so S [1, 2, 3, 4, 5, 6, 7], cellI c G1 f { q with l := wrap64 (q.l + 1) } n] w']) (by kernel_rfl) (by kernel_rfl) (by kernel_rfl) (hE.drew.get 0 rfl) ⟨_, rfl, hE.drew⟩ (fun hT => ?_)
              have hT9 := Lib.hid hT
              clear hT
              repeat (first
                | (refine Ord.ch_value (v := ?_) hT9.out (by decide) (by rfl) ?_ ?_; rotate_left; (focus (intro w5 hS; have r0 := hS.rule; have hf := valWordI; go_simp <;> with_reducible rfl)); (try simp only [Act.put, List.setIfInBounds_toArray, List.set_cons_zero, List.set_cons_succ]))
                | (refine Ord.ch_off hT9.out (by decide) (by rfl) ?_; (try simp only [Act.put, List.setIfInBounds_toArray, List.set_cons_zero, List.set_cons_succ])))
              refine Ord.ch_turn (v := .agg #[.int .u64 (f (x, y2, z)), .int .i64 (h (x, y2, z)), .bool false]) 0 hT9.out rfl (by decide) (Or.inl rfl) (by rfl) ?_ ?_
              · rintro w5 hC5 ⟨P5, hP5, hA5⟩
                cases hP5
                skip
                go_simp
                simp only [Ord.LandsIn]
                refine (load_o x y2 z d2 HX.out HD.out 4 hA5 rfl rfl rfl _ EO.out).mono ?_
                rintro e6 w6 ⟨rfl, hE6⟩; simp only [List.set_cons_succ, List.set_cons_zero] at hE6; exact ⟨rfl, hE6.get 0 rfl, _, rfl, _, _, _, (by omega), _, hE6⟩
              (try simp only [Act.put, List.setIfInBounds_toArray, List.set_cons_zero, List.set_cons_succ])
              repeat (first
                | (refine Ord.ch_value (v := ?_) hT9.out (by decide) (by rfl) ?_ ?_; rotate_left; (focus (intro w5 hS; have r0 := hS.rule; have hf := valWordI; go_simp <;> with_reducible rfl)); (try simp only [Act.put, List.setIfInBounds_toArray, List.set_cons_zero, List.set_cons_succ]))
                | (refine Ord.ch_off hT9.out (by decide) (by rfl) ?_; (try simp only [Act.put, List.setIfInBounds_toArray, List.set_cons_zero, List.set_cons_succ])))
              refine Ord.ch_turn (v := .agg #[.int .u64 (f (x, y2, z)), .int .i64 0, .bool false]) 1 hT9.out rfl (by decide) (Or.inr ⟨_, rfl, by kernel_rfl⟩) (by rfl) ?_ ?_
              · rintro w5 hC5 ⟨P5, hP5, hA5⟩
                cases hP5
                obtain ⟨mp1, h1, m1, hm1, G1, hA5⟩ := hA5
                go_simp
                simp only [Ord.LandsIn]
                refine (load_w x y2 z d2 HX.out 2 3 (by decide) hA5 rfl rfl).mono ?_
                rintro e6 w6 ⟨rfl, hE6⟩; simp only [List.set_cons_succ, List.set_cons_zero] at hE6; exact ⟨rfl, hE6.get 0 rfl, _, rfl, mp1, h1, m1, hm1, _, _, hE6⟩
              (try simp only [Act.put, List.setIfInBounds_toArray, List.set_cons_zero, List.set_cons_succ])
              repeat (first
                | (refine Ord.ch_value (v := ?_) hT9.out (by decide) (by rfl) ?_ ?_; rotate_left; (focus (intro w5 hS; have r0 := hS.rule; have hf := valWordI; go_simp <;> with_reducible rfl)); (try simp only [Act.put, List.setIfInBounds_toArray, List.set_cons_zero, List.set_cons_succ]))
                | (refine Ord.ch_off hT9.out (by decide) (by rfl) ?_; (try simp only [Act.put, List.setIfInBounds_toArray, List.set_cons_zero, List.set_cons_succ])))
              refine Ord.InText.nil fun w5 hS => ?_
              clear hT9
              obtain ⟨hC9, hA9⟩ := Ord.chain_end hS
              clear hS
              clear hC9
              obtain ⟨P9, hP9, hA9⟩ := hA9
              cases hP9
              obtain ⟨mp1, h1, m1, hm1, G1, G2, hA9⟩ := hA9
              go_wp2_with fail
              exact ⟨⟨k + 1, _, m1, _, _, _, _, _, _, _, by omega, by omega, by omega, by omega, by simp, hA9.sub (.cons _ (List.Sublist.refl _))⟩, by simp [intOf]; omega⟩
            by_cases h3 : kd = 3
            · subst h3
              have r0 := hE.rule 0 rfl
              go_wp2_with fail
              refine Ord.wp_chain [7, 15] (fun w' => Blk 0 w' X [.int .i64 3, .int .i64 x, .int .i64 y2, .int .i64 z, .int .i64 d2, .int .u64 ow, .int .i64 oi, .bool os, .int .u64 vw, .int .i64 vi, .bool vs]) (Stage [Env w [boxI X [.int .i64 3, .int .i64 x, .int .i64 y2, .int .i64 z, .int .i64 d2, .int .u64 ow, .int .i64 oi, .bool os, .int .u64 vw, .int .i64 vi, .bool vs], boxI B [.int .i64 0, .int .i64 1, .int .i64 2, .int .i64 3, .int .i64 4, .int .i64 5, .int .i64 6, .int .i64 7], wbox p2 c2, cellI c2 F2 f q n, boxI g (iv c mp so), leadsI mp h m, soulI so S [1, 2, 3, 4, 5, 6, 7], cellI c F f q n], fun w' => ∃ (mp1 : Option Nat) (h1 : Plc → Int) (m1 : Nat), m1 ≤ k + 1 ∧ ∃ (G1 : Nat → Prop), Env w [boxI X [.int .i64 3, .int .i64 x, .int .i64 y2, .int .i64 z, .int .i64 d2, .int .u64 ow, .int .i64 oi, .bool os, .int .u64 vw, .int .i64 vi, .bool vs], boxI B [.int .i64 0, .int .i64 1, .int .i64 2, .int .i64 3, .int .i64 4, .int .i64 5, .int .i64 6, .int .i64 7], wbox p2 c2, cellI c2 F2 f q n, boxI g (iv c mp1 so), leadsI mp1 h1 m1, soulI so S [1, 2, 3, 4, 5, 6, 7], cellI c G1 (swf f (x, y2, z) ow vw) (swq q (decide (f (x, y2, z) = ow))) (n + 1)] w', fun w' => ∃ (mp1 : Option Nat) (h1 : Plc → Int) (m1 : Nat), m1 ≤ k + 1 ∧ ∃ (G1 G2 : Nat → Prop), Env w [boxI X [.int .i64 3, .int .i64 x, .int .i64 y2, .int .i64 z, .int .i64 d2, .int .u64 ow, .int .i64 oi, .bool os, .int .u64 vw, .int .i64 vi, .bool vs], boxI B [.int .i64 0, .int .i64 1, .int .i64 2, .int .i64 3, .int .i64 4, .int .i64 5, .int .i64 6, .int .i64 7], wbox p2 c2, cellI c2 G2 (swf f (x, y2, z) ow vw) (swq q (decide (f (x, y2, z) = ow))) (n + 1), boxI g (iv c mp1 so), leadsI mp1 h1 m1, soulI so S [1, 2, 3, 4, 5, 6, 7], cellI c G1 (swf f (x, y2, z) ow vw) (swq q (decide (f (x, y2, z) = ow))) (n + 1)] w']) (by kernel_rfl) (by kernel_rfl) (by kernel_rfl) (hE.drew.get 0 rfl) ⟨_, rfl, hE.drew⟩ (fun hT => ?_)
              have hT9 := Lib.hid hT
              clear hT
              repeat (first
                | (refine Ord.ch_value (v := ?_) hT9.out (by decide) (by rfl) ?_ ?_; rotate_left; (focus (intro w5 hS; have r0 := hS.rule; have hf := valWordI; go_simp <;> with_reducible rfl)); (try simp only [Act.put, List.setIfInBounds_toArray, List.set_cons_zero, List.set_cons_succ]))
                | (refine Ord.ch_off hT9.out (by decide) (by rfl) ?_; (try simp only [Act.put, List.setIfInBounds_toArray, List.set_cons_zero, List.set_cons_succ])))
              refine Ord.ch_turn (v := .bool (decide (f (x, y2, z) = ow))) 0 hT9.out rfl (by decide) (Or.inl rfl) (by rfl) ?_ ?_
              · rintro w5 hC5 ⟨P5, hP5, hA5⟩
                cases hP5
                skip
                go_simp
                simp only [Ord.LandsIn]
                refine (swap_o x y2 z d2 ow oi vw vi os vs HX.out HD.out HVW.out HVI.out hnm hmm 4 hA5 rfl rfl rfl _ EO.out).mono ?_
                rintro e6 w6 ⟨rfl, mp6, F6, hE6⟩; simp only [List.set_cons_succ, List.set_cons_zero] at hE6; exact ⟨rfl, hE6.get 0 rfl, _, rfl, _, _, _, (by omega), _, hE6⟩
              (try simp only [Act.put, List.setIfInBounds_toArray, List.set_cons_zero, List.set_cons_succ])
              repeat (first
                | (refine Ord.ch_value (v := ?_) hT9.out (by decide) (by rfl) ?_ ?_; rotate_left; (focus (intro w5 hS; have r0 := hS.rule; have hf := valWordI; go_simp <;> with_reducible rfl)); (try simp only [Act.put, List.setIfInBounds_toArray, List.set_cons_zero, List.set_cons_succ]))
                | (refine Ord.ch_off hT9.out (by decide) (by rfl) ?_; (try simp only [Act.put, List.setIfInBounds_toArray, List.set_cons_zero, List.set_cons_succ])))
              refine Ord.ch_turn (v := .bool (decide (f (x, y2, z) = ow))) 1 hT9.out rfl (by decide) (Or.inr ⟨_, rfl, by kernel_rfl⟩) (by rfl) ?_ ?_
              · rintro w5 hC5 ⟨P5, hP5, hA5⟩
                cases hP5
                obtain ⟨mp1, h1, m1, hm1, G1, hA5⟩ := hA5
                go_simp
                simp only [Ord.LandsIn]
                refine (swap_w x y2 z d2 ow oi vw vi os vs HX.out HVW.out hnm 2 3 (by decide) hA5 rfl rfl).mono ?_
                rintro e6 w6 ⟨rfl, F6, hE6⟩; simp only [List.set_cons_succ, List.set_cons_zero] at hE6; exact ⟨rfl, hE6.get 0 rfl, _, rfl, mp1, h1, m1, hm1, _, _, hE6⟩
              (try simp only [Act.put, List.setIfInBounds_toArray, List.set_cons_zero, List.set_cons_succ])
              repeat (first
                | (refine Ord.ch_value (v := ?_) hT9.out (by decide) (by rfl) ?_ ?_; rotate_left; (focus (intro w5 hS; have r0 := hS.rule; have hf := valWordI; go_simp <;> with_reducible rfl)); (try simp only [Act.put, List.setIfInBounds_toArray, List.set_cons_zero, List.set_cons_succ]))
                | (refine Ord.ch_off hT9.out (by decide) (by rfl) ?_; (try simp only [Act.put, List.setIfInBounds_toArray, List.set_cons_zero, List.set_cons_succ])))
              refine Ord.InText.nil fun w5 hS => ?_
              clear hT9
              obtain ⟨hC9, hA9⟩ := Ord.chain_end hS
              clear hS
              clear hC9
              obtain ⟨P9, hP9, hA9⟩ := hA9
              cases hP9
              obtain ⟨mp1, h1, m1, hm1, G1, G2, hA9⟩ := hA9
              go_wp2_with fail
              exact ⟨⟨k + 1, _, m1, _, _, _, _, _, _, _, by omega, by omega, by omega, by omega, by simp, hA9.sub (.cons _ (List.Sublist.refl _))⟩, by simp [intOf]; omega⟩
            by_cases h5 : kd = 5
            · subst h5
              have r0 := hE.rule 0 rfl
              go_wp2_with fail
              refine Ord.wp_chain [6, 13] (fun w' => Blk 0 w' X [.int .i64 5, .int .i64 x, .int .i64 y2, .int .i64 z, .int .i64 d2, .int .u64 ow, .int .i64 oi, .bool os, .int .u64 vw, .int .i64 vi, .bool vs]) (Stage [Env w [boxI X [.int .i64 5, .int .i64 x, .int .i64 y2, .int .i64 z, .int .i64 d2, .int .u64 ow, .int .i64 oi, .bool os, .int .u64 vw, .int .i64 vi, .bool vs], boxI B [.int .i64 0, .int .i64 1, .int .i64 2, .int .i64 3, .int .i64 4, .int .i64 5, .int .i64 6, .int .i64 7], wbox p2 c2, cellI c2 F2 f q n, boxI g (iv c mp so), leadsI mp h m, soulI so S [1, 2, 3, 4, 5, 6, 7], cellI c F f q n], fun w' => ∃ (mp1 : Option Nat) (h1 : Plc → Int) (m1 : Nat), m1 ≤ k + 1 ∧ ∃ (G1 : Nat → Prop), Env w [boxI X [.int .i64 5, .int .i64 x, .int .i64 y2, .int .i64 z, .int .i64 d2, .int .u64 ow, .int .i64 oi, .bool os, .int .u64 vw, .int .i64 vi, .bool vs], boxI B [.int .i64 0, .int .i64 1, .int .i64 2, .int .i64 3, .int .i64 4, .int .i64 5, .int .i64 6, .int .i64 7], wbox p2 c2, cellI c2 F2 f q n, boxI g (iv c mp1 so), leadsI mp1 h1 m1, soulI so S [1, 2, 3, 4, 5, 6, 7], cellI c G1 (upd f (x, y2, z) (IntKind.u64.wrap (f (x, y2, z) + vw))) { q with a := wrap64 (q.a + 1) } (n + 1)] w', fun w' => ∃ (mp1 : Option Nat) (h1 : Plc → Int) (m1 : Nat), m1 ≤ k + 1 ∧ ∃ (G1 G2 : Nat → Prop), Env w [boxI X [.int .i64 5, .int .i64 x, .int .i64 y2, .int .i64 z, .int .i64 d2, .int .u64 ow, .int .i64 oi, .bool os, .int .u64 vw, .int .i64 vi, .bool vs], boxI B [.int .i64 0, .int .i64 1, .int .i64 2, .int .i64 3, .int .i64 4, .int .i64 5, .int .i64 6, .int .i64 7], wbox p2 c2, cellI c2 G2 (upd f (x, y2, z) (IntKind.u64.wrap (f (x, y2, z) + vw))) { q with a := wrap64 (q.a + 1) } (n + 1), boxI g (iv c mp1 so), leadsI mp1 h1 m1, soulI so S [1, 2, 3, 4, 5, 6, 7], cellI c G1 (upd f (x, y2, z) (IntKind.u64.wrap (f (x, y2, z) + vw))) { q with a := wrap64 (q.a + 1) } (n + 1)] w']) (by kernel_rfl) (by kernel_rfl) (by kernel_rfl) (hE.drew.get 0 rfl) ⟨_, rfl, hE.drew⟩ (fun hT => ?_)
              have hT9 := Lib.hid hT
              clear hT
              repeat (first
                | (refine Ord.ch_value (v := ?_) hT9.out (by decide) (by rfl) ?_ ?_; rotate_left; (focus (intro w5 hS; have r0 := hS.rule; have hf := valWordI; go_simp <;> with_reducible rfl)); (try simp only [Act.put, List.setIfInBounds_toArray, List.set_cons_zero, List.set_cons_succ]))
                | (refine Ord.ch_off hT9.out (by decide) (by rfl) ?_; (try simp only [Act.put, List.setIfInBounds_toArray, List.set_cons_zero, List.set_cons_succ])))
              refine Ord.ch_turn (v := .int .u64 (f (x, y2, z))) 0 hT9.out rfl (by decide) (Or.inl rfl) (by rfl) ?_ ?_
              · rintro w5 hC5 ⟨P5, hP5, hA5⟩
                cases hP5
                skip
                go_simp
                simp only [Ord.LandsIn]
                refine (add_o x y2 z d2 vw HX.out HD.out hnm 4 hA5 rfl rfl _ EO.out).mono ?_
                rintro e6 w6 ⟨rfl, F6, hE6⟩; simp only [List.set_cons_succ, List.set_cons_zero] at hE6; exact ⟨rfl, hE6.get 0 rfl, _, rfl, _, _, _, (by omega), _, hE6⟩
              (try simp only [Act.put, List.setIfInBounds_toArray, List.set_cons_zero, List.set_cons_succ])
              repeat (first
                | (refine Ord.ch_value (v := ?_) hT9.out (by decide) (by rfl) ?_ ?_; rotate_left; (focus (intro w5 hS; have r0 := hS.rule; have hf := valWordI; go_simp <;> with_reducible rfl)); (try simp only [Act.put, List.setIfInBounds_toArray, List.set_cons_zero, List.set_cons_succ]))
                | (refine Ord.ch_off hT9.out (by decide) (by rfl) ?_; (try simp only [Act.put, List.setIfInBounds_toArray, List.set_cons_zero, List.set_cons_succ])))
              refine Ord.ch_turn (v := .int .u64 (f (x, y2, z))) 1 hT9.out rfl (by decide) (Or.inr ⟨_, rfl, by kernel_rfl⟩) (by rfl) ?_ ?_
              · rintro w5 hC5 ⟨P5, hP5, hA5⟩
                cases hP5
                obtain ⟨mp1, h1, m1, hm1, G1, hA5⟩ := hA5
                go_simp
                simp only [Ord.LandsIn]
                refine (add_w x y2 z d2 vw HX.out hnm 2 3 (by decide) hA5 rfl rfl).mono ?_
                rintro e6 w6 ⟨rfl, F6, hE6⟩; simp only [List.set_cons_succ, List.set_cons_zero] at hE6; exact ⟨rfl, hE6.get 0 rfl, _, rfl, mp1, h1, m1, hm1, _, _, hE6⟩
              (try simp only [Act.put, List.setIfInBounds_toArray, List.set_cons_zero, List.set_cons_succ])
              repeat (first
                | (refine Ord.ch_value (v := ?_) hT9.out (by decide) (by rfl) ?_ ?_; rotate_left; (focus (intro w5 hS; have r0 := hS.rule; have hf := valWordI; go_simp <;> with_reducible rfl)); (try simp only [Act.put, List.setIfInBounds_toArray, List.set_cons_zero, List.set_cons_succ]))
                | (refine Ord.ch_off hT9.out (by decide) (by rfl) ?_; (try simp only [Act.put, List.setIfInBounds_toArray, List.set_cons_zero, List.set_cons_succ])))
              refine Ord.InText.nil fun w5 hS => ?_
              clear hT9
              obtain ⟨hC9, hA9⟩ := Ord.chain_end hS
              clear hS
              clear hC9
              obtain ⟨P9, hP9, hA9⟩ := hA9
              cases hP9
              obtain ⟨mp1, h1, m1, hm1, G1, G2, hA9⟩ := hA9
              go_wp2_with fail
              exact ⟨⟨k + 1, _, m1, _, _, _, _, _, _, _, by omega, by omega, by omega, by omega, by simp, hA9.sub (.cons _ (List.Sublist.refl _))⟩, by simp [intOf]; omega⟩
            by_cases h2 : kd = 2
            · subst h2
              have r0 := hE.rule 0 rfl
              go_wp2_with fail
              refine (store_o x y2 z d2 vw vi vs HX.out HD.out HVW.out HVI.out hnm hmm 4 hE rfl rfl rfl _ EO.out).mono ?_
              rintro e w10 ⟨rfl, mp10, F10, hE⟩
              simp only [List.set_cons_succ, List.set_cons_zero] at hE
              clear r0
              have r0 := hE.rule 0 rfl
              go_wp2_with fail
              refine (store_w x y2 z d2 vw vi vs HX.out HVW.out hnm 2 3 (by decide) hE rfl rfl).mono ?_
              rintro e w11 ⟨rfl, G11, hE⟩
              simp only [List.set_cons_succ, List.set_cons_zero] at hE
              clear r0
              go_wp2_with fail
              exact ⟨⟨k + 1, _, _, _, _, _, _, _, _, _, by omega, by omega, by omega, by omega, by simp, hE.sub (.cons _ (List.Sublist.refl _))⟩, by simp [intOf]; omega⟩
            by_cases h7 : kd = 7
            · subst h7
              have r0 := hE.rule 0 rfl
              go_wp2_with fail
              refine Ord.wp_chain [] (fun w' => Env w [boxI X [.int .i64 7, .int .i64 x, .int .i64 y2, .int .i64 z, .int .i64 d2, .int .u64 ow, .int .i64 oi, .bool os, .int .u64 vw, .int .i64 vi, .bool vs], boxI B [.int .i64 0, .int .i64 1, .int .i64 2, .int .i64 3, .int .i64 4, .int .i64 5, .int .i64 6, .int .i64 7], wbox p2 c2, cellI c2 F2 f q n, boxI g (iv c mp so), leadsI mp h m, soulI so S [1, 2, 3, 4, 5, 6, 7], cellI c F f q n] w') (fun _ _ => True) (by kernel_rfl) (by kernel_rfl) (by kernel_rfl) hE.drew trivial (fun hT => ?_)
              have hT9 := Lib.hid hT
              clear hT
              repeat (first
                | (refine Ord.ch_value (v := ?_) hT9.out (by decide) (by rfl) ?_ ?_; rotate_left; (focus (intro w5 hS; have r0 := hS.rule 0 rfl; go_simp <;> with_reducible rfl)); (try simp only [Act.put, List.setIfInBounds_toArray, List.set_cons_zero, List.set_cons_succ]))
                | (refine Ord.ch_off hT9.out (by decide) (by rfl) ?_; (try simp only [Act.put, List.setIfInBounds_toArray, List.set_cons_zero, List.set_cons_succ]))
                | (refine Ord.ch_call (v := ?_) (f := ?_) (args := ?_) hT9.out (by decide) (by rfl) ?_ ?_ ?_; rotate_left 3; (focus (intro w5 hS; have r0 := hS.rule 0 rfl; go_simp; constructor <;> with_reducible rfl)); (focus (intro w5 hS; (first | (with_reducible refine (peek_o x y2 z HX.out (by simp) 4 hS rfl rfl rfl _ EN.out).mono ?_; rintro e w6 ⟨rfl, hb6⟩; constructor; with_reducible rfl; exact ⟨hS.over hb6, fun _ h => h⟩) | (with_reducible refine (peek_w x y2 z HX.out 2 3 hS rfl rfl).mono ?_; rintro e w6 ⟨rfl, hb6⟩; constructor; with_reducible rfl; exact ⟨hS.over hb6, fun _ h => h⟩)))); (try simp only [Act.put, List.setIfInBounds_toArray, List.set_cons_zero, List.set_cons_succ])))
              refine Ord.InText.nil fun w5 hS => ?_
              clear hT9
              obtain ⟨hC9, hA9⟩ := Ord.chain_end hS
              clear hS
              clear hA9
              go_wp2_with fail
              exact ⟨⟨k + 1, _, _, _, _, _, _, _, _, _, by omega, by omega, by omega, by omega, by simp, hC9.sub (.cons _ (List.Sublist.refl _))⟩, by simp [intOf]; omega⟩
            have r0 := hE.rule 0 rfl
            go_wp2_with fail
            exact ⟨⟨k + 1, _, _, _, _, _, _, _, _, _, by omega, by omega, by omega, by omega, by simp, hE.sub (.cons _ (List.Sublist.refl _))⟩, by simp [intOf]; omega⟩
        · by_cases hl1 : k < xs.length
          · have hl2 : ¬ k < 150 := fun h => hlt ⟨hl1, h⟩
            have hb1 : decide ((k : Int) < xs.length) = true := by simp; omega
            have hb2 : decide ((k : Int) < 150) = false := by simp; omega
            go_wp2_with fail
            refine (count_i 3 hEr rfl rfl).mono ?_
            rintro e w10 ⟨rfl, hb⟩
            have hE := hEr.over hb
            clear hb hEr
            go_wp2_with fail
            refine (count_w 1 2 hE rfl rfl).mono ?_
            rintro e w11 ⟨rfl, hb⟩
            replace hE := hE.over hb
            go_wp2_with fail
            go_ret
            exact ⟨by simp, hE.below⟩
          · have hb1 : decide ((k : Int) < xs.length) = false := by simp; omega
            go_wp2_with fail
            refine (count_i 3 hEr rfl rfl).mono ?_
            rintro e w10 ⟨rfl, hb⟩
            have hE := hEr.over hb
            clear hb hEr
            go_wp2_with fail
            refine (count_w 1 2 hE rfl rfl).mono ?_
            rintro e w11 ⟨rfl, hb⟩
            replace hE := hE.over hb
            go_wp2_with fail
            go_ret
            exact ⟨by simp, hE.below⟩
    · have hj7 : j = 1 ∨ j = 2 ∨ j = 3 ∨ j = 4 ∨ j = 5 ∨ j = 6 ∨ j = 7 := by omega
      clear hj1 hj2 hj8
      rcases hj7 with rfl | rfl | rfl | rfl | rfl | rfl | rfl
      · skip
        have r0 := hEr.rule 0 rfl
        have z0 := hEr.thaw 0 rfl 1 (by decide)
        go_wp2_with fail
        refine (born_i 1 (by unfold In64; omega) (by decide) 3 hEr rfl rfl).mono ?_
        rintro e w6 ⟨rfl, S6, hE6⟩
        rw [show bornV (lJ 1) 1 = 1 by decide]
        rw [show bornL (lJ 1) 1 = lJ 2 by decide] at hE6
        simp only [List.set_cons_succ, List.set_cons_zero] at hE6
        clear r0 z0 hEr
        have r0 := hE6.rule 0 rfl
        have z0 := hE6.thaw 0 rfl 1 (by decide)
        have hE7 := hE6.put 0 rfl (j := 1) (by decide) (.int .i64 1)
        go_wp2_with fail
        exact ⟨⟨2, S6, by omega, by omega, by simp, hE7⟩, by simp [intOf]⟩
      · skip
        have r0 := hEr.rule 0 rfl
        have z0 := hEr.thaw 0 rfl 2 (by decide)
        go_wp2_with fail
        refine (born_i 2 (by unfold In64; omega) (by decide) 3 hEr rfl rfl).mono ?_
        rintro e w6 ⟨rfl, S6, hE6⟩
        rw [show bornV (lJ 2) 2 = 2 by decide]
        rw [show bornL (lJ 2) 2 = lJ 3 by decide] at hE6
        simp only [List.set_cons_succ, List.set_cons_zero] at hE6
        clear r0 z0 hEr
        have r0 := hE6.rule 0 rfl
        have z0 := hE6.thaw 0 rfl 2 (by decide)
        have hE7 := hE6.put 0 rfl (j := 2) (by decide) (.int .i64 2)
        go_wp2_with fail
        exact ⟨⟨3, S6, by omega, by omega, by simp, hE7⟩, by simp [intOf]⟩
      · skip
        have r0 := hEr.rule 0 rfl
        have z0 := hEr.thaw 0 rfl 3 (by decide)
        go_wp2_with fail
        refine (born_i 3 (by unfold In64; omega) (by decide) 3 hEr rfl rfl).mono ?_
        rintro e w6 ⟨rfl, S6, hE6⟩
        rw [show bornV (lJ 3) 3 = 3 by decide]
        rw [show bornL (lJ 3) 3 = lJ 4 by decide] at hE6
        simp only [List.set_cons_succ, List.set_cons_zero] at hE6
        clear r0 z0 hEr
        have r0 := hE6.rule 0 rfl
        have z0 := hE6.thaw 0 rfl 3 (by decide)
        have hE7 := hE6.put 0 rfl (j := 3) (by decide) (.int .i64 3)
        go_wp2_with fail
        exact ⟨⟨4, S6, by omega, by omega, by simp, hE7⟩, by simp [intOf]⟩
      · skip
        have r0 := hEr.rule 0 rfl
        have z0 := hEr.thaw 0 rfl 4 (by decide)
        go_wp2_with fail
        refine (born_i 4 (by unfold In64; omega) (by decide) 3 hEr rfl rfl).mono ?_
        rintro e w6 ⟨rfl, S6, hE6⟩
        rw [show bornV (lJ 4) 4 = 4 by decide]
        rw [show bornL (lJ 4) 4 = lJ 5 by decide] at hE6
        simp only [List.set_cons_succ, List.set_cons_zero] at hE6
        clear r0 z0 hEr
        have r0 := hE6.rule 0 rfl
        have z0 := hE6.thaw 0 rfl 4 (by decide)
        have hE7 := hE6.put 0 rfl (j := 4) (by decide) (.int .i64 4)
        go_wp2_with fail
        exact ⟨⟨5, S6, by omega, by omega, by simp, hE7⟩, by simp [intOf]⟩
      · skip
        have r0 := hEr.rule 0 rfl
        have z0 := hEr.thaw 0 rfl 5 (by decide)
        go_wp2_with fail
        refine (born_i 5 (by unfold In64; omega) (by decide) 3 hEr rfl rfl).mono ?_
        rintro e w6 ⟨rfl, S6, hE6⟩
        rw [show bornV (lJ 5) 5 = 5 by decide]
        rw [show bornL (lJ 5) 5 = lJ 6 by decide] at hE6
        simp only [List.set_cons_succ, List.set_cons_zero] at hE6
        clear r0 z0 hEr
        have r0 := hE6.rule 0 rfl
        have z0 := hE6.thaw 0 rfl 5 (by decide)
        have hE7 := hE6.put 0 rfl (j := 5) (by decide) (.int .i64 5)
        go_wp2_with fail
        exact ⟨⟨6, S6, by omega, by omega, by simp, hE7⟩, by simp [intOf]⟩
      · skip
        have r0 := hEr.rule 0 rfl
        have z0 := hEr.thaw 0 rfl 6 (by decide)
        go_wp2_with fail
        refine (born_i 6 (by unfold In64; omega) (by decide) 3 hEr rfl rfl).mono ?_
        rintro e w6 ⟨rfl, S6, hE6⟩
        rw [show bornV (lJ 6) 6 = 6 by decide]
        rw [show bornL (lJ 6) 6 = lJ 7 by decide] at hE6
        simp only [List.set_cons_succ, List.set_cons_zero] at hE6
        clear r0 z0 hEr
        have r0 := hE6.rule 0 rfl
        have z0 := hE6.thaw 0 rfl 6 (by decide)
        have hE7 := hE6.put 0 rfl (j := 6) (by decide) (.int .i64 6)
        go_wp2_with fail
        exact ⟨⟨7, S6, by omega, by omega, by simp, hE7⟩, by simp [intOf]⟩
      · skip
        have r0 := hEr.rule 0 rfl
        have z0 := hEr.thaw 0 rfl 7 (by decide)
        go_wp2_with fail
        refine (born_i 7 (by unfold In64; omega) (by decide) 3 hEr rfl rfl).mono ?_
        rintro e w6 ⟨rfl, S6, hE6⟩
        rw [show bornV (lJ 7) 7 = 7 by decide]
        rw [show bornL (lJ 7) 7 = lJ 8 by decide] at hE6
        simp only [List.set_cons_succ, List.set_cons_zero] at hE6
        clear r0 z0 hEr
        have r0 := hE6.rule 0 rfl
        have z0 := hE6.thaw 0 rfl 7 (by decide)
        have hE7 := hE6.put 0 rfl (j := 7) (by decide) (.int .i64 7)
        go_wp2_with fail
        exact ⟨⟨8, S6, by omega, by omega, by simp, hE7⟩, by simp [intOf]⟩

theorem own : ownKnob Try.prog.godebug = none := by kernel_rfl
theorem laidOut : laidOutB Try.prog = true := by kernel_rfl

set_option maxRecDepth 100000 in
theorem lifted (os : Os) (started : os.Started) (H : Type) (enc : TypeId × Value → H) :
    ReturnsInHanded {} Try.checked os 6 .any (Rows.idealPlainSpec.pre6 enc Try.prog Try.f6 Rows.idealPlainRow.domain false) (Rows.idealPlainSpec.post enc Try.prog Try.f6 false true false false) := by
  refine returnsInHanded_of_change (C := Try.checked) own started (by kernel_rfl) Try.func6
    (ChangeSpec.witness6 (enc := enc) (C := Try.checked) false ⟨#[], #[.slice none 0 0], []⟩ 8 (by kernel_rfl) (by kernel_rfl) (by kernel_rfl) (by kernel_rfl)) ?_
  intro W base args ds gs before hval0 hW hcnd _
  have hval : ∀ (j : Nat) t v, Try.f6.params[j]? = some t → args[j]? = some v → Value.okWide Try.prog W .any base t v := hval0
  have hW' := hW
  obtain ⟨p, q, hA0, hV, rfl, hfz, hnd⟩ := hW
  have hA : DataW.TrodAll enc Try.prog W 0 (fun _ => true) true Try.f6.params.toList args.toList ds p := hA0
  rw [Try.params6] at hA hval
  obtain ⟨v0, vs0, d0, ds0, p0, q0, hargs, rfl, rfl, g0, r0⟩ := trodAll_cons hA
  obtain ⟨rfl, rfl, rfl⟩ := trodAll_nil r0
  obtain rfl : args = #[v0] := by cases args; simp_all
  obtain ⟨rfl, rfl⟩ := trodVars_none hV
  obtain ⟨A0, n0, cap0, rfl⟩ := okWide_slice Try.underlying22 (hval 0 22 v0 rfl rfl)
  obtain ⟨zs0, rfl, h0, w0, row0⟩ := open_ActI g0 (fun x hx => hW'.lt x (by simp [hx]))
  unfold maxLen at h0
  clear hA0 hval0
  refine (walk zs0 A0 cap0 w0 h0 W row0).mono fun e W' ⟨he, hg⟩ => ?_
  subst he
  exact ⟨_, rfl, law_post laidOut (by kernel_rfl) (by kernel_rfl) Try.underlying4 rfl rfl hW' hg⟩

theorem over : Rows.idealPlainRow.holds Try.pinned (OpenSpec.ofChange Rows.idealPlainSpec) :=
  OpenClaim.holds_of_wide 6 Try.f6 rfl rfl rfl rfl rfl rfl rfl ⟨rfl, rfl, rfl, rfl, rfl⟩ rfl rfl rfl rfl rfl (by kernel_rfl) Try.func6 (by kernel_rfl)
    (of_decide_eq_true (by kernel_rfl)) (by unfold Func.isWrapper; first | (rw [if_pos (by decide +kernel)]; kernel_rfl) | (rw [if_neg (by decide +kernel)]; exact ⟨rfl, rfl⟩))
    (fun os started H enc _ => lifted os started H enc)

/-- THE STATEMENT. -/
theorem proved : Rows.IdealPlainSaid := over
#print axioms proved
end Go.Proofs.Ytnlepgbmbdmjbaa.idealPlain
