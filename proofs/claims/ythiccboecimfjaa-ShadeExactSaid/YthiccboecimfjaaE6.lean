/- What is proved on the way to the statement, part 6 of 7: contracts of the functions, among other things in memory. -/
import Derived.Test.YthiccboecimfjaaE5
import Derived.Test.YthiccboecimfjaaChecked
import Derived.WalkKit
import Derived.Lib.SmallJoins

/- An access of both, the shade and the reference: the answers are the same, and so is what they keep. -/
namespace Go.Proofs.Ythiccboecimfjaa
open Go.RowKit Go.Maps
set_option maxRecDepth 100000

/-- The faults and the stale loads behind an access. -/
def faX (kd : Int) (l : List Int) (lc : List OneR) (fa x y z d ow : Int) (os vs : Bool) : Int :=
  if kd = 2 then faS l x y d vs fa else if kd = 3 then (if getL lc (x, y, z) = ow then faS l x y d (os || vs) fa else fa) else if kd = 4 then faS l x y d (os || vs) fa else fa
def stX (kd : Int) (l : List Int) (st : Nat) (x y d : Int) : Nat := if kd = 1 then stN (stB l x y d) st else st
theorem stN_le (t : Bool) (k : Nat) : stN t k ≤ k + 1 := by unfold stN; split <;> omega
/-- Both, and what they keep. -/
def GX (w0 : World) (u bb : Nat) (vw vr : Value) (zs : List Int) (g p s c N : Nat) (fa : Int) (st : Nat) (w' : World) : Prop :=
  ∃ (v1 v2 v3 : Value) (lc li : List OneR) (l : List Int) (mp : Option Nat) (m : Nat) (S F : Nat → Prop) (q : Cnt) (n : Nat), lc.length ≤ N ∧ li.length ≤ N ∧ l.length ≤ N ∧ n ≤ N ∧ m ≤ N ∧ st ≤ N ∧ (∀ x, 0 ≤ getL li x) ∧
    Env w0 [boxI u (uv v1 v2 v3 fa (st : Nat) [vw]), rowO v1 lc, rowO v2 li, intsI v3 l, wordsI vw zs, boxI bb (sv g vr), wordsI vr zs, boxI g (gv p mp s (st : Nat) fa), leadsI mp (getL li) m, soulI s S l, wbox p c, cellI c F (getL lc) q n] w'
theorem nn_set {li : List OneR} (h : ∀ x, 0 ≤ getL li x) (p : Plc) {e : Int} (he : 0 ≤ e) : ∀ x, 0 ≤ getL (setL li p e) x := fun x => by
  rw [getL_set]
  unfold upd
  split
  · exact he
  · exact h x

section
variable {w0 w : World} {u bb g p s c n m N st : Nat} {v1 v2 v3 vw vr : Value} {lc li : List OneR} {l zs : List Int} {mp : Option Nat} {S F : Nat → Prop} {q : Cnt} {fa : Int}
set_option maxHeartbeats 25600000 in
theorem does_any (kd x y z d ow oi vx vi : Int) (os vs : Bool) (hx : Wf (x, y, z)) (hv : InU vx) (hi : In64 vi) (hi0 : 0 ≤ vi) (hN : N ≤ 1000) (hlc : lc.length ≤ N) (hli : li.length ≤ N) (hl : l.length ≤ N) (hn : n ≤ N) (hm : m ≤ N) (hst : st ≤ N) (hz : zs.length ≤ 9223372036854775807) (hnn : ∀ x, 0 ≤ getL li x)
    (hE : Env w0 [boxI u (uv v1 v2 v3 fa (st : Nat) [vw]), rowO v1 lc, rowO v2 li, intsI v3 l, wordsI vw zs, boxI bb (sv g vr), wordsI vr zs, boxI g (gv p mp s (st : Nat) fa), leadsI mp (getL li) m, soulI s S l, wbox p c, cellI c F (getL lc) q n] w) :
    Calls Try.prog 7 #[.pointer (some ⟨bb, 0, none⟩), .pointer (some ⟨u, 0, none⟩), .agg #[.int .i64 kd, .int .i64 x, .int .i64 y, .int .i64 z, .int .i64 d, .int .u64 ow, .int .i64 oi, .bool os, .int .u64 vx, .int .i64 vi, .bool vs]] w fun e w' => e = .returned (.bool true) ∧ GX w0 u bb vw vr zs g p s c (N + 1) (faX kd l lc fa x y z d ow os vs) (stX kd l st x y d) w' := by
  have hnum := (hE.leads 8 rfl).nums.u (x, y, z)
  have hwr : IntKind.i64.wrap (getL li (x, y, z)) = getL li (x, y, z) := by rw [wrap_i]; exact w64 _ hnum
  have hwu : IntKind.u64.wrap vi = vi := by unfold In64 at hi; rw [IntKind.wrap_u64]; omega
  have hl5 : l.length ≤ 100000 := by omega
  have hl6 : l.length ≤ 1000000 := by omega
  have hc6 : lc.length ≤ 1000000 := by omega
  have hi6 : li.length ≤ 1000000 := by omega
  have hnm : n < maxLen := by unfold maxLen; omega
  have hmm : m < maxLen := by unfold maxLen; omega
  have hsl : ∀ a, (setL lc (x, y, z) a).length ≤ N + 1 := fun a => by have := setL_length (x, y, z) a lc; omega
  have hsi : ∀ a, (setL li (x, y, z) a).length ≤ N + 1 := fun a => by have := setL_length (x, y, z) a li; omega
  have hbl : (bornL l y).length ≤ N + 1 := by have := bornL_length l y; omega
  replace hE := (hE.box w.heap.size rfl [.int .i64 kd, .int .i64 x, .int .i64 y, .int .i64 z, .int .i64 d, .int .u64 ow, .int .i64 oi, .bool os, .int .u64 vx, .int .i64 vi, .bool vs] 48).box (w.heap.size + 1) (by simp) [.int .i64 x, .int .i64 y, .int .i64 z] 44
  generalize hfz : faX kd l lc fa x y z d ow os vs = fz
  generalize hsz : stX kd l st x y d = sz
  have HFZ := Lib.hid hfz
  have HSZ := Lib.hid hsz
  have HX := Lib.hid hx
  have HV := Lib.hid hv
  have HI := Lib.hid hi
  have HNN := Lib.hid hnn
  have HWR := Lib.hid hwr
  have HWU := Lib.hid hwu
  have HNM := Lib.hid hnm
  have HMM := Lib.hid hmm
  have HSL := Lib.hid hsl
  have HSI := Lib.hid hsi
  clear hfz hsz hx hv hi hnn hwr hwu hnm hmm hnum hsl hsi
  go_enter Try.func7, Try.ntmps7
  go_upto_region 4 with fail
  generalize (w.alloc _).alloc _ = w1 at *
  generalize w.heap.size + 1 = P at *
  generalize w.heap.size = X at *
  by_cases h1 : kd = 1
  · subst h1
    have ef : fa = fz := by have := HFZ.out; simpa [faX] using this
    have es : stN (stB l x y d) st = sz := by have := HSZ.out; simpa [stX] using this
    have hsz1 : sz ≤ N + 1 := by have := stN_le (stB l x y d) st; omega
    clear HFZ HSZ
    have ES := Lib.hid es
    clear es
    subst ef
    have rP := hE.rule 0 rfl
    have rX := hE.rule 1 rfl
    go_wp2_with fail
    refine (load10_u x y z d st (by omega) hl5 hc6 hi6 hz 2 6 (by decide) hE rfl rfl rfl rfl rfl).mono ?_
    rintro e w2 ⟨rfl, hE⟩
    rw [HWR.out]
    rw [ES.out] at hE
    simp only [List.set_cons_succ, List.set_cons_zero] at hE
    clear rP rX
    have rX := hE.rule 1 rfl
    go_wp2_with fail
    refine (load_s x y z d st HX.out (by omega) hl6 hz 7 hE rfl rfl rfl rfl rfl rfl rfl).mono ?_
    rintro e w3 ⟨rfl, hE⟩
    rw [ES.out] at hE
    simp only [List.set_cons_succ, List.set_cons_zero] at hE
    clear rX
    go_wp2_with fail
    go_ret
    refine ⟨by simp, ?_⟩
    exact ⟨v1, v2, v3, lc, li, l, mp, m, S, F, _, n, by omega, by omega, by omega, by omega, by omega, by omega, HNN.out, hE.sub (.cons _ (.cons _ (List.Sublist.refl _)))⟩
  have hs1 : st = sz := by have := HSZ.out; simpa [stX, h1] using this
  clear HSZ
  subst hs1
  by_cases h2 : kd = 2
  · subst h2
    have ef : faS l x y d vs fa = fz := by have := HFZ.out; simpa [faX] using this
    clear HFZ
    have EF := Lib.hid ef
    clear ef
    have rP := hE.rule 0 rfl
    have rX := hE.rule 1 rfl
    go_wp2_with fail
    refine (store_s x y z d vx vi vs HX.out HV.out HI.out HNM.out HMM.out hl6 7 hE rfl rfl rfl rfl rfl rfl).mono ?_
    rintro e w2 ⟨rfl, mp2, F2, hE⟩
    rw [EF.out] at hE
    simp only [List.set_cons_succ, List.set_cons_zero] at hE
    clear rP rX
    have rP := hE.rule 0 rfl
    have rX := hE.rule 1 rfl
    go_wp2_with fail
    refine (store7_u x y z d vx vi vs hl5 hc6 hi6 2 hE rfl rfl rfl rfl).mono ?_
    rintro e w6 ⟨rfl, a, b, hA9⟩
    rw [EF.out, HWU.out] at hA9
    simp only [storeL, List.set_cons_succ, List.set_cons_zero] at hA9
    clear hE rP rX
    rw [← getL_set, ← getL_set] at hA9
    go_wp2_with fail
    go_ret
    refine ⟨rfl, ?_⟩
    exact ⟨a, b, v3, setL lc (x, y, z) vx, setL li (x, y, z) vi, l, mp2, m + 1, S, F2, _, n + 1, HSL.out _, HSI.out _, by omega, by omega, by omega, by omega, nn_set HNN.out _ hi0, hA9.sub (.cons _ (.cons _ (List.Sublist.refl _)))⟩
  by_cases h3 : kd = 3
  · subst h3
    have rP := hE.rule 0 rfl
    have rX := hE.rule 1 rfl
    by_cases hw : getL lc (x, y, z) = ow
    · have ef : faS l x y d (os || vs) fa = fz := by have := HFZ.out; simpa [faX, hw] using this
      clear HFZ
      have EF := Lib.hid ef
      clear ef
      have HW := Lib.hid hw
      clear hw
      replace hE := hE.box w1.heap.size rfl [.int .u64 ow, .int .i64 oi, .bool os] 42
      go_upto_region 14 with fail
      clear rP rX
      generalize w1.alloc _ = w2 at *
      generalize w1.heap.size = O at *
      have rX := hE.rule 2 rfl
      go_upto_region 16 with fail
      clear rX
      refine Ord.wp_chain [6, 25] (fun w' => Blk 0 w' O [.int .u64 ow, .int .i64 oi, .bool os] ∧ Blk 0 w' P [.int .i64 x, .int .i64 y, .int .i64 z] ∧ Blk 0 w' X [.int .i64 3, .int .i64 x, .int .i64 y, .int .i64 z, .int .i64 d, .int .u64 ow, .int .i64 oi, .bool os, .int .u64 vx, .int .i64 vi, .bool vs]) (Stage [Env w0 [boxI O [.int .u64 ow, .int .i64 oi, .bool os], boxI P [.int .i64 x, .int .i64 y, .int .i64 z], boxI X [.int .i64 3, .int .i64 x, .int .i64 y, .int .i64 z, .int .i64 d, .int .u64 ow, .int .i64 oi, .bool os, .int .u64 vx, .int .i64 vi, .bool vs], boxI u (uv v1 v2 v3 fa (st : Nat) [vw]), rowO v1 lc, rowO v2 li, intsI v3 l, wordsI vw zs, boxI bb (sv g vr), wordsI vr zs, boxI g (gv p mp s (st : Nat) fa), leadsI mp (getL li) m, soulI s S l, wbox p c, cellI c F (getL lc) q n], fun w' => ∃ mp2 G, Env w0 [boxI O [.int .u64 ow, .int .i64 oi, .bool os], boxI P [.int .i64 x, .int .i64 y, .int .i64 z], boxI X [.int .i64 3, .int .i64 x, .int .i64 y, .int .i64 z, .int .i64 d, .int .u64 ow, .int .i64 oi, .bool os, .int .u64 vx, .int .i64 vi, .bool vs], boxI u (uv v1 v2 v3 fa (st : Nat) [vw]), rowO v1 lc, rowO v2 li, intsI v3 l, wordsI vw zs, boxI bb (sv g vr), wordsI vr zs, boxI g (gv p mp2 s (st : Nat) fz), leadsI mp2 (upd (getL li) (x, y, z) vi) (m + 1), soulI s S l, wbox p c, cellI c G (upd (getL lc) (x, y, z) vx) (swq q true) (n + 1)] w', fun w' => ∃ mp2 G a b, Env w0 [boxI O [.int .u64 ow, .int .i64 oi, .bool os], boxI P [.int .i64 x, .int .i64 y, .int .i64 z], boxI X [.int .i64 3, .int .i64 x, .int .i64 y, .int .i64 z, .int .i64 d, .int .u64 ow, .int .i64 oi, .bool os, .int .u64 vx, .int .i64 vi, .bool vs], boxI u (uv a b v3 fz (st : Nat) [vw]), rowO a (setL lc (x, y, z) vx), rowO b (setL li (x, y, z) vi), intsI v3 l, wordsI vw zs, boxI bb (sv g vr), wordsI vr zs, boxI g (gv p mp2 s (st : Nat) fz), leadsI mp2 (upd (getL li) (x, y, z) vi) (m + 1), soulI s S l, wbox p c, cellI c G (upd (getL lc) (x, y, z) vx) (swq q true) (n + 1)] w']) (by kernel_rfl) (by kernel_rfl) (by kernel_rfl) ⟨hE.drew.get 0 rfl, hE.drew.get 1 rfl, hE.drew.get 2 rfl⟩ ⟨_, rfl, hE.drew⟩ (fun hT => ?_)
      have hT9 := Lib.hid hT
      clear hT
      repeat (first
        | (refine Ord.ch_value (v := ?_) hT9.out (by decide) (by rfl) ?_ ?_; rotate_left; (focus (intro w5 hS; have r0 := hS.1.rule; have r1 := hS.2.1.rule; have r2 := hS.2.2.rule; go_simp <;> with_reducible rfl)); (try simp only [Act.put, List.setIfInBounds_toArray, List.set_cons_zero, List.set_cons_succ]))
        | (refine Ord.ch_off hT9.out (by decide) (by rfl) ?_; (try simp only [Act.put, List.setIfInBounds_toArray, List.set_cons_zero, List.set_cons_succ])))
      refine Ord.ch_turn (v := .bool true) 0 hT9.out rfl (by decide) (Or.inl rfl) (by rfl) ?_ ?_
      · rintro w5 hC5 ⟨P5, hP5, hA5⟩
        cases hP5
        skip
        go_simp
        simp only [Ord.LandsIn]
        refine (swap_s x y z d ow oi vx vi os vs HX.out HV.out HI.out HNM.out HMM.out hl6 8 hA5 rfl rfl rfl rfl rfl rfl).mono ?_
        rintro e6 w6 ⟨rfl, mp2, G, hE6⟩; rw [if_pos HW.out, if_pos HW.out, swf_yes HW.out, EF.out, show decide (getL lc (x, y, z) = ow) = true by simpa using HW.out] at hE6; rw [show decide (getL lc (x, y, z) = ow) = true by simpa using HW.out]; simp only [List.set_cons_succ, List.set_cons_zero] at hE6; exact ⟨rfl, ⟨hE6.get 0 rfl, hE6.get 1 rfl, hE6.get 2 rfl⟩, _, rfl, mp2, G, hE6⟩
      (try simp only [Act.put, List.setIfInBounds_toArray, List.set_cons_zero, List.set_cons_succ])
      repeat (first
        | (refine Ord.ch_value (v := ?_) hT9.out (by decide) (by rfl) ?_ ?_; rotate_left; (focus (intro w5 hS; have r0 := hS.1.rule; have r1 := hS.2.1.rule; have r2 := hS.2.2.rule; go_simp <;> with_reducible rfl)); (try simp only [Act.put, List.setIfInBounds_toArray, List.set_cons_zero, List.set_cons_succ]))
        | (refine Ord.ch_off hT9.out (by decide) (by rfl) ?_; (try simp only [Act.put, List.setIfInBounds_toArray, List.set_cons_zero, List.set_cons_succ])))
      refine Ord.ch_turn (v := .bool true) 1 hT9.out rfl (by decide) (Or.inr ⟨_, rfl, by kernel_rfl⟩) (by rfl) ?_ ?_
      · rintro w5 hC5 ⟨P5, hP5, hA5⟩
        cases hP5
        obtain ⟨mp2, G, hA5⟩ := hA5
        go_simp
        simp only [Ord.LandsIn]
        refine (swap7_u x y z d ow vx vi os vs hl5 hc6 hi6 3 hA5 rfl rfl rfl rfl).mono ?_
        rintro e6 w6 ⟨rfl, a, b, hE6⟩; rw [if_pos HW.out, EF.out, HWU.out] at hE6; simp only [storeL, List.set_cons_succ, List.set_cons_zero] at hE6; rw [show decide (getL lc (x, y, z) = ow) = true by simpa using HW.out]; exact ⟨rfl, ⟨hE6.get 0 rfl, hE6.get 1 rfl, hE6.get 2 rfl⟩, _, rfl, mp2, G, a, b, hE6⟩
      (try simp only [Act.put, List.setIfInBounds_toArray, List.set_cons_zero, List.set_cons_succ])
      repeat (first
        | (refine Ord.ch_value (v := ?_) hT9.out (by decide) (by rfl) ?_ ?_; rotate_left; (focus (intro w5 hS; skip; go_simp <;> with_reducible rfl)); (try simp only [Act.put, List.setIfInBounds_toArray, List.set_cons_zero, List.set_cons_succ]))
        | (refine Ord.ch_off hT9.out (by decide) (by rfl) ?_; (try simp only [Act.put, List.setIfInBounds_toArray, List.set_cons_zero, List.set_cons_succ])))
      refine Ord.InText.nil fun w5 hS => ?_
      clear hT9
      obtain ⟨hC9, hA9⟩ := Ord.chain_end hS
      clear hS
      obtain ⟨P9, hP9, hA9⟩ := hA9
      cases hP9
      obtain ⟨mp2, G, a, b, hA9⟩ := hA9
      clear hC9 hE
      rw [← getL_set, ← getL_set] at hA9
      go_wp2_with fail
      go_ret
      refine ⟨by simp, ?_⟩
      exact ⟨a, b, v3, setL lc (x, y, z) vx, setL li (x, y, z) vi, l, mp2, m + 1, S, G, _, n + 1, HSL.out _, HSI.out _, by omega, by omega, by omega, by omega, nn_set HNN.out _ hi0, hA9.sub (.cons _ (.cons _ (.cons _ (List.Sublist.refl _))))⟩
    · have ef : fa = fz := by have := HFZ.out; simpa [faX, hw] using this
      clear HFZ
      subst ef
      have HW := Lib.hid hw
      clear hw
      replace hE := hE.box w1.heap.size rfl [.int .u64 ow, .int .i64 oi, .bool os] 42
      go_upto_region 14 with fail
      clear rP rX
      generalize w1.alloc _ = w2 at *
      generalize w1.heap.size = O at *
      have rX := hE.rule 2 rfl
      go_upto_region 16 with fail
      clear rX
      refine Ord.wp_chain [6, 25] (fun w' => Blk 0 w' O [.int .u64 ow, .int .i64 oi, .bool os] ∧ Blk 0 w' P [.int .i64 x, .int .i64 y, .int .i64 z] ∧ Blk 0 w' X [.int .i64 3, .int .i64 x, .int .i64 y, .int .i64 z, .int .i64 d, .int .u64 ow, .int .i64 oi, .bool os, .int .u64 vx, .int .i64 vi, .bool vs]) (Stage [Env w0 [boxI O [.int .u64 ow, .int .i64 oi, .bool os], boxI P [.int .i64 x, .int .i64 y, .int .i64 z], boxI X [.int .i64 3, .int .i64 x, .int .i64 y, .int .i64 z, .int .i64 d, .int .u64 ow, .int .i64 oi, .bool os, .int .u64 vx, .int .i64 vi, .bool vs], boxI u (uv v1 v2 v3 fa (st : Nat) [vw]), rowO v1 lc, rowO v2 li, intsI v3 l, wordsI vw zs, boxI bb (sv g vr), wordsI vr zs, boxI g (gv p mp s (st : Nat) fa), leadsI mp (getL li) m, soulI s S l, wbox p c, cellI c F (getL lc) q n], fun w' => ∃ mp2 G, Env w0 [boxI O [.int .u64 ow, .int .i64 oi, .bool os], boxI P [.int .i64 x, .int .i64 y, .int .i64 z], boxI X [.int .i64 3, .int .i64 x, .int .i64 y, .int .i64 z, .int .i64 d, .int .u64 ow, .int .i64 oi, .bool os, .int .u64 vx, .int .i64 vi, .bool vs], boxI u (uv v1 v2 v3 fa (st : Nat) [vw]), rowO v1 lc, rowO v2 li, intsI v3 l, wordsI vw zs, boxI bb (sv g vr), wordsI vr zs, boxI g (gv p mp2 s (st : Nat) fa), leadsI mp2 (getL li) (m + 1), soulI s S l, wbox p c, cellI c G (getL lc) (swq q false) (n + 1)] w', fun w' => ∃ mp2 G, Env w0 [boxI O [.int .u64 ow, .int .i64 oi, .bool os], boxI P [.int .i64 x, .int .i64 y, .int .i64 z], boxI X [.int .i64 3, .int .i64 x, .int .i64 y, .int .i64 z, .int .i64 d, .int .u64 ow, .int .i64 oi, .bool os, .int .u64 vx, .int .i64 vi, .bool vs], boxI u (uv v1 v2 v3 fa (st : Nat) [vw]), rowO v1 lc, rowO v2 li, intsI v3 l, wordsI vw zs, boxI bb (sv g vr), wordsI vr zs, boxI g (gv p mp2 s (st : Nat) fa), leadsI mp2 (getL li) (m + 1), soulI s S l, wbox p c, cellI c G (getL lc) (swq q false) (n + 1)] w']) (by kernel_rfl) (by kernel_rfl) (by kernel_rfl) ⟨hE.drew.get 0 rfl, hE.drew.get 1 rfl, hE.drew.get 2 rfl⟩ ⟨_, rfl, hE.drew⟩ (fun hT => ?_)
      have hT9 := Lib.hid hT
      clear hT
      repeat (first
        | (refine Ord.ch_value (v := ?_) hT9.out (by decide) (by rfl) ?_ ?_; rotate_left; (focus (intro w5 hS; have r0 := hS.1.rule; have r1 := hS.2.1.rule; have r2 := hS.2.2.rule; go_simp <;> with_reducible rfl)); (try simp only [Act.put, List.setIfInBounds_toArray, List.set_cons_zero, List.set_cons_succ]))
        | (refine Ord.ch_off hT9.out (by decide) (by rfl) ?_; (try simp only [Act.put, List.setIfInBounds_toArray, List.set_cons_zero, List.set_cons_succ])))
      refine Ord.ch_turn (v := .bool false) 0 hT9.out rfl (by decide) (Or.inl rfl) (by rfl) ?_ ?_
      · rintro w5 hC5 ⟨P5, hP5, hA5⟩
        cases hP5
        skip
        go_simp
        simp only [Ord.LandsIn]
        refine (swap_s x y z d ow oi vx vi os vs HX.out HV.out HI.out HNM.out HMM.out hl6 8 hA5 rfl rfl rfl rfl rfl rfl).mono ?_
        rintro e6 w6 ⟨rfl, mp2, G, hE6⟩; rw [if_neg HW.out, if_neg HW.out, swf_no HW.out, show decide (getL lc (x, y, z) = ow) = false by simpa using HW.out] at hE6; rw [show decide (getL lc (x, y, z) = ow) = false by simpa using HW.out]; simp only [List.set_cons_succ, List.set_cons_zero] at hE6; exact ⟨rfl, ⟨hE6.get 0 rfl, hE6.get 1 rfl, hE6.get 2 rfl⟩, _, rfl, mp2, G, hE6⟩
      (try simp only [Act.put, List.setIfInBounds_toArray, List.set_cons_zero, List.set_cons_succ])
      repeat (first
        | (refine Ord.ch_value (v := ?_) hT9.out (by decide) (by rfl) ?_ ?_; rotate_left; (focus (intro w5 hS; have r0 := hS.1.rule; have r1 := hS.2.1.rule; have r2 := hS.2.2.rule; go_simp <;> with_reducible rfl)); (try simp only [Act.put, List.setIfInBounds_toArray, List.set_cons_zero, List.set_cons_succ]))
        | (refine Ord.ch_off hT9.out (by decide) (by rfl) ?_; (try simp only [Act.put, List.setIfInBounds_toArray, List.set_cons_zero, List.set_cons_succ])))
      refine Ord.ch_turn (v := .bool false) 1 hT9.out rfl (by decide) (Or.inr ⟨_, rfl, by kernel_rfl⟩) (by rfl) ?_ ?_
      · rintro w5 hC5 ⟨P5, hP5, hA5⟩
        cases hP5
        obtain ⟨mp2, G, hA5⟩ := hA5
        go_simp
        simp only [Ord.LandsIn]
        refine (swap7_u x y z d ow vx vi os vs hl5 hc6 hi6 3 hA5 rfl rfl rfl rfl).mono ?_
        rintro e6 w6 ⟨rfl, a, b, hE6⟩; rw [if_neg HW.out] at hE6; rw [show decide (getL lc (x, y, z) = ow) = false by simpa using HW.out]; exact ⟨rfl, ⟨hE6.get 0 rfl, hE6.get 1 rfl, hE6.get 2 rfl⟩, _, rfl, mp2, G, hE6⟩
      (try simp only [Act.put, List.setIfInBounds_toArray, List.set_cons_zero, List.set_cons_succ])
      repeat (first
        | (refine Ord.ch_value (v := ?_) hT9.out (by decide) (by rfl) ?_ ?_; rotate_left; (focus (intro w5 hS; skip; go_simp <;> with_reducible rfl)); (try simp only [Act.put, List.setIfInBounds_toArray, List.set_cons_zero, List.set_cons_succ]))
        | (refine Ord.ch_off hT9.out (by decide) (by rfl) ?_; (try simp only [Act.put, List.setIfInBounds_toArray, List.set_cons_zero, List.set_cons_succ])))
      refine Ord.InText.nil fun w5 hS => ?_
      clear hT9
      obtain ⟨hC9, hA9⟩ := Ord.chain_end hS
      clear hS
      obtain ⟨P9, hP9, hA9⟩ := hA9
      cases hP9
      obtain ⟨mp2, G, hA9⟩ := hA9
      clear hC9 hE
      skip
      go_wp2_with fail
      go_ret
      refine ⟨by simp, ?_⟩
      exact ⟨v1, v2, v3, lc, li, l, mp2, m + 1, S, G, _, n + 1, by omega, by omega, by omega, by omega, by omega, by omega, HNN.out, hA9.sub (.cons _ (.cons _ (.cons _ (List.Sublist.refl _))))⟩
  by_cases h4 : kd = 4
  · subst h4
    have ef : faS l x y d (os || vs) fa = fz := by have := HFZ.out; simpa [faX] using this
    clear HFZ
    have rP := hE.rule 0 rfl
    have rX := hE.rule 1 rfl
    have EF := Lib.hid ef
    clear ef
    obtain ⟨o4, hw⟩ : ∃ o4, getL lc (x, y, z) = o4 := ⟨_, rfl⟩
    have HW := Lib.hid hw
    clear hw
    replace hE := hE.box w1.heap.size rfl [.int .u64 ow, .int .i64 oi, .bool os] 42
    go_upto_region 14 with fail
    clear rP rX
    generalize w1.alloc _ = w2 at *
    generalize w1.heap.size = O at *
    have rX := hE.rule 2 rfl
    go_upto_region 15 with fail
    clear rX
    refine Ord.wp_chain [4, 6] (fun w' => Blk 0 w' P [.int .i64 x, .int .i64 y, .int .i64 z] ∧ Blk 0 w' X [.int .i64 4, .int .i64 x, .int .i64 y, .int .i64 z, .int .i64 d, .int .u64 ow, .int .i64 oi, .bool os, .int .u64 vx, .int .i64 vi, .bool vs]) (Stage [Env w0 [boxI O [.int .u64 ow, .int .i64 oi, .bool os], boxI P [.int .i64 x, .int .i64 y, .int .i64 z], boxI X [.int .i64 4, .int .i64 x, .int .i64 y, .int .i64 z, .int .i64 d, .int .u64 ow, .int .i64 oi, .bool os, .int .u64 vx, .int .i64 vi, .bool vs], boxI u (uv v1 v2 v3 fa (st : Nat) [vw]), rowO v1 lc, rowO v2 li, intsI v3 l, wordsI vw zs, boxI bb (sv g vr), wordsI vr zs, boxI g (gv p mp s (st : Nat) fa), leadsI mp (getL li) m, soulI s S l, wbox p c, cellI c F (getL lc) q n], Env w0 [boxI O [.int .u64 ow, .int .i64 oi, .bool os], boxI P [.int .i64 x, .int .i64 y, .int .i64 z], boxI X [.int .i64 4, .int .i64 x, .int .i64 y, .int .i64 z, .int .i64 d, .int .u64 ow, .int .i64 oi, .bool os, .int .u64 vx, .int .i64 vi, .bool vs], boxI u (uv v1 v2 v3 fa (st : Nat) [vw]), rowO v1 lc, rowO v2 li, intsI v3 l, wordsI vw zs, boxI bb (sv g vr), wordsI vr zs, boxI g (gv p mp s (st : Nat) fa), leadsI mp (getL li) m, soulI s S l, wbox p c, cellI c F (getL lc) q n], Env w0 [boxI O [.int .u64 o4, .int .i64 oi, .bool os], boxI P [.int .i64 x, .int .i64 y, .int .i64 z], boxI X [.int .i64 4, .int .i64 x, .int .i64 y, .int .i64 z, .int .i64 d, .int .u64 ow, .int .i64 oi, .bool os, .int .u64 vx, .int .i64 vi, .bool vs], boxI u (uv v1 v2 v3 fa (st : Nat) [vw]), rowO v1 lc, rowO v2 li, intsI v3 l, wordsI vw zs, boxI bb (sv g vr), wordsI vr zs, boxI g (gv p mp s (st : Nat) fa), leadsI mp (getL li) m, soulI s S l, wbox p c, cellI c F (getL lc) q n]]) (by kernel_rfl) (by kernel_rfl) (by kernel_rfl) ⟨hE.drew.get 1 rfl, hE.drew.get 2 rfl⟩ ⟨_, rfl, hE.drew⟩ (fun hT => ?_)
    have hT9 := Lib.hid hT
    clear hT
    repeat (first
      | (refine Ord.ch_value (v := ?_) hT9.out (by decide) (by rfl) ?_ ?_; rotate_left; (focus (intro w5 hS; have r0 := hS.1.rule; have r1 := hS.2.rule; go_simp <;> with_reducible rfl)); (try simp only [Act.put, List.setIfInBounds_toArray, List.set_cons_zero, List.set_cons_succ]))
      | (refine Ord.ch_off hT9.out (by decide) (by rfl) ?_; (try simp only [Act.put, List.setIfInBounds_toArray, List.set_cons_zero, List.set_cons_succ])))
    refine Ord.ch_turn (v := .int .u64 o4) 0 hT9.out rfl (by decide) (Or.inl rfl) (by rfl) ?_ ?_
    · rintro w5 hC5 ⟨P5, hP5, hA5⟩
      cases hP5
      skip
      go_simp
      simp only [Ord.LandsIn]
      refine (get_u x y z hc6 0 3 4 hA5 rfl rfl rfl).mono ?_
      rintro e6 w6 ⟨rfl, hb6⟩; rw [HW.out]; have hE6 := hA5.over hb6; exact ⟨rfl, ⟨hE6.get 1 rfl, hE6.get 2 rfl⟩, _, rfl, hE6⟩
    (try simp only [Act.put, List.setIfInBounds_toArray, List.set_cons_zero, List.set_cons_succ])
    repeat (first
      | (refine Ord.ch_value (v := ?_) hT9.out (by decide) (by rfl) ?_ ?_; rotate_left; (focus (intro w5 hS; have r0 := hS.1.rule; have r1 := hS.2.rule; go_simp <;> with_reducible rfl)); (try simp only [Act.put, List.setIfInBounds_toArray, List.set_cons_zero, List.set_cons_succ]))
      | (refine Ord.ch_off hT9.out (by decide) (by rfl) ?_; (try simp only [Act.put, List.setIfInBounds_toArray, List.set_cons_zero, List.set_cons_succ])))
    refine Ord.ch_turn (v := undef) 1 hT9.out rfl (by decide) (Or.inr ⟨_, rfl, by kernel_rfl⟩) (by rfl) ?_ ?_
    · rintro w5 hC5 ⟨P5, hP5, hA5⟩
      cases hP5
      have r := hA5.rule 0 rfl
      have f0 := hA5.thaw 0 rfl 0 (by simp)
      go_simp
      have hE6 := hA5.put 0 rfl (j := 0) (by simp) (.int .u64 o4)
      simp only [List.set_cons_succ, List.set_cons_zero] at hE6
      exact ⟨rfl, ⟨hE6.get 1 rfl, hE6.get 2 rfl⟩, _, rfl, hE6⟩
    (try simp only [Act.put, List.setIfInBounds_toArray, List.set_cons_zero, List.set_cons_succ])
    refine Ord.InText.nil fun w5 hS => ?_
    clear hT9
    obtain ⟨hC9, hA9⟩ := Ord.chain_end hS
    clear hS
    obtain ⟨P9, hP9, hA9⟩ := hA9
    cases hP9
    clear hC9 hE
    have hE := hA9
    clear hA9
    go_wp2_with fail
    refine Ord.wp_chain [6, 25] (fun w' => Blk 0 w' O [.int .u64 o4, .int .i64 oi, .bool os] ∧ Blk 0 w' P [.int .i64 x, .int .i64 y, .int .i64 z] ∧ Blk 0 w' X [.int .i64 4, .int .i64 x, .int .i64 y, .int .i64 z, .int .i64 d, .int .u64 ow, .int .i64 oi, .bool os, .int .u64 vx, .int .i64 vi, .bool vs]) (Stage [Env w0 [boxI O [.int .u64 o4, .int .i64 oi, .bool os], boxI P [.int .i64 x, .int .i64 y, .int .i64 z], boxI X [.int .i64 4, .int .i64 x, .int .i64 y, .int .i64 z, .int .i64 d, .int .u64 ow, .int .i64 oi, .bool os, .int .u64 vx, .int .i64 vi, .bool vs], boxI u (uv v1 v2 v3 fa (st : Nat) [vw]), rowO v1 lc, rowO v2 li, intsI v3 l, wordsI vw zs, boxI bb (sv g vr), wordsI vr zs, boxI g (gv p mp s (st : Nat) fa), leadsI mp (getL li) m, soulI s S l, wbox p c, cellI c F (getL lc) q n], fun w' => ∃ mp2 G, Env w0 [boxI O [.int .u64 o4, .int .i64 oi, .bool os], boxI P [.int .i64 x, .int .i64 y, .int .i64 z], boxI X [.int .i64 4, .int .i64 x, .int .i64 y, .int .i64 z, .int .i64 d, .int .u64 ow, .int .i64 oi, .bool os, .int .u64 vx, .int .i64 vi, .bool vs], boxI u (uv v1 v2 v3 fa (st : Nat) [vw]), rowO v1 lc, rowO v2 li, intsI v3 l, wordsI vw zs, boxI bb (sv g vr), wordsI vr zs, boxI g (gv p mp2 s (st : Nat) fz), leadsI mp2 (upd (getL li) (x, y, z) vi) (m + 1), soulI s S l, wbox p c, cellI c G (upd (getL lc) (x, y, z) vx) (swq q true) (n + 1)] w', fun w' => ∃ mp2 G a b, Env w0 [boxI O [.int .u64 o4, .int .i64 oi, .bool os], boxI P [.int .i64 x, .int .i64 y, .int .i64 z], boxI X [.int .i64 4, .int .i64 x, .int .i64 y, .int .i64 z, .int .i64 d, .int .u64 ow, .int .i64 oi, .bool os, .int .u64 vx, .int .i64 vi, .bool vs], boxI u (uv a b v3 fz (st : Nat) [vw]), rowO a (setL lc (x, y, z) vx), rowO b (setL li (x, y, z) vi), intsI v3 l, wordsI vw zs, boxI bb (sv g vr), wordsI vr zs, boxI g (gv p mp2 s (st : Nat) fz), leadsI mp2 (upd (getL li) (x, y, z) vi) (m + 1), soulI s S l, wbox p c, cellI c G (upd (getL lc) (x, y, z) vx) (swq q true) (n + 1)] w']) (by kernel_rfl) (by kernel_rfl) (by kernel_rfl) ⟨hE.drew.get 0 rfl, hE.drew.get 1 rfl, hE.drew.get 2 rfl⟩ ⟨_, rfl, hE.drew⟩ (fun hT => ?_)
    have hT9 := Lib.hid hT
    clear hT
    repeat (first
      | (refine Ord.ch_value (v := ?_) hT9.out (by decide) (by rfl) ?_ ?_; rotate_left; (focus (intro w5 hS; have r0 := hS.1.rule; have r1 := hS.2.1.rule; have r2 := hS.2.2.rule; go_simp <;> with_reducible rfl)); (try simp only [Act.put, List.setIfInBounds_toArray, List.set_cons_zero, List.set_cons_succ]))
      | (refine Ord.ch_off hT9.out (by decide) (by rfl) ?_; (try simp only [Act.put, List.setIfInBounds_toArray, List.set_cons_zero, List.set_cons_succ])))
    refine Ord.ch_turn (v := .bool true) 0 hT9.out rfl (by decide) (Or.inl rfl) (by rfl) ?_ ?_
    · rintro w5 hC5 ⟨P5, hP5, hA5⟩
      cases hP5
      skip
      go_simp
      simp only [Ord.LandsIn]
      refine (swap_s x y z d o4 oi vx vi os vs HX.out HV.out HI.out HNM.out HMM.out hl6 8 hA5 rfl rfl rfl rfl rfl rfl).mono ?_
      rintro e6 w6 ⟨rfl, mp2, G, hE6⟩; rw [if_pos HW.out, if_pos HW.out, swf_yes HW.out, EF.out, show decide (getL lc (x, y, z) = o4) = true by simpa using HW.out] at hE6; rw [show decide (getL lc (x, y, z) = o4) = true by simpa using HW.out]; simp only [List.set_cons_succ, List.set_cons_zero] at hE6; exact ⟨rfl, ⟨hE6.get 0 rfl, hE6.get 1 rfl, hE6.get 2 rfl⟩, _, rfl, mp2, G, hE6⟩
    (try simp only [Act.put, List.setIfInBounds_toArray, List.set_cons_zero, List.set_cons_succ])
    repeat (first
      | (refine Ord.ch_value (v := ?_) hT9.out (by decide) (by rfl) ?_ ?_; rotate_left; (focus (intro w5 hS; have r0 := hS.1.rule; have r1 := hS.2.1.rule; have r2 := hS.2.2.rule; go_simp <;> with_reducible rfl)); (try simp only [Act.put, List.setIfInBounds_toArray, List.set_cons_zero, List.set_cons_succ]))
      | (refine Ord.ch_off hT9.out (by decide) (by rfl) ?_; (try simp only [Act.put, List.setIfInBounds_toArray, List.set_cons_zero, List.set_cons_succ])))
    refine Ord.ch_turn (v := .bool true) 1 hT9.out rfl (by decide) (Or.inr ⟨_, rfl, by kernel_rfl⟩) (by rfl) ?_ ?_
    · rintro w5 hC5 ⟨P5, hP5, hA5⟩
      cases hP5
      obtain ⟨mp2, G, hA5⟩ := hA5
      go_simp
      simp only [Ord.LandsIn]
      refine (swap7_u x y z d o4 vx vi os vs hl5 hc6 hi6 3 hA5 rfl rfl rfl rfl).mono ?_
      rintro e6 w6 ⟨rfl, a, b, hE6⟩; rw [if_pos HW.out, EF.out, HWU.out] at hE6; simp only [storeL, List.set_cons_succ, List.set_cons_zero] at hE6; rw [show decide (getL lc (x, y, z) = o4) = true by simpa using HW.out]; exact ⟨rfl, ⟨hE6.get 0 rfl, hE6.get 1 rfl, hE6.get 2 rfl⟩, _, rfl, mp2, G, a, b, hE6⟩
    (try simp only [Act.put, List.setIfInBounds_toArray, List.set_cons_zero, List.set_cons_succ])
    repeat (first
      | (refine Ord.ch_value (v := ?_) hT9.out (by decide) (by rfl) ?_ ?_; rotate_left; (focus (intro w5 hS; skip; go_simp <;> with_reducible rfl)); (try simp only [Act.put, List.setIfInBounds_toArray, List.set_cons_zero, List.set_cons_succ]))
      | (refine Ord.ch_off hT9.out (by decide) (by rfl) ?_; (try simp only [Act.put, List.setIfInBounds_toArray, List.set_cons_zero, List.set_cons_succ])))
    refine Ord.InText.nil fun w5 hS => ?_
    clear hT9
    obtain ⟨hC9, hA9⟩ := Ord.chain_end hS
    clear hS
    obtain ⟨P9, hP9, hA9⟩ := hA9
    cases hP9
    obtain ⟨mp2, G, a, b, hA9⟩ := hA9
    clear hC9 hE
    rw [← getL_set, ← getL_set] at hA9
    go_wp2_with fail
    go_ret
    refine ⟨by simp, ?_⟩
    exact ⟨a, b, v3, setL lc (x, y, z) vx, setL li (x, y, z) vi, l, mp2, m + 1, S, G, _, n + 1, HSL.out _, HSI.out _, by omega, by omega, by omega, by omega, nn_set HNN.out _ hi0, hA9.sub (.cons _ (.cons _ (.cons _ (List.Sublist.refl _))))⟩
    
  have hf1 : fa = fz := by have := HFZ.out; simpa [faX, h2, h3, h4] using this
  clear HFZ
  subst hf1
  by_cases h5 : kd = 5
  · subst h5
    have rP := hE.rule 0 rfl
    have rX := hE.rule 1 rfl
    go_wp2_with fail
    clear rP rX
    refine Ord.wp_chain [6, 14] (fun w' => Blk 0 w' P [.int .i64 x, .int .i64 y, .int .i64 z] ∧ Blk 0 w' X [.int .i64 5, .int .i64 x, .int .i64 y, .int .i64 z, .int .i64 d, .int .u64 ow, .int .i64 oi, .bool os, .int .u64 vx, .int .i64 vi, .bool vs]) (Stage [Env w0 [boxI P [.int .i64 x, .int .i64 y, .int .i64 z], boxI X [.int .i64 5, .int .i64 x, .int .i64 y, .int .i64 z, .int .i64 d, .int .u64 ow, .int .i64 oi, .bool os, .int .u64 vx, .int .i64 vi, .bool vs], boxI u (uv v1 v2 v3 fa (st : Nat) [vw]), rowO v1 lc, rowO v2 li, intsI v3 l, wordsI vw zs, boxI bb (sv g vr), wordsI vr zs, boxI g (gv p mp s (st : Nat) fa), leadsI mp (getL li) m, soulI s S l, wbox p c, cellI c F (getL lc) q n], fun w' => ∃ G, Env w0 [boxI P [.int .i64 x, .int .i64 y, .int .i64 z], boxI X [.int .i64 5, .int .i64 x, .int .i64 y, .int .i64 z, .int .i64 d, .int .u64 ow, .int .i64 oi, .bool os, .int .u64 vx, .int .i64 vi, .bool vs], boxI u (uv v1 v2 v3 fa (st : Nat) [vw]), rowO v1 lc, rowO v2 li, intsI v3 l, wordsI vw zs, boxI bb (sv g vr), wordsI vr zs, boxI g (gv p mp s (st : Nat) fa), leadsI mp (getL li) m, soulI s S l, wbox p c, cellI c G (upd (getL lc) (x, y, z) (IntKind.u64.wrap (getL lc (x, y, z) + vx))) { q with a := wrap64 (q.a + 1) } (n + 1)] w', fun w' => ∃ G a, Env w0 [boxI P [.int .i64 x, .int .i64 y, .int .i64 z], boxI X [.int .i64 5, .int .i64 x, .int .i64 y, .int .i64 z, .int .i64 d, .int .u64 ow, .int .i64 oi, .bool os, .int .u64 vx, .int .i64 vi, .bool vs], boxI u (uv a v2 v3 fa (st : Nat) [vw]), rowO a (setL lc (x, y, z) (IntKind.u64.wrap (getL lc (x, y, z) + vx))), rowO v2 li, intsI v3 l, wordsI vw zs, boxI bb (sv g vr), wordsI vr zs, boxI g (gv p mp s (st : Nat) fa), leadsI mp (getL li) m, soulI s S l, wbox p c, cellI c G (upd (getL lc) (x, y, z) (IntKind.u64.wrap (getL lc (x, y, z) + vx))) { q with a := wrap64 (q.a + 1) } (n + 1)] w']) (by kernel_rfl) (by kernel_rfl) (by kernel_rfl) ⟨hE.drew.get 0 rfl, hE.drew.get 1 rfl⟩ ⟨_, rfl, hE.drew⟩ (fun hT => ?_)
    have hT9 := Lib.hid hT
    clear hT
    repeat (first
      | (refine Ord.ch_value (v := ?_) hT9.out (by decide) (by rfl) ?_ ?_; rotate_left; (focus (intro w5 hS; have r0 := hS.1.rule; have r1 := hS.2.rule; go_simp <;> with_reducible rfl)); (try simp only [Act.put, List.setIfInBounds_toArray, List.set_cons_zero, List.set_cons_succ]))
      | (refine Ord.ch_off hT9.out (by decide) (by rfl) ?_; (try simp only [Act.put, List.setIfInBounds_toArray, List.set_cons_zero, List.set_cons_succ])))
    refine Ord.ch_turn (v := .int .u64 (getL lc (x, y, z))) 0 hT9.out rfl (by decide) (Or.inl rfl) (by rfl) ?_ ?_
    · rintro w5 hC5 ⟨P5, hP5, hA5⟩
      cases hP5
      skip
      go_simp
      simp only [Ord.LandsIn]
      refine (add_s x y z d vx HX.out HNM.out 7 hA5 rfl rfl rfl rfl).mono ?_
      rintro e6 w6 ⟨rfl, G, hE6⟩; simp only [List.set_cons_succ, List.set_cons_zero] at hE6; exact ⟨rfl, ⟨hE6.get 0 rfl, hE6.get 1 rfl⟩, _, rfl, G, hE6⟩
    (try simp only [Act.put, List.setIfInBounds_toArray, List.set_cons_zero, List.set_cons_succ])
    repeat (first
      | (refine Ord.ch_value (v := ?_) hT9.out (by decide) (by rfl) ?_ ?_; rotate_left; (focus (intro w5 hS; have r0 := hS.1.rule; have r1 := hS.2.rule; go_simp <;> with_reducible rfl)); (try simp only [Act.put, List.setIfInBounds_toArray, List.set_cons_zero, List.set_cons_succ]))
      | (refine Ord.ch_off hT9.out (by decide) (by rfl) ?_; (try simp only [Act.put, List.setIfInBounds_toArray, List.set_cons_zero, List.set_cons_succ])))
    refine Ord.ch_turn (v := .int .u64 (getL lc (x, y, z))) 1 hT9.out rfl (by decide) (Or.inr ⟨_, rfl, by kernel_rfl⟩) (by rfl) ?_ ?_
    · rintro w5 hC5 ⟨P5, hP5, hA5⟩
      cases hP5
      obtain ⟨G, hA5⟩ := hA5
      go_simp
      simp only [Ord.LandsIn]
      refine (add8_u x y z vx hc6 2 hA5 rfl rfl).mono ?_
      rintro e6 w6 ⟨rfl, a, hE6⟩; simp only [List.set_cons_succ, List.set_cons_zero] at hE6; exact ⟨rfl, ⟨hE6.get 0 rfl, hE6.get 1 rfl⟩, _, rfl, G, a, hE6⟩
    (try simp only [Act.put, List.setIfInBounds_toArray, List.set_cons_zero, List.set_cons_succ])
    repeat (first
      | (refine Ord.ch_value (v := ?_) hT9.out (by decide) (by rfl) ?_ ?_; rotate_left; (focus (intro w5 hS; skip; go_simp <;> with_reducible rfl)); (try simp only [Act.put, List.setIfInBounds_toArray, List.set_cons_zero, List.set_cons_succ]))
      | (refine Ord.ch_off hT9.out (by decide) (by rfl) ?_; (try simp only [Act.put, List.setIfInBounds_toArray, List.set_cons_zero, List.set_cons_succ])))
    refine Ord.InText.nil fun w5 hS => ?_
    clear hT9
    obtain ⟨hC9, hA9⟩ := Ord.chain_end hS
    clear hS
    obtain ⟨P9, hP9, hA9⟩ := hA9
    cases hP9
    obtain ⟨G, a, hA9⟩ := hA9
    clear hC9 hE
    rw [← getL_set] at hA9
    go_wp2_with fail
    go_ret
    refine ⟨by simp, ?_⟩
    exact ⟨a, v2, v3, setL lc (x, y, z) _, li, l, mp, m, S, G, _, n + 1, HSL.out _, by omega, by omega, by omega, by omega, by omega, HNN.out, hA9.sub (.cons _ (.cons _ (List.Sublist.refl _)))⟩
  by_cases h6 : kd = 6
  · subst h6
    have rP := hE.rule 0 rfl
    have rX := hE.rule 1 rfl
    go_wp2_with fail
    clear rP rX
    refine Ord.wp_chain [3, 9] (fun w' => Blk 0 w' P [.int .i64 x, .int .i64 y, .int .i64 z] ∧ Blk 0 w' X [.int .i64 6, .int .i64 x, .int .i64 y, .int .i64 z, .int .i64 d, .int .u64 ow, .int .i64 oi, .bool os, .int .u64 vx, .int .i64 vi, .bool vs]) (Stage [Env w0 [boxI P [.int .i64 x, .int .i64 y, .int .i64 z], boxI X [.int .i64 6, .int .i64 x, .int .i64 y, .int .i64 z, .int .i64 d, .int .u64 ow, .int .i64 oi, .bool os, .int .u64 vx, .int .i64 vi, .bool vs], boxI u (uv v1 v2 v3 fa (st : Nat) [vw]), rowO v1 lc, rowO v2 li, intsI v3 l, wordsI vw zs, boxI bb (sv g vr), wordsI vr zs, boxI g (gv p mp s (st : Nat) fa), leadsI mp (getL li) m, soulI s S l, wbox p c, cellI c F (getL lc) q n], fun w' => ∃ G, Env w0 [boxI P [.int .i64 x, .int .i64 y, .int .i64 z], boxI X [.int .i64 6, .int .i64 x, .int .i64 y, .int .i64 z, .int .i64 d, .int .u64 ow, .int .i64 oi, .bool os, .int .u64 vx, .int .i64 vi, .bool vs], boxI u (uv v1 v2 v3 fa (st : Nat) [vw]), rowO v1 lc, rowO v2 li, intsI v3 l, wordsI vw zs, boxI bb (sv g vr), wordsI vr zs, boxI g (gv p mp s (st : Nat) fa), leadsI mp (getL li) m, soulI s G (bornL l y), wbox p c, cellI c F (getL lc) q n] w', fun w' => ∃ G a, Env w0 [boxI P [.int .i64 x, .int .i64 y, .int .i64 z], boxI X [.int .i64 6, .int .i64 x, .int .i64 y, .int .i64 z, .int .i64 d, .int .u64 ow, .int .i64 oi, .bool os, .int .u64 vx, .int .i64 vi, .bool vs], boxI u (uv v1 v2 a fa (st : Nat) [vw]), rowO v1 lc, rowO v2 li, intsI a (bornL l y), wordsI vw zs, boxI bb (sv g vr), wordsI vr zs, boxI g (gv p mp s (st : Nat) fa), leadsI mp (getL li) m, soulI s G (bornL l y), wbox p c, cellI c F (getL lc) q n] w']) (by kernel_rfl) (by kernel_rfl) (by kernel_rfl) ⟨hE.drew.get 0 rfl, hE.drew.get 1 rfl⟩ ⟨_, rfl, hE.drew⟩ (fun hT => ?_)
    have hT9 := Lib.hid hT
    clear hT
    repeat (first
      | (refine Ord.ch_value (v := ?_) hT9.out (by decide) (by rfl) ?_ ?_; rotate_left; (focus (intro w5 hS; have r0 := hS.1.rule; have r1 := hS.2.rule; go_simp <;> with_reducible rfl)); (try simp only [Act.put, List.setIfInBounds_toArray, List.set_cons_zero, List.set_cons_succ]))
      | (refine Ord.ch_off hT9.out (by decide) (by rfl) ?_; (try simp only [Act.put, List.setIfInBounds_toArray, List.set_cons_zero, List.set_cons_succ])))
    refine Ord.ch_turn (v := .int .i64 (bornV l y)) 0 hT9.out rfl (by decide) (Or.inl rfl) (by rfl) ?_ ?_
    · rintro w5 hC5 ⟨P5, hP5, hA5⟩
      cases hP5
      skip
      go_simp
      simp only [Ord.LandsIn]
      refine (born_s y HX.out.2.1 hl5 7 hA5 rfl rfl rfl).mono ?_
      rintro e6 w6 ⟨rfl, G, hE6⟩; simp only [List.set_cons_succ, List.set_cons_zero] at hE6; exact ⟨rfl, ⟨hE6.get 0 rfl, hE6.get 1 rfl⟩, _, rfl, G, hE6⟩
    (try simp only [Act.put, List.setIfInBounds_toArray, List.set_cons_zero, List.set_cons_succ])
    repeat (first
      | (refine Ord.ch_value (v := ?_) hT9.out (by decide) (by rfl) ?_ ?_; rotate_left; (focus (intro w5 hS; have r0 := hS.1.rule; have r1 := hS.2.rule; go_simp <;> with_reducible rfl)); (try simp only [Act.put, List.setIfInBounds_toArray, List.set_cons_zero, List.set_cons_succ]))
      | (refine Ord.ch_off hT9.out (by decide) (by rfl) ?_; (try simp only [Act.put, List.setIfInBounds_toArray, List.set_cons_zero, List.set_cons_succ])))
    refine Ord.ch_turn (v := .int .i64 (bornV l y)) 1 hT9.out rfl (by decide) (Or.inr ⟨_, rfl, by kernel_rfl⟩) (by rfl) ?_ ?_
    · rintro w5 hC5 ⟨P5, hP5, hA5⟩
      cases hP5
      obtain ⟨G, hA5⟩ := hA5
      go_simp
      simp only [Ord.LandsIn]
      refine (born_u y hl5 2 2 5 (by decide) hA5 rfl rfl rfl).mono ?_
      rintro e6 w6 ⟨rfl, a, hE6⟩; simp only [List.set_cons_succ, List.set_cons_zero] at hE6; exact ⟨rfl, ⟨hE6.get 0 rfl, hE6.get 1 rfl⟩, _, rfl, G, a, hE6⟩
    (try simp only [Act.put, List.setIfInBounds_toArray, List.set_cons_zero, List.set_cons_succ])
    repeat (first
      | (refine Ord.ch_value (v := ?_) hT9.out (by decide) (by rfl) ?_ ?_; rotate_left; (focus (intro w5 hS; skip; go_simp <;> with_reducible rfl)); (try simp only [Act.put, List.setIfInBounds_toArray, List.set_cons_zero, List.set_cons_succ]))
      | (refine Ord.ch_off hT9.out (by decide) (by rfl) ?_; (try simp only [Act.put, List.setIfInBounds_toArray, List.set_cons_zero, List.set_cons_succ])))
    refine Ord.InText.nil fun w5 hS => ?_
    clear hT9
    obtain ⟨hC9, hA9⟩ := Ord.chain_end hS
    clear hS
    obtain ⟨P9, hP9, hA9⟩ := hA9
    cases hP9
    obtain ⟨G, a, hA9⟩ := hA9
    clear hC9 hE
    go_wp2_with fail
    go_ret
    refine ⟨by simp, ?_⟩
    exact ⟨v1, v2, a, lc, li, bornL l y, mp, m, G, F, _, n, by omega, by omega, by omega, by omega, by omega, by omega, HNN.out, hA9.sub (.cons _ (.cons _ (List.Sublist.refl _)))⟩
  have rP := hE.rule 0 rfl
  have rX := hE.rule 1 rfl
  go_wp2_with fail
  clear rP rX
  refine Ord.wp_chain [] (fun w' => Env w0 [boxI P [.int .i64 x, .int .i64 y, .int .i64 z], boxI X [.int .i64 kd, .int .i64 x, .int .i64 y, .int .i64 z, .int .i64 d, .int .u64 ow, .int .i64 oi, .bool os, .int .u64 vx, .int .i64 vi, .bool vs], boxI u (uv v1 v2 v3 fa (st : Nat) [vw]), rowO v1 lc, rowO v2 li, intsI v3 l, wordsI vw zs, boxI bb (sv g vr), wordsI vr zs, boxI g (gv p mp s (st : Nat) fa), leadsI mp (getL li) m, soulI s S l, wbox p c, cellI c F (getL lc) q n] w') (fun _ _ => True) (by kernel_rfl) (by kernel_rfl) (by kernel_rfl) hE.drew trivial (fun hT => ?_)
  have hT9 := Lib.hid hT
  clear hT
  repeat (first
    | (refine Ord.ch_value (v := ?_) hT9.out (by decide) (by rfl) ?_ ?_; rotate_left; (focus (intro w5 hS; have r0 := hS.rule 0 rfl; go_simp <;> with_reducible rfl)); (try simp only [Act.put, List.setIfInBounds_toArray, List.set_cons_zero, List.set_cons_succ]))
    | (refine Ord.ch_off hT9.out (by decide) (by rfl) ?_; (try simp only [Act.put, List.setIfInBounds_toArray, List.set_cons_zero, List.set_cons_succ]))
    | (refine Ord.ch_call (v := ?_) (f := ?_) (args := ?_) hT9.out (by decide) (by rfl) ?_ ?_ ?_; rotate_left 3; (focus (intro w5 hS; have r0 := hS.rule 0 rfl; go_simp; constructor <;> with_reducible rfl)); (focus (intro w5 hS; (first | (with_reducible refine (peek_s x y z HX.out 7 hS rfl rfl rfl rfl).mono ?_; rintro e w6 ⟨rfl, hb6⟩; constructor; with_reducible rfl; exact ⟨hS.over hb6, fun _ h => h⟩) | (with_reducible refine (get_u x y z hc6 0 2 3 hS rfl rfl rfl).mono ?_; rintro e w6 ⟨rfl, hb6⟩; constructor; with_reducible rfl; exact ⟨hS.over hb6, fun _ h => h⟩)))); (try simp only [Act.put, List.setIfInBounds_toArray, List.set_cons_zero, List.set_cons_succ])))
  refine Ord.InText.nil fun w5 hS => ?_
  clear hT9
  obtain ⟨hC9, hA9⟩ := Ord.chain_end hS
  clear hS
  clear hA9
  go_wp2_with fail
  go_ret
  refine ⟨by simp, ?_⟩
  exact ⟨v1, v2, v3, lc, li, l, mp, m, S, F, _, n, by omega, by omega, by omega, by omega, by omega, by omega, HNN.out, hC9.sub (.cons _ (.cons _ (List.Sublist.refl _)))⟩
end
end Go.Proofs.Ythiccboecimfjaa

/- Contracts of layer 5: a slot's place. -/
namespace Go.Proofs.Ythiccboecimfjaa
open Go.RowKit
set_option maxRecDepth 100000

set_option maxHeartbeats 400000 in
theorem placeOf_any (y z : Int) (w : World) : Calls Try.prog 29 #[.int .i64 y, .int .i64 z] w fun e w' => e = .returned (.agg #[.int .i64 5, .int .i64 y, .int .i64 z]) ∧ Below w.heap.size w w' := by
  go_enter Try.func29, Try.ntmps29
  go_wp2
  exact bodyPost_ret (v := .agg #[.int .i64 5, .int .i64 y, .int .i64 z]) (by simp [results, Try.results29, go_sem]) rfl ⟨rfl, (Below.refl _ _).alloc (Nat.le_refl _) _⟩
end Go.Proofs.Ythiccboecimfjaa

/- A memory that tells anything: answers that the document fixes. -/
namespace Go.Proofs.Ythiccboecimfjaa
open Go.RowKit Go.Maps
set_option maxRecDepth 100000

set_option maxHeartbeats 3200000 in
theorem awake10 (w : World) : Calls Try.prog 5 #[] w fun e w' => e = .returned (.bool true) ∧ Below w.heap.size w w' := by
  have hE := Env.start w
  have h1 : Hid (In64 1) := Lib.hid (by unfold In64; omega)
  have h0 : Hid (In64 0) := Lib.hid (by unfold In64; omega)
  have HW : Hid (Wf (5, 1, 3)) := Lib.hid ⟨show In64 5 by unfold In64; omega, show In64 1 by unfold In64; omega, show In64 3 by unfold In64; omega⟩
  have HM : Hid (∀ n : Nat, n ≤ 10 → n < maxLen) := Lib.hid fun n hn => by unfold maxLen; omega
  replace hE := hE.box w.heap.size rfl [.int .u64 7, .int .u64 8] 40
  have hr : InWords (w.alloc (.cells #[.int .u64 7, .int .u64 8] 40)) (some ⟨w.heap.size, 0, none⟩) [7, 8] := .inr ⟨w.heap.size, 0, rfl, by simp, fun i hi => by
    rw [Nat.zero_add, hE.rule 0 rfl i]
    simp at hi
    rcases i with _ | _ | i
    · rfl
    · rfl
    · omega⟩
  have cN := new_s (zs := [7, 8]) (cap := 2) (by decide) hE hr
  go_enter Try.func5, Try.ntmps5
  go_wp2_with fail
  refine cN.mono ?_
  clear cN hr
  rintro e w1 ⟨u, g, p, s, c, v, rfl, hE, hb⟩
  clear hb
  replace hE := hE.sub (.cons_cons _ (.cons_cons _ (.cons_cons _ (.cons_cons _ (.cons_cons _ (.cons_cons _ (.cons_cons _ (.cons _ (List.Sublist.refl _)))))))))
  go_wp2_with fail
  refine (placeOf_any 1 3 _).mono ?_
  rintro e w2 ⟨rfl, hb⟩
  replace hE := hE.over hb
  clear hb
  go_wp2_with fail
  refine (born_s 1 h1.out (by simp) 0 hE rfl rfl rfl).mono ?_
  rintro e w3 ⟨rfl, S3, hE⟩
  rw [show bornV [] 1 = 1 by decide]
  rw [show bornL [] 1 = [1] by decide] at hE
  simp only [List.set_cons_succ, List.set_cons_zero] at hE
  replace hE := hE.box w3.heap.size rfl [.int .i64 5, .int .i64 1, .int .i64 3, .int .i64 1] 46
  go_upto_region 3 with fail
  generalize w3.alloc _ = w4 at *
  generalize w3.heap.size = A at *
  have rA := hE.rule 0 rfl
  go_wp2_with fail
  refine (store_s 5 1 3 1 5 0 false HW.out (by unfold InU; omega) h0.out (HM.out 0 (by omega)) (HM.out 0 (by omega)) (by simp) 1 hE rfl rfl rfl rfl rfl rfl).mono ?_
  rintro e w5 ⟨rfl, mp5, F5, hE⟩
  rw [show faS [1] 5 1 1 false 0 = 0 by decide] at hE
  simp only [List.set_cons_succ, List.set_cons_zero] at hE
  clear rA
  have rA := hE.rule 0 rfl
  go_wp2_with fail
  refine (load_s 5 1 3 1 0 HW.out (by omega) (by simp) (by simp) 1 hE rfl rfl rfl rfl rfl rfl rfl).mono ?_
  rintro e w6 ⟨rfl, hE⟩
  rw [upd_same, upd_same, show stB [1] 5 1 1 = false by decide]
  rw [show stB [1] 5 1 1 = false by decide] at hE
  rw [show ldW [7, 8] false 0 5 = 5 from rfl, show ldI false 0 = 0 from rfl]
  simp only [List.set_cons_succ, List.set_cons_zero] at hE
  rw [show stN false 0 = 0 from rfl] at hE
  clear rA
  replace hE := hE.box w6.heap.size rfl [.int .u64 5, .int .i64 0, .bool false] 42
  go_upto_region 5 with fail
  generalize w6.alloc _ = w7 at *
  generalize w6.heap.size = U at *
  go_wp2_with fail
  refine (born_s 1 h1.out (by simp) 2 hE rfl rfl rfl).mono ?_
  rintro e w8 ⟨rfl, S8, hE⟩
  rw [show bornL [1] 1 = [1, 1] by decide] at hE
  simp only [List.set_cons_succ, List.set_cons_zero] at hE
  have hst : stB [1, 1] 5 1 1 = true := by decide
  have HST := Lib.hid hst
  clear hst
  have rA := hE.rule 1 rfl
  go_wp2_with fail
  refine (load_s 5 1 3 1 0 HW.out (by omega) (by simp) (by simp) 2 hE rfl rfl rfl rfl rfl rfl rfl).mono ?_
  rintro e w20 ⟨rfl, hE⟩
  rw [HST.out] at hE ⊢
  rw [show ∀ a, ldW [7, 8] true 0 a = 7 from fun _ => rfl, show ∀ a, ldI true a = 0 from fun _ => rfl]
  simp only [List.set_cons_succ, List.set_cons_zero] at hE
  rw [show stN true 0 = 1 from rfl] at hE
  clear rA
  replace hE := hE.box w20.heap.size rfl [.int .u64 7, .int .i64 0, .bool true] 42
  go_upto_region 7 with fail
  generalize w20.alloc _ = v0 at *
  generalize w20.heap.size = Y0 at *
  have rA := hE.rule 2 rfl
  go_wp2_with fail
  refine (load_s 5 1 3 1 1 HW.out (by omega) (by simp) (by simp) 3 hE rfl rfl rfl rfl rfl rfl rfl).mono ?_
  rintro e w21 ⟨rfl, hE⟩
  rw [HST.out] at hE ⊢
  rw [show ∀ a, ldW [7, 8] true 1 a = 8 from fun _ => rfl, show ∀ a, ldI true a = 0 from fun _ => rfl]
  simp only [List.set_cons_succ, List.set_cons_zero] at hE
  rw [show stN true 1 = 2 from rfl] at hE
  clear rA
  replace hE := hE.box w21.heap.size rfl [.int .u64 8, .int .i64 0, .bool true] 42
  go_upto_region 8 with fail
  generalize w21.alloc _ = v1 at *
  generalize w21.heap.size = Y1 at *
  have rA := hE.rule 3 rfl
  go_wp2_with fail
  refine (load_s 5 1 3 1 2 HW.out (by omega) (by simp) (by simp) 4 hE rfl rfl rfl rfl rfl rfl rfl).mono ?_
  rintro e w22 ⟨rfl, hE⟩
  rw [HST.out] at hE ⊢
  rw [show ∀ a, ldW [7, 8] true 2 a = 7 from fun _ => rfl, show ∀ a, ldI true a = 0 from fun _ => rfl]
  simp only [List.set_cons_succ, List.set_cons_zero] at hE
  rw [show stN true 2 = 3 from rfl] at hE
  clear rA
  replace hE := hE.box w22.heap.size rfl [.int .u64 7, .int .i64 0, .bool true] 42
  go_upto_region 9 with fail
  generalize w22.alloc _ = v2 at *
  generalize w22.heap.size = Y2 at *
  have rA := hE.rule 4 rfl
  have rU := hE.rule 3 rfl
  have rX := hE.rule 2 rfl
  have rY := hE.rule 1 rfl
  have rZ := hE.rule 0 rfl
  go_wp2_with fail
  refine (told_s (hE.sblk 5 rfl) (hE.gblk 7 rfl)).mono ?_
  rintro e w12 ⟨rfl, rfl⟩
  go_wp2_with fail
  refine (faults_s (hE.sblk 5 rfl) (hE.gblk 7 rfl)).mono ?_
  rintro e w13 ⟨rfl, rfl⟩
  go_wp2_with fail
  refine (peek_s 5 1 3 HW.out 5 hE rfl rfl rfl rfl).mono ?_
  rintro e w16 ⟨rfl, hb⟩
  rw [upd_same]
  replace hE := hE.over hb
  go_wp2
  go_ret
  exact ⟨rfl, hE.below⟩
end Go.Proofs.Ythiccboecimfjaa

/- Cells that aren't there: the contracts. -/
namespace Go.Proofs.Ythiccboecimfjaa
open Go.RowKit
set_option maxRecDepth 100000

section
variable (a b d v o : Int) (w : World)
theorem box_below (w : World) (vs : List Value) (t : TypeId) : Below w.heap.size w (w.alloc (.cells vs.toArray t)) := (Below.refl _ w).alloc (Nat.le_refl _) _

theorem storeNil : Calls Try.prog 62 #[.pointer none, .agg #[.int .i64 a, .int .i64 b, .int .i64 d], .int .u64 v] w fun e w' => e = .returned (.tuple #[]) ∧ Below w.heap.size w w' := by
  go_enter Try.func62, Try.ntmps62
  go_wp2
  refine bodyPost_ret (results_none rfl _ _ _) rfl ?_
  exact ⟨rfl, box_below w [.int .i64 a, .int .i64 b, .int .i64 d] _⟩
theorem loadNil : Calls Try.prog 61 #[.pointer none, .agg #[.int .i64 a, .int .i64 b, .int .i64 d]] w fun e w' => e = .returned (.int .u64 0) ∧ Below w.heap.size w w' := by
  go_enter Try.func61, Try.ntmps61
  go_wp2
  go_ret
  exact ⟨rfl, box_below w [.int .i64 a, .int .i64 b, .int .i64 d] _⟩
theorem peekNil : Calls Try.prog 69 #[.pointer none, .agg #[.int .i64 a, .int .i64 b, .int .i64 d]] w fun e w' => e = .returned (.int .u64 0) ∧ Below w.heap.size w w' := by
  go_enter Try.func69, Try.ntmps69
  go_wp2
  go_ret
  exact ⟨rfl, box_below w [.int .i64 a, .int .i64 b, .int .i64 d] _⟩
theorem addNil : Calls Try.prog 64 #[.pointer none, .agg #[.int .i64 a, .int .i64 b, .int .i64 d], .int .u64 v] w fun e w' => e = .returned (.int .u64 0) ∧ Below w.heap.size w w' := by
  go_enter Try.func64, Try.ntmps64
  go_wp2
  go_ret
  exact ⟨rfl, box_below w [.int .i64 a, .int .i64 b, .int .i64 d] _⟩
theorem swapNil : Calls Try.prog 63 #[.pointer none, .agg #[.int .i64 a, .int .i64 b, .int .i64 d], .int .u64 o, .int .u64 v] w fun e w' => e = .returned (.bool false) ∧ Below w.heap.size w w' := by
  go_enter Try.func63, Try.ntmps63
  go_wp2
  go_ret
  exact ⟨rfl, box_below w [.int .i64 a, .int .i64 b, .int .i64 d] _⟩
theorem countNil : Calls Try.prog 66 #[.pointer none] w fun e w' => e = .returned (.agg #[.int .i64 0, .int .i64 0, .int .i64 0, .int .i64 0, .int .i64 0]) ∧ Below w.heap.size w w' := by
  go_enter Try.func66, Try.ntmps66
  go_wp2
  refine bodyPost_ret (v := .agg #[.int .i64 0, .int .i64 0, .int .i64 0, .int .i64 0, .int .i64 0]) (by simp [results, Try.results66, go_sem]) rfl ⟨rfl, ?_⟩
  exact (Below.refl _ _).alloc (Nat.le_refl _) _
end
end Go.Proofs.Ythiccboecimfjaa

/- Shared cells that are nil: their copy. -/
namespace Go.Proofs.Ythiccboecimfjaa
open Go.RowKit
set_option maxRecDepth 100000

section
variable (w : World)
theorem copyNil : Calls Try.prog 65 #[.pointer none] w fun e w' => e = .returned (.pointer none) ∧ Below w.heap.size w w' := by
  go_enter Try.func65, Try.ntmps65
  go_wp2
  go_ret
  exact ⟨rfl, Below.refl _ _⟩
end
end Go.Proofs.Ythiccboecimfjaa

/- A plain world that isn't there: of nothing there is nothing. -/
namespace Go.Proofs.Ythiccboecimfjaa
open Go.RowKit
set_option maxRecDepth 100000

theorem kept_nil (w : World) : Calls Try.prog 60 #[.pointer none] w fun e w' => e = .returned (.pointer none) ∧ w' = w := by
  go_enter Try.func60, Try.ntmps60
  go_wp2
  go_ret
  exact ⟨rfl, rfl⟩
section
variable (x y z d v e o oe : Int) (b ob : Bool) (w : World)
set_option maxHeartbeats 800000 in
theorem storeNil_w : Calls Try.prog 44 #[.pointer none, .agg #[.int .i64 x, .int .i64 y, .int .i64 z, .int .i64 d], .agg #[.int .u64 v, .int .i64 e, .bool b]] w fun e w' => e = .returned (.tuple #[]) ∧ Below w.heap.size w w' := by
  have hE := (((Env.start w).box w.heap.size rfl [.int .i64 x, .int .i64 y, .int .i64 z, .int .i64 d] 46).box (w.heap.size + 1) (by simp) [.int .u64 v, .int .i64 e, .bool b] 42)
  go_enter Try.func44, Try.ntmps44
  go_wp2_with fail
  refine Ord.wp_chain [] (fun w' => Env w [boxI (w.heap.size + 1) [.int .u64 v, .int .i64 e, .bool b] , boxI (w.heap.size) [.int .i64 x, .int .i64 y, .int .i64 z, .int .i64 d]] w') (fun _ _ => True) (by kernel_rfl) (by kernel_rfl) (by kernel_rfl) hE.drew trivial (fun hT => ?_)
  have hT9 := Lib.hid hT
  clear hT
  repeat (first
    | (refine Ord.ch_value (v := ?_) hT9.out (by decide) (by rfl) ?_ ?_; rotate_left; (focus (intro w5 hS; have r0 := hS.rule 0 rfl; have r1 := hS.rule 1 rfl; go_simp <;> with_reducible rfl)); (try simp only [Act.put, List.setIfInBounds_toArray, List.set_cons_zero, List.set_cons_succ]))
    | (refine Ord.ch_off hT9.out (by decide) (by rfl) ?_; (try simp only [Act.put, List.setIfInBounds_toArray, List.set_cons_zero, List.set_cons_succ]))
    | (refine Ord.ch_call (v := ?_) (f := ?_) (args := ?_) hT9.out (by decide) (by rfl) ?_ ?_ ?_; rotate_left 3; (focus (intro w5 hS; have r0 := hS.rule 0 rfl; have r1 := hS.rule 1 rfl; go_simp; constructor <;> with_reducible rfl)); (focus (intro w5 hS; (first | (with_reducible refine (kept_nil _).mono ?_; rintro e w6 ⟨rfl, rfl⟩; constructor; with_reducible rfl; exact ⟨hS, fun _ h => h⟩) | (with_reducible refine (storeNil _ _ _ _ _).mono ?_; rintro e w6 ⟨rfl, hb6⟩; constructor; with_reducible rfl; exact ⟨hS.over hb6, fun _ h => h⟩)))); (try simp only [Act.put, List.setIfInBounds_toArray, List.set_cons_zero, List.set_cons_succ])))
  refine Ord.InText.nil fun w5 hS => ?_
  clear hT9
  obtain ⟨hC9, hA9⟩ := Ord.chain_end hS
  clear hS
  clear hA9
  go_wp2
  (first | go_end0 | go_ret)
  exact ⟨rfl, hC9.below⟩
set_option maxHeartbeats 800000 in
theorem swapNil_w : Calls Try.prog 46 #[.pointer none, .agg #[.int .i64 x, .int .i64 y, .int .i64 z, .int .i64 d], .agg #[.int .u64 o, .int .i64 oe, .bool ob], .agg #[.int .u64 v, .int .i64 e, .bool b]] w fun e w' => e = .returned (.bool false) ∧ Below w.heap.size w w' := by
  have hE := ((((Env.start w).box w.heap.size rfl [.int .i64 x, .int .i64 y, .int .i64 z, .int .i64 d] 46).box (w.heap.size + 1) (by simp) [.int .u64 o, .int .i64 oe, .bool ob] 42).box (w.heap.size + 1 + 1) (by simp) [.int .u64 v, .int .i64 e, .bool b] 42)
  go_enter Try.func46, Try.ntmps46
  go_wp2_with fail
  refine Ord.wp_chain [] (fun w' => Env w [boxI (w.heap.size + 1 + 1) [.int .u64 v, .int .i64 e, .bool b] , boxI (w.heap.size + 1) [.int .u64 o, .int .i64 oe, .bool ob] , boxI (w.heap.size) [.int .i64 x, .int .i64 y, .int .i64 z, .int .i64 d]] w') (fun _ _ => True) (by kernel_rfl) (by kernel_rfl) (by kernel_rfl) hE.drew trivial (fun hT => ?_)
  have hT9 := Lib.hid hT
  clear hT
  repeat (first
    | (refine Ord.ch_value (v := ?_) hT9.out (by decide) (by rfl) ?_ ?_; rotate_left; (focus (intro w5 hS; have r0 := hS.rule 0 rfl; have r1 := hS.rule 1 rfl; have r2 := hS.rule 2 rfl; go_simp <;> with_reducible rfl)); (try simp only [Act.put, List.setIfInBounds_toArray, List.set_cons_zero, List.set_cons_succ]))
    | (refine Ord.ch_off hT9.out (by decide) (by rfl) ?_; (try simp only [Act.put, List.setIfInBounds_toArray, List.set_cons_zero, List.set_cons_succ]))
    | (refine Ord.ch_call (v := ?_) (f := ?_) (args := ?_) hT9.out (by decide) (by rfl) ?_ ?_ ?_; rotate_left 3; (focus (intro w5 hS; have r0 := hS.rule 0 rfl; have r1 := hS.rule 1 rfl; have r2 := hS.rule 2 rfl; go_simp; constructor <;> with_reducible rfl)); (focus (intro w5 hS; (first | (with_reducible refine (kept_nil _).mono ?_; rintro e w6 ⟨rfl, rfl⟩; constructor; with_reducible rfl; exact ⟨hS, fun _ h => h⟩) | (with_reducible refine (swapNil _ _ _ _ _ _).mono ?_; rintro e w6 ⟨rfl, hb6⟩; constructor; with_reducible rfl; exact ⟨hS.over hb6, fun _ h => h⟩)))); (try simp only [Act.put, List.setIfInBounds_toArray, List.set_cons_zero, List.set_cons_succ])))
  refine Ord.InText.nil fun w5 hS => ?_
  clear hT9
  obtain ⟨hC9, hA9⟩ := Ord.chain_end hS
  clear hS
  clear hA9
  go_wp2
  (first | go_end0 | go_ret)
  exact ⟨rfl, hC9.below⟩
set_option maxHeartbeats 800000 in
theorem addNil_w : Calls Try.prog 48 #[.pointer none, .agg #[.int .i64 x, .int .i64 y, .int .i64 z, .int .i64 d], .int .u64 v] w fun e w' => e = .returned (.int .u64 0) ∧ Below w.heap.size w w' := by
  have hE := ((Env.start w).box w.heap.size rfl [.int .i64 x, .int .i64 y, .int .i64 z, .int .i64 d] 46)
  go_enter Try.func48, Try.ntmps48
  go_wp2_with fail
  refine Ord.wp_chain [] (fun w' => Env w [boxI (w.heap.size) [.int .i64 x, .int .i64 y, .int .i64 z, .int .i64 d]] w') (fun _ _ => True) (by kernel_rfl) (by kernel_rfl) (by kernel_rfl) hE.drew trivial (fun hT => ?_)
  have hT9 := Lib.hid hT
  clear hT
  repeat (first
    | (refine Ord.ch_value (v := ?_) hT9.out (by decide) (by rfl) ?_ ?_; rotate_left; (focus (intro w5 hS; have r0 := hS.rule 0 rfl; go_simp <;> with_reducible rfl)); (try simp only [Act.put, List.setIfInBounds_toArray, List.set_cons_zero, List.set_cons_succ]))
    | (refine Ord.ch_off hT9.out (by decide) (by rfl) ?_; (try simp only [Act.put, List.setIfInBounds_toArray, List.set_cons_zero, List.set_cons_succ]))
    | (refine Ord.ch_call (v := ?_) (f := ?_) (args := ?_) hT9.out (by decide) (by rfl) ?_ ?_ ?_; rotate_left 3; (focus (intro w5 hS; have r0 := hS.rule 0 rfl; go_simp; constructor <;> with_reducible rfl)); (focus (intro w5 hS; (first | (with_reducible refine (kept_nil _).mono ?_; rintro e w6 ⟨rfl, rfl⟩; constructor; with_reducible rfl; exact ⟨hS, fun _ h => h⟩) | (with_reducible refine (addNil _ _ _ _ _).mono ?_; rintro e w6 ⟨rfl, hb6⟩; constructor; with_reducible rfl; exact ⟨hS.over hb6, fun _ h => h⟩)))); (try simp only [Act.put, List.setIfInBounds_toArray, List.set_cons_zero, List.set_cons_succ])))
  refine Ord.InText.nil fun w5 hS => ?_
  clear hT9
  obtain ⟨hC9, hA9⟩ := Ord.chain_end hS
  clear hS
  clear hA9
  go_wp2
  (first | go_end0 | go_ret)
  exact ⟨rfl, hC9.below⟩
set_option maxHeartbeats 800000 in
theorem peekNil_w : Calls Try.prog 57 #[.pointer none, .agg #[.int .i64 x, .int .i64 y, .int .i64 z]] w fun e w' => e = .returned (.int .u64 0) ∧ Below w.heap.size w w' := by
  have hE := ((Env.start w).box w.heap.size rfl [.int .i64 x, .int .i64 y, .int .i64 z] 44)
  go_enter Try.func57, Try.ntmps57
  go_wp2_with fail
  refine Ord.wp_chain [] (fun w' => Env w [boxI (w.heap.size) [.int .i64 x, .int .i64 y, .int .i64 z]] w') (fun _ _ => True) (by kernel_rfl) (by kernel_rfl) (by kernel_rfl) hE.drew trivial (fun hT => ?_)
  have hT9 := Lib.hid hT
  clear hT
  repeat (first
    | (refine Ord.ch_value (v := ?_) hT9.out (by decide) (by rfl) ?_ ?_; rotate_left; (focus (intro w5 hS; have r0 := hS.rule 0 rfl; go_simp <;> with_reducible rfl)); (try simp only [Act.put, List.setIfInBounds_toArray, List.set_cons_zero, List.set_cons_succ]))
    | (refine Ord.ch_off hT9.out (by decide) (by rfl) ?_; (try simp only [Act.put, List.setIfInBounds_toArray, List.set_cons_zero, List.set_cons_succ]))
    | (refine Ord.ch_call (v := ?_) (f := ?_) (args := ?_) hT9.out (by decide) (by rfl) ?_ ?_ ?_; rotate_left 3; (focus (intro w5 hS; have r0 := hS.rule 0 rfl; go_simp; constructor <;> with_reducible rfl)); (focus (intro w5 hS; (first | (with_reducible refine (kept_nil _).mono ?_; rintro e w6 ⟨rfl, rfl⟩; constructor; with_reducible rfl; exact ⟨hS, fun _ h => h⟩) | (with_reducible refine (peekNil _ _ _ _).mono ?_; rintro e w6 ⟨rfl, hb6⟩; constructor; with_reducible rfl; exact ⟨hS.over hb6, fun _ h => h⟩)))); (try simp only [Act.put, List.setIfInBounds_toArray, List.set_cons_zero, List.set_cons_succ])))
  refine Ord.InText.nil fun w5 hS => ?_
  clear hT9
  obtain ⟨hC9, hA9⟩ := Ord.chain_end hS
  clear hS
  clear hA9
  go_wp2
  (first | go_end0 | go_ret)
  exact ⟨rfl, hC9.below⟩
set_option maxHeartbeats 1600000 in
theorem loadNil_w : Calls Try.prog 43 #[.pointer none, .agg #[.int .i64 x, .int .i64 y, .int .i64 z, .int .i64 d]] w fun e w' => e = .returned (.agg #[.int .u64 0, .int .i64 0, .bool false]) ∧ Below w.heap.size w w' := by
  have hE := ((Env.start w).box w.heap.size rfl [.int .i64 x, .int .i64 y, .int .i64 z, .int .i64 d] 46).box (w.heap.size + 1) (by simp) [.int .u64 0, .int .i64 0, .bool false] 42
  go_enter Try.func43, Try.ntmps43
  go_wp2_with fail
  refine Ord.wp_chain [6] (fun w' => Env w [boxI (w.heap.size + 1) [.int .u64 0, .int .i64 0, .bool false], boxI w.heap.size [.int .i64 x, .int .i64 y, .int .i64 z, .int .i64 d]] w') (fun _ _ => True) (by kernel_rfl) (by kernel_rfl) (by kernel_rfl) hE.drew trivial (fun hT => ?_)
  have hT9 := Lib.hid hT
  clear hT
  repeat (first
    | (refine Ord.ch_value (v := ?_) hT9.out (by decide) (by rfl) ?_ ?_; rotate_left; (focus (intro w5 hS; have r0 := hS.rule 0 rfl; have r1 := hS.rule 1 rfl; go_simp <;> with_reducible rfl)); (try simp only [Act.put, List.setIfInBounds_toArray, List.set_cons_zero, List.set_cons_succ]))
    | (refine Ord.ch_off hT9.out (by decide) (by rfl) ?_; (try simp only [Act.put, List.setIfInBounds_toArray, List.set_cons_zero, List.set_cons_succ]))
    | (refine Ord.ch_call (v := ?_) (f := ?_) (args := ?_) hT9.out (by decide) (by rfl) ?_ ?_ ?_; rotate_left 3; (focus (intro w5 hS; have r0 := hS.rule 0 rfl; have r1 := hS.rule 1 rfl; go_simp; constructor <;> with_reducible rfl)); (focus (intro w5 hS; (first | (with_reducible refine (kept_nil _).mono ?_; rintro e w6 ⟨rfl, rfl⟩; constructor; with_reducible rfl; exact ⟨hS, fun _ h => h⟩) | (with_reducible refine (loadNil _ _ _ _).mono ?_; rintro e w6 ⟨rfl, hb6⟩; constructor; with_reducible rfl; exact ⟨hS.over hb6, fun _ h => h⟩)))); (try simp only [Act.put, List.setIfInBounds_toArray, List.set_cons_zero, List.set_cons_succ])))
  refine Ord.ch_turn (v := undef) 0 hT9.out rfl (by decide) (Or.inl rfl) (by rfl) ?_ ?_
  · rintro w5 hC5 _
    have r := hC5.rule 0 rfl
    have f := hC5.thaw 0 rfl
    have f0 := f 0 (by simp)
    have f1 := f 1 (by simp)
    have f2 := f 2 (by simp)
    clear f
    go_simp
    exact ⟨rfl, hC5.put3 0 rfl (.int .u64 0) (.int .i64 0) (.bool false)⟩
  (try simp only [Act.put, List.setIfInBounds_toArray, List.set_cons_zero, List.set_cons_succ])
  repeat (first
    | (refine Ord.ch_value (v := ?_) hT9.out (by decide) (by rfl) ?_ ?_; rotate_left; (focus (intro w5 hS; skip; go_simp <;> with_reducible rfl)); (try simp only [Act.put, List.setIfInBounds_toArray, List.set_cons_zero, List.set_cons_succ]))
    | (refine Ord.ch_off hT9.out (by decide) (by rfl) ?_; (try simp only [Act.put, List.setIfInBounds_toArray, List.set_cons_zero, List.set_cons_succ])))
  refine Ord.InText.nil fun w5 hS => ?_
  clear hT9
  obtain ⟨hC9, hA9⟩ := Ord.chain_end hS
  clear hS
  have q9 := hC9.rule 0 rfl
  go_wp2
  exact bodyPost_ret (v := .agg #[.int .u64 0, .int .i64 0, .bool false]) (by simp [results, Try.results43, go_sem, q9]) rfl ⟨rfl, hC9.below⟩
set_option maxHeartbeats 1600000 in
theorem countNil_w : Calls Try.prog 53 #[.pointer none] w fun e w' => e = .returned (.agg #[.int .i64 0, .int .i64 0, .int .i64 0, .int .i64 0, .int .i64 0]) ∧ Below w.heap.size w w' := by
  have hE := (Env.start w).box w.heap.size rfl [.int .i64 0, .int .i64 0, .int .i64 0, .int .i64 0, .int .i64 0] 58
  go_enter Try.func53, Try.ntmps53
  go_wp2_with fail
  refine (kept_nil _).mono ?_
  rintro e w1 ⟨rfl, rfl⟩
  go_wp2_with fail
  refine (countNil _).mono ?_
  rintro e w2 ⟨rfl, hb2⟩
  have hE2 := hE.over hb2
  have f5 := hE2.thaw 0 rfl
  have f0 := f5 0 (by simp)
  have f1 := f5 1 (by simp)
  have f2 := f5 2 (by simp)
  have f3 := f5 3 (by simp)
  have f4 := f5 4 (by simp)
  have r := hE2.rule 0 rfl
  clear f5
  go_wp2
  have hP := hE2.put5 0 rfl (.int .i64 0) (.int .i64 0) (.int .i64 0) (.int .i64 0) (.int .i64 0)
  have q9 := hP.rule 0 rfl
  exact bodyPost_ret (v := .agg #[.int .i64 0, .int .i64 0, .int .i64 0, .int .i64 0, .int .i64 0]) (by simp [results, Try.results53, go_sem, q9]) rfl ⟨rfl, hP.below⟩
theorem cellsNil_w : Calls Try.prog 52 #[.pointer none] w fun e w' => e = .returned (.pointer none) ∧ Below w.heap.size w w' := by
  go_enter Try.func52, Try.ntmps52
  go_wp2_with fail
  refine (kept_nil _).mono ?_
  rintro e w1 ⟨rfl, rfl⟩
  go_wp2_with fail
  refine (copyNil _).mono ?_
  rintro e w2 ⟨rfl, hb2⟩
  go_wp2
  go_ret
  exact ⟨rfl, hb2⟩
end
end Go.Proofs.Ythiccboecimfjaa

/- A watched world that isn't there: of nothing there is nothing. -/
namespace Go.Proofs.Ythiccboecimfjaa
open Go.RowKit
set_option maxRecDepth 100000

section
variable (x y z d v e o oe : Int) (b ob : Bool) (w : World)
theorem watchedNil : Calls Try.prog 47 #[.pointer none] w fun e w' => e = .returned (.pointer none) ∧ w' = w := by
  go_enter Try.func47, Try.ntmps47
  go_wp2
  go_ret
  exact ⟨rfl, rfl⟩
theorem soulsNil : Calls Try.prog 49 #[.pointer none] w fun e w' => e = .returned (.pointer none) ∧ w' = w := by
  go_enter Try.func49, Try.ntmps49
  go_wp2
  go_ret
  exact ⟨rfl, rfl⟩
theorem staleNil : Calls Try.prog 25 #[.pointer none] w fun e w' => e = .returned (.int .i64 0) ∧ w' = w := by
  go_enter Try.func25, Try.ntmps25
  go_wp2
  go_ret
  exact ⟨rfl, rfl⟩
theorem faultsNil : Calls Try.prog 24 #[.pointer none] w fun e w' => e = .returned (.int .i64 0) ∧ w' = w := by
  go_enter Try.func24, Try.ntmps24
  go_wp2
  go_ret
  exact ⟨rfl, rfl⟩
set_option maxHeartbeats 800000 in
theorem storeNil_g : Calls Try.prog 20 #[.pointer none, .agg #[.int .i64 x, .int .i64 y, .int .i64 z, .int .i64 d], .agg #[.int .u64 v, .int .i64 e, .bool b]] w fun e w' => e = .returned (.tuple #[]) ∧ Below w.heap.size w w' := by
  have hE := (((Env.start w).box w.heap.size rfl [.int .i64 x, .int .i64 y, .int .i64 z, .int .i64 d] 46).box (w.heap.size + 1) (by simp) [.int .u64 v, .int .i64 e, .bool b] 42)
  go_enter Try.func20, Try.ntmps20
  go_wp2
  (first | go_end0 | refine bodyPost_ret (results_none rfl _ _ _) rfl ?_)
  exact ⟨rfl, hE.below⟩
set_option maxHeartbeats 800000 in
theorem loadNil_g : Calls Try.prog 19 #[.pointer none, .agg #[.int .i64 x, .int .i64 y, .int .i64 z, .int .i64 d]] w fun e w' => e = .returned (.agg #[.int .u64 0, .int .i64 0, .bool false]) ∧ Below w.heap.size w w' := by
  have hE := ((Env.start w).box w.heap.size rfl [.int .i64 x, .int .i64 y, .int .i64 z, .int .i64 d] 46).box (w.heap.size + 1) (by simp) [.int .u64 0, .int .i64 0, .bool false] 42
  go_enter Try.func19, Try.ntmps19
  go_wp2
  refine bodyPost_ret (v := .agg #[.int .u64 0, .int .i64 0, .bool false]) (by simp [results, Try.results19, go_sem]) rfl ⟨rfl, hE.below⟩
set_option maxHeartbeats 800000 in
theorem swapNil_g : Calls Try.prog 21 #[.pointer none, .agg #[.int .i64 x, .int .i64 y, .int .i64 z, .int .i64 d], .agg #[.int .u64 o, .int .i64 oe, .bool ob], .agg #[.int .u64 v, .int .i64 e, .bool b]] w fun e w' => e = .returned (.bool false) ∧ Below w.heap.size w w' := by
  have hE := ((((Env.start w).box w.heap.size rfl [.int .i64 x, .int .i64 y, .int .i64 z, .int .i64 d] 46).box (w.heap.size + 1) (by simp) [.int .u64 o, .int .i64 oe, .bool ob] 42).box (w.heap.size + 1 + 1) (by simp) [.int .u64 v, .int .i64 e, .bool b] 42)
  go_enter Try.func21, Try.ntmps21
  go_wp2_with fail
  refine Ord.wp_chain [] (fun w' => Env w [boxI (w.heap.size + 1 + 1) [.int .u64 v, .int .i64 e, .bool b] , boxI (w.heap.size + 1) [.int .u64 o, .int .i64 oe, .bool ob] , boxI (w.heap.size) [.int .i64 x, .int .i64 y, .int .i64 z, .int .i64 d]] w') (fun _ _ => True) (by kernel_rfl) (by kernel_rfl) (by kernel_rfl) hE.drew trivial (fun hT => ?_)
  have hT9 := Lib.hid hT
  clear hT
  repeat (first
    | (refine Ord.ch_value (v := ?_) hT9.out (by decide) (by rfl) ?_ ?_; rotate_left; (focus (intro w5 hS; skip; go_simp <;> with_reducible rfl)); (try simp only [Act.put, List.setIfInBounds_toArray, List.set_cons_zero, List.set_cons_succ]))
    | (refine Ord.ch_off hT9.out (by decide) (by rfl) ?_; (try simp only [Act.put, List.setIfInBounds_toArray, List.set_cons_zero, List.set_cons_succ]))
    | (refine Ord.ch_call (v := ?_) (f := ?_) (args := ?_) hT9.out (by decide) (by rfl) ?_ ?_ ?_; rotate_left 3; (focus (intro w5 hS; skip; go_simp; constructor <;> with_reducible rfl)); (focus (intro w5 hS; (first | fail))); (try simp only [Act.put, List.setIfInBounds_toArray, List.set_cons_zero, List.set_cons_succ])))
  refine Ord.InText.nil fun w5 hS => ?_
  clear hT9
  obtain ⟨hC9, hA9⟩ := Ord.chain_end hS
  clear hS
  clear hA9
  go_wp2
  go_ret
  exact ⟨rfl, hC9.below⟩
set_option maxHeartbeats 800000 in
theorem addNil_g : Calls Try.prog 22 #[.pointer none, .agg #[.int .i64 x, .int .i64 y, .int .i64 z, .int .i64 d], .int .u64 v] w fun e w' => e = .returned (.int .u64 0) ∧ Below w.heap.size w w' := by
  have hE := ((Env.start w).box w.heap.size rfl [.int .i64 x, .int .i64 y, .int .i64 z, .int .i64 d] 46)
  go_enter Try.func22, Try.ntmps22
  go_wp2_with fail
  refine Ord.wp_chain [] (fun w' => Env w [boxI (w.heap.size) [.int .i64 x, .int .i64 y, .int .i64 z, .int .i64 d]] w') (fun _ _ => True) (by kernel_rfl) (by kernel_rfl) (by kernel_rfl) hE.drew trivial (fun hT => ?_)
  have hT9 := Lib.hid hT
  clear hT
  repeat (first
    | (refine Ord.ch_value (v := ?_) hT9.out (by decide) (by rfl) ?_ ?_; rotate_left; (focus (intro w5 hS; have r0 := hS.rule 0 rfl; go_simp <;> with_reducible rfl)); (try simp only [Act.put, List.setIfInBounds_toArray, List.set_cons_zero, List.set_cons_succ]))
    | (refine Ord.ch_off hT9.out (by decide) (by rfl) ?_; (try simp only [Act.put, List.setIfInBounds_toArray, List.set_cons_zero, List.set_cons_succ]))
    | (refine Ord.ch_call (v := ?_) (f := ?_) (args := ?_) hT9.out (by decide) (by rfl) ?_ ?_ ?_; rotate_left 3; (focus (intro w5 hS; have r0 := hS.rule 0 rfl; go_simp; constructor <;> with_reducible rfl)); (focus (intro w5 hS; (first | (with_reducible refine (watchedNil _).mono ?_; rintro e w6 ⟨rfl, rfl⟩; constructor; with_reducible rfl; exact ⟨hS, fun _ h => h⟩) | (with_reducible refine (addNil_w _ _ _ _ _ _).mono ?_; rintro e w6 ⟨rfl, hb6⟩; constructor; with_reducible rfl; exact ⟨hS.over hb6, fun _ h => h⟩)))); (try simp only [Act.put, List.setIfInBounds_toArray, List.set_cons_zero, List.set_cons_succ])))
  refine Ord.InText.nil fun w5 hS => ?_
  clear hT9
  obtain ⟨hC9, hA9⟩ := Ord.chain_end hS
  clear hS
  clear hA9
  go_wp2
  go_ret
  exact ⟨rfl, hC9.below⟩
set_option maxHeartbeats 800000 in
theorem bornNil_g : Calls Try.prog 23 #[.pointer none, .int .i64 x] w fun e w' => e = .returned (.int .i64 0) ∧ w' = w := by
  go_enter Try.func23, Try.ntmps23
  go_wp2_with fail
  refine (soulsNil _).mono ?_
  rintro e w1 ⟨rfl, rfl⟩
  go_wp2_with fail
  refine (born_low (s := none) x (.inl rfl)).mono ?_
  rintro e w1 ⟨rfl, rfl⟩
  go_wp2
  go_ret
  exact ⟨rfl, rfl⟩
set_option maxHeartbeats 800000 in
theorem peekNil_g : Calls Try.prog 39 #[.pointer none, .agg #[.int .i64 x, .int .i64 y, .int .i64 z]] w fun e w' => e = .returned (.int .u64 0) ∧ Below w.heap.size w w' := by
  have hE := ((Env.start w).box w.heap.size rfl [.int .i64 x, .int .i64 y, .int .i64 z] 44)
  go_enter Try.func39, Try.ntmps39
  go_wp2_with fail
  refine Ord.wp_chain [] (fun w' => Env w [boxI (w.heap.size) [.int .i64 x, .int .i64 y, .int .i64 z]] w') (fun _ _ => True) (by kernel_rfl) (by kernel_rfl) (by kernel_rfl) hE.drew trivial (fun hT => ?_)
  have hT9 := Lib.hid hT
  clear hT
  repeat (first
    | (refine Ord.ch_value (v := ?_) hT9.out (by decide) (by rfl) ?_ ?_; rotate_left; (focus (intro w5 hS; have r0 := hS.rule 0 rfl; go_simp <;> with_reducible rfl)); (try simp only [Act.put, List.setIfInBounds_toArray, List.set_cons_zero, List.set_cons_succ]))
    | (refine Ord.ch_off hT9.out (by decide) (by rfl) ?_; (try simp only [Act.put, List.setIfInBounds_toArray, List.set_cons_zero, List.set_cons_succ]))
    | (refine Ord.ch_call (v := ?_) (f := ?_) (args := ?_) hT9.out (by decide) (by rfl) ?_ ?_ ?_; rotate_left 3; (focus (intro w5 hS; have r0 := hS.rule 0 rfl; go_simp; constructor <;> with_reducible rfl)); (focus (intro w5 hS; (first | (with_reducible refine (watchedNil _).mono ?_; rintro e w6 ⟨rfl, rfl⟩; constructor; with_reducible rfl; exact ⟨hS, fun _ h => h⟩) | (with_reducible refine (peekNil_w _ _ _ _).mono ?_; rintro e w6 ⟨rfl, hb6⟩; constructor; with_reducible rfl; exact ⟨hS.over hb6, fun _ h => h⟩)))); (try simp only [Act.put, List.setIfInBounds_toArray, List.set_cons_zero, List.set_cons_succ])))
  refine Ord.InText.nil fun w5 hS => ?_
  clear hT9
  obtain ⟨hC9, hA9⟩ := Ord.chain_end hS
  clear hS
  clear hA9
  go_wp2
  go_ret
  exact ⟨rfl, hC9.below⟩
set_option maxHeartbeats 1600000 in
theorem countNil_g : Calls Try.prog 28 #[.pointer none] w fun e w' => e = .returned (.agg #[.int .i64 0, .int .i64 0, .int .i64 0, .int .i64 0, .int .i64 0]) ∧ Below w.heap.size w w' := by
  have hE := (Env.start w).box w.heap.size rfl [.int .i64 0, .int .i64 0, .int .i64 0, .int .i64 0, .int .i64 0] 58
  go_enter Try.func28, Try.ntmps28
  go_wp2_with fail
  refine (watchedNil _).mono ?_
  rintro e w1 ⟨rfl, rfl⟩
  go_wp2_with fail
  refine (countNil_w _).mono ?_
  rintro e w2 ⟨rfl, hb2⟩
  have hE2 := hE.over hb2
  have f5 := hE2.thaw 0 rfl
  have f0 := f5 0 (by simp)
  have f1 := f5 1 (by simp)
  have f2 := f5 2 (by simp)
  have f3 := f5 3 (by simp)
  have f4 := f5 4 (by simp)
  have r := hE2.rule 0 rfl
  clear f5
  go_wp2
  have hP := hE2.put5 0 rfl (.int .i64 0) (.int .i64 0) (.int .i64 0) (.int .i64 0) (.int .i64 0)
  have q9 := hP.rule 0 rfl
  exact bodyPost_ret (v := .agg #[.int .i64 0, .int .i64 0, .int .i64 0, .int .i64 0, .int .i64 0]) (by simp [results, Try.results28, go_sem, q9]) rfl ⟨rfl, hP.below⟩
theorem cellsNil_g : Calls Try.prog 27 #[.pointer none] w fun e w' => e = .returned (.pointer none) ∧ Below w.heap.size w w' := by
  go_enter Try.func27, Try.ntmps27
  go_wp2_with fail
  refine (watchedNil _).mono ?_
  rintro e w1 ⟨rfl, rfl⟩
  go_wp2_with fail
  refine (cellsNil_w _).mono ?_
  rintro e w2 ⟨rfl, hb2⟩
  go_wp2
  go_ret
  exact ⟨rfl, hb2⟩
end
end Go.Proofs.Ythiccboecimfjaa

/- A shade that isn't there: of nothing there is nothing. -/
namespace Go.Proofs.Ythiccboecimfjaa
open Go.RowKit
set_option maxRecDepth 100000

section
variable (x y z d v e o oe : Int) (b ob : Bool) (w : World)
theorem watchedNil_s : Calls Try.prog 37 #[.pointer none] w fun e w' => e = .returned (.pointer none) ∧ w' = w := by
  go_enter Try.func37, Try.ntmps37
  go_wp2
  go_ret
  exact ⟨rfl, rfl⟩
theorem toldNil_s : Calls Try.prog 8 #[.pointer none] w fun e w' => e = .returned (.int .i64 0) ∧ w' = w := by
  go_enter Try.func8, Try.ntmps8
  go_wp2_with fail
  refine (watchedNil_s _).mono ?_
  rintro e w1 ⟨rfl, rfl⟩
  go_wp2_with fail
  refine (staleNil _).mono ?_
  rintro e w1 ⟨rfl, rfl⟩
  go_wp2
  go_ret
  exact ⟨rfl, rfl⟩
theorem faultsNil_s : Calls Try.prog 9 #[.pointer none] w fun e w' => e = .returned (.int .i64 0) ∧ w' = w := by
  go_enter Try.func9, Try.ntmps9
  go_wp2_with fail
  refine (watchedNil_s _).mono ?_
  rintro e w1 ⟨rfl, rfl⟩
  go_wp2_with fail
  refine (faultsNil _).mono ?_
  rintro e w1 ⟨rfl, rfl⟩
  go_wp2
  go_ret
  exact ⟨rfl, rfl⟩
theorem bornNil_s : Calls Try.prog 14 #[.pointer none, .int .i64 x] w fun e w' => e = .returned (.int .i64 0) ∧ w' = w := by
  go_enter Try.func14, Try.ntmps14
  go_wp2_with fail
  refine (watchedNil_s _).mono ?_
  rintro e w1 ⟨rfl, rfl⟩
  go_wp2_with fail
  refine (bornNil_g _ _).mono ?_
  rintro e w1 ⟨rfl, rfl⟩
  go_wp2
  go_ret
  exact ⟨rfl, rfl⟩
set_option maxHeartbeats 800000 in
theorem storeNil_s : Calls Try.prog 10 #[.pointer none, .agg #[.int .i64 x, .int .i64 y, .int .i64 z, .int .i64 d], .agg #[.int .u64 v, .int .i64 e, .bool b]] w fun e w' => e = .returned (.tuple #[]) ∧ Below w.heap.size w w' := by
  have hE := ((Env.start w).box (w.heap.size) rfl [.int .i64 x, .int .i64 y, .int .i64 z, .int .i64 d] 46).box (w.heap.size + 1) (by simp) [.int .u64 v, .int .i64 e, .bool b] 42
  go_enter Try.func10, Try.ntmps10
  go_wp2_with fail
  refine Ord.wp_chain [] (fun w' => Env w [boxI (w.heap.size + 1) [.int .u64 v, .int .i64 e, .bool b], boxI (w.heap.size) [.int .i64 x, .int .i64 y, .int .i64 z, .int .i64 d]] w') (fun _ _ => True) (by kernel_rfl) (by kernel_rfl) (by kernel_rfl) hE.drew trivial (fun hT => ?_)
  have hT9 := Lib.hid hT
  clear hT
  repeat (first
    | (refine Ord.ch_value (v := ?_) hT9.out (by decide) (by rfl) ?_ ?_; rotate_left; (focus (intro w5 hS; have r0 := hS.rule 0 rfl; have r1 := hS.rule 1 rfl; go_simp <;> with_reducible rfl)); (try simp only [Act.put, List.setIfInBounds_toArray, List.set_cons_zero, List.set_cons_succ]))
    | (refine Ord.ch_off hT9.out (by decide) (by rfl) ?_; (try simp only [Act.put, List.setIfInBounds_toArray, List.set_cons_zero, List.set_cons_succ]))
    | (refine Ord.ch_call (v := ?_) (f := ?_) (args := ?_) hT9.out (by decide) (by rfl) ?_ ?_ ?_; rotate_left 3; (focus (intro w5 hS; have r0 := hS.rule 0 rfl; have r1 := hS.rule 1 rfl; go_simp; constructor <;> with_reducible rfl)); (focus (intro w5 hS; (first | (with_reducible refine (watchedNil_s _).mono ?_; rintro e w6 ⟨rfl, rfl⟩; constructor; with_reducible rfl; exact ⟨hS, fun _ h => h⟩) | (with_reducible refine (storeNil_g _ _ _ _ _ _ _ _).mono ?_; rintro e w6 ⟨rfl, hb6⟩; constructor; with_reducible rfl; exact ⟨hS.over hb6, fun _ h => h⟩)))); (try simp only [Act.put, List.setIfInBounds_toArray, List.set_cons_zero, List.set_cons_succ])))
  refine Ord.InText.nil fun w5 hS => ?_
  clear hT9
  obtain ⟨hC9, hA9⟩ := Ord.chain_end hS
  clear hS
  clear hA9
  go_wp2
  (first | go_end0 | refine bodyPost_ret (results_none rfl _ _ _) rfl ?_)
  exact ⟨rfl, hC9.below⟩
set_option maxHeartbeats 800000 in
theorem swapNil_s : Calls Try.prog 12 #[.pointer none, .agg #[.int .i64 x, .int .i64 y, .int .i64 z, .int .i64 d], .agg #[.int .u64 o, .int .i64 oe, .bool ob], .agg #[.int .u64 v, .int .i64 e, .bool b]] w fun e w' => e = .returned (.bool false) ∧ Below w.heap.size w w' := by
  have hE := (((Env.start w).box (w.heap.size) rfl [.int .i64 x, .int .i64 y, .int .i64 z, .int .i64 d] 46).box (w.heap.size + 1) (by simp) [.int .u64 o, .int .i64 oe, .bool ob] 42).box (w.heap.size + 1 + 1) (by simp) [.int .u64 v, .int .i64 e, .bool b] 42
  go_enter Try.func12, Try.ntmps12
  go_wp2_with fail
  refine Ord.wp_chain [] (fun w' => Env w [boxI (w.heap.size + 1 + 1) [.int .u64 v, .int .i64 e, .bool b], boxI (w.heap.size + 1) [.int .u64 o, .int .i64 oe, .bool ob], boxI (w.heap.size) [.int .i64 x, .int .i64 y, .int .i64 z, .int .i64 d]] w') (fun _ _ => True) (by kernel_rfl) (by kernel_rfl) (by kernel_rfl) hE.drew trivial (fun hT => ?_)
  have hT9 := Lib.hid hT
  clear hT
  repeat (first
    | (refine Ord.ch_value (v := ?_) hT9.out (by decide) (by rfl) ?_ ?_; rotate_left; (focus (intro w5 hS; have r0 := hS.rule 0 rfl; have r1 := hS.rule 1 rfl; have r2 := hS.rule 2 rfl; go_simp <;> with_reducible rfl)); (try simp only [Act.put, List.setIfInBounds_toArray, List.set_cons_zero, List.set_cons_succ]))
    | (refine Ord.ch_off hT9.out (by decide) (by rfl) ?_; (try simp only [Act.put, List.setIfInBounds_toArray, List.set_cons_zero, List.set_cons_succ]))
    | (refine Ord.ch_call (v := ?_) (f := ?_) (args := ?_) hT9.out (by decide) (by rfl) ?_ ?_ ?_; rotate_left 3; (focus (intro w5 hS; have r0 := hS.rule 0 rfl; have r1 := hS.rule 1 rfl; have r2 := hS.rule 2 rfl; go_simp; constructor <;> with_reducible rfl)); (focus (intro w5 hS; (first | (with_reducible refine (watchedNil_s _).mono ?_; rintro e w6 ⟨rfl, rfl⟩; constructor; with_reducible rfl; exact ⟨hS, fun _ h => h⟩) | (with_reducible refine (swapNil_g _ _ _ _ _ _ _ _ _ _ _).mono ?_; rintro e w6 ⟨rfl, hb6⟩; constructor; with_reducible rfl; exact ⟨hS.over hb6, fun _ h => h⟩)))); (try simp only [Act.put, List.setIfInBounds_toArray, List.set_cons_zero, List.set_cons_succ])))
  refine Ord.InText.nil fun w5 hS => ?_
  clear hT9
  obtain ⟨hC9, hA9⟩ := Ord.chain_end hS
  clear hS
  clear hA9
  go_wp2
  go_ret
  exact ⟨rfl, hC9.below⟩
set_option maxHeartbeats 800000 in
theorem addNil_s : Calls Try.prog 13 #[.pointer none, .agg #[.int .i64 x, .int .i64 y, .int .i64 z, .int .i64 d], .int .u64 v] w fun e w' => e = .returned (.int .u64 0) ∧ Below w.heap.size w w' := by
  have hE := (Env.start w).box (w.heap.size) rfl [.int .i64 x, .int .i64 y, .int .i64 z, .int .i64 d] 46
  go_enter Try.func13, Try.ntmps13
  go_wp2_with fail
  refine Ord.wp_chain [] (fun w' => Env w [boxI (w.heap.size) [.int .i64 x, .int .i64 y, .int .i64 z, .int .i64 d]] w') (fun _ _ => True) (by kernel_rfl) (by kernel_rfl) (by kernel_rfl) hE.drew trivial (fun hT => ?_)
  have hT9 := Lib.hid hT
  clear hT
  repeat (first
    | (refine Ord.ch_value (v := ?_) hT9.out (by decide) (by rfl) ?_ ?_; rotate_left; (focus (intro w5 hS; have r0 := hS.rule 0 rfl; go_simp <;> with_reducible rfl)); (try simp only [Act.put, List.setIfInBounds_toArray, List.set_cons_zero, List.set_cons_succ]))
    | (refine Ord.ch_off hT9.out (by decide) (by rfl) ?_; (try simp only [Act.put, List.setIfInBounds_toArray, List.set_cons_zero, List.set_cons_succ]))
    | (refine Ord.ch_call (v := ?_) (f := ?_) (args := ?_) hT9.out (by decide) (by rfl) ?_ ?_ ?_; rotate_left 3; (focus (intro w5 hS; have r0 := hS.rule 0 rfl; go_simp; constructor <;> with_reducible rfl)); (focus (intro w5 hS; (first | (with_reducible refine (watchedNil_s _).mono ?_; rintro e w6 ⟨rfl, rfl⟩; constructor; with_reducible rfl; exact ⟨hS, fun _ h => h⟩) | (with_reducible refine (addNil_g _ _ _ _ _ _).mono ?_; rintro e w6 ⟨rfl, hb6⟩; constructor; with_reducible rfl; exact ⟨hS.over hb6, fun _ h => h⟩)))); (try simp only [Act.put, List.setIfInBounds_toArray, List.set_cons_zero, List.set_cons_succ])))
  refine Ord.InText.nil fun w5 hS => ?_
  clear hT9
  obtain ⟨hC9, hA9⟩ := Ord.chain_end hS
  clear hS
  clear hA9
  go_wp2
  go_ret
  exact ⟨rfl, hC9.below⟩
set_option maxHeartbeats 800000 in
theorem peekNil_s : Calls Try.prog 15 #[.pointer none, .agg #[.int .i64 x, .int .i64 y, .int .i64 z]] w fun e w' => e = .returned (.int .u64 0) ∧ Below w.heap.size w w' := by
  have hE := (Env.start w).box (w.heap.size) rfl [.int .i64 x, .int .i64 y, .int .i64 z] 44
  go_enter Try.func15, Try.ntmps15
  go_wp2_with fail
  refine Ord.wp_chain [] (fun w' => Env w [boxI (w.heap.size) [.int .i64 x, .int .i64 y, .int .i64 z]] w') (fun _ _ => True) (by kernel_rfl) (by kernel_rfl) (by kernel_rfl) hE.drew trivial (fun hT => ?_)
  have hT9 := Lib.hid hT
  clear hT
  repeat (first
    | (refine Ord.ch_value (v := ?_) hT9.out (by decide) (by rfl) ?_ ?_; rotate_left; (focus (intro w5 hS; have r0 := hS.rule 0 rfl; go_simp <;> with_reducible rfl)); (try simp only [Act.put, List.setIfInBounds_toArray, List.set_cons_zero, List.set_cons_succ]))
    | (refine Ord.ch_off hT9.out (by decide) (by rfl) ?_; (try simp only [Act.put, List.setIfInBounds_toArray, List.set_cons_zero, List.set_cons_succ]))
    | (refine Ord.ch_call (v := ?_) (f := ?_) (args := ?_) hT9.out (by decide) (by rfl) ?_ ?_ ?_; rotate_left 3; (focus (intro w5 hS; have r0 := hS.rule 0 rfl; go_simp; constructor <;> with_reducible rfl)); (focus (intro w5 hS; (first | (with_reducible refine (watchedNil_s _).mono ?_; rintro e w6 ⟨rfl, rfl⟩; constructor; with_reducible rfl; exact ⟨hS, fun _ h => h⟩) | (with_reducible refine (peekNil_g _ _ _ _).mono ?_; rintro e w6 ⟨rfl, hb6⟩; constructor; with_reducible rfl; exact ⟨hS.over hb6, fun _ h => h⟩)))); (try simp only [Act.put, List.setIfInBounds_toArray, List.set_cons_zero, List.set_cons_succ])))
  refine Ord.InText.nil fun w5 hS => ?_
  clear hT9
  obtain ⟨hC9, hA9⟩ := Ord.chain_end hS
  clear hS
  clear hA9
  go_wp2
  go_ret
  exact ⟨rfl, hC9.below⟩
set_option maxHeartbeats 1600000 in
theorem loadNil_s : Calls Try.prog 11 #[.pointer none, .agg #[.int .i64 x, .int .i64 y, .int .i64 z, .int .i64 d]] w fun e w' => e = .returned (.agg #[.int .u64 0, .int .i64 0, .bool false]) ∧ Below w.heap.size w w' := by
  have hE := ((Env.start w).box w.heap.size rfl [.int .i64 x, .int .i64 y, .int .i64 z, .int .i64 d] 46).box (w.heap.size + 1) (by simp) [.int .u64 0, .int .i64 0, .bool false] 42
  go_enter Try.func11, Try.ntmps11
  go_wp2_with fail
  obtain ⟨X, hXw⟩ : ∃ X, X = w.heap.size := ⟨_, rfl⟩
  rw [← hXw] at hE ⊢
  have HXW := Lib.hid hXw
  clear hXw
  generalize (w.alloc _).alloc _ = w1 at *
  generalize X + 1 = Y at *
  refine OrdF.wp_float [?_, ?_, ?_, ?_, OrdF.Ptr, ?_] [3, 5] 4 (fun w' => Blk 0 w' X [.int .i64 x, .int .i64 y, .int .i64 z, .int .i64 d]) (OrdF.AF w [.int .u64 0, .int .i64 0, .bool false] (OrdF.Sta [fun M zs => M = [boxI Y [.int .u64 0, .int .i64 0, .bool false], boxI X [.int .i64 x, .int .i64 y, .int .i64 z, .int .i64 d]] ∧ zs = [.int .u64 0, .int .i64 0, .bool false], fun M zs => M = [boxI Y [.int .u64 0, .int .i64 0, .bool false], boxI X [.int .i64 x, .int .i64 y, .int .i64 z, .int .i64 d]] ∧ zs = [.int .u64 0, .int .i64 0, .bool false], fun M zs => M = [boxI Y [.int .u64 0, .int .i64 0, .bool false], boxI X [.int .i64 x, .int .i64 y, .int .i64 z, .int .i64 d]] ∧ zs = [.int .u64 0, .int .i64 0, .bool false]])) (by kernel_rfl) (by kernel_rfl) (by kernel_rfl) (hE.drew.get 1 rfl) ⟨_, _, ⟨_, rfl, rfl, rfl⟩, .inl ⟨rfl, rfl, hE.drew⟩⟩ (fun hT => ?_)
  rotate_left 5
  have hT9 := Lib.hid hT
  clear hT
  repeat (first
    | (focus (refine OrdF.in_value (v := ?_) hT9.out (by decide) (by decide) ?_ (by rfl) ?_ ?_; rotate_left 2; (focus (intro w5 hS; have r := hS.rule; go_simp <;> with_reducible rfl)); rotate_right; (focus rfl); (try simp only [Act.put, List.setIfInBounds_toArray, List.set_cons_zero, List.set_cons_succ])))
    | (focus (refine OrdF.in_off hT9.out (by decide) (by decide) ?_ (by rfl) ?_; (focus rfl); (try simp only [Act.put, List.setIfInBounds_toArray, List.set_cons_zero, List.set_cons_succ]))))
  focus (refine OrdF.in_call (v := .pointer none) (f := ?_) (args := ?_) hT9.out (by decide) (by decide) ?_ (by rfl) ?_ ?_ ?_; rotate_left 2; (focus rfl); (focus (intro w5 hS; skip; go_simp; constructor <;> with_reducible rfl)); (focus (intro w5 hS; refine (watchedNil_s _).mono ?_; rintro e w6 ⟨rfl, rfl⟩; exact ⟨rfl, hS, fun _ _ h => h⟩)); (try simp only [Act.put, List.setIfInBounds_toArray, List.set_cons_zero, List.set_cons_succ]))
  repeat (first
    | (focus (refine OrdF.in_value (v := ?_) hT9.out (by decide) (by decide) ?_ (by rfl) ?_ ?_; rotate_left 2; (focus (intro w5 hS; have r := hS.rule; go_simp <;> with_reducible rfl)); rotate_right; (focus rfl); (try simp only [Act.put, List.setIfInBounds_toArray, List.set_cons_zero, List.set_cons_succ])))
    | (focus (refine OrdF.in_off hT9.out (by decide) (by decide) ?_ (by rfl) ?_; (focus rfl); (try simp only [Act.put, List.setIfInBounds_toArray, List.set_cons_zero, List.set_cons_succ]))))
  refine OrdF.in_turn OrdF.Ptr rfl (fun u => u = .agg #[.int .u64 0, .int .i64 0, .bool false]) (.agg #[.int .u64 0, .int .i64 0, .bool false]) rfl hT9.out rfl (by decide) (by decide) (by rfl) ?_ (.inl rfl) (by rfl) ?_ ?_
  · rfl
  · rintro fo5 w5 _ hC5 ⟨M5, z5, ⟨P5, hP5, hM5⟩, hA5⟩
    cases hP5
    obtain ⟨rfl, rfl⟩ := hM5
    skip
    go_simp
    simp only [Ord3.Lands]
    rcases hA5 with ⟨rfl, -, hE5⟩ | ⟨n5, rfl, hE5⟩
    · refine (loadNil_g _ _ _ _ _).mono ?_
      rintro e w6 ⟨rfl, hb6⟩; have hE6 := hE5.over hb6; exact ⟨_, rfl, rfl, hE6.get 1 rfl, _, _, ⟨_, rfl, rfl, rfl⟩, .inl ⟨rfl, rfl, hE6⟩⟩
    · refine (loadNil_g _ _ _ _ _).mono ?_
      rintro e w6 ⟨rfl, hb6⟩; have hE6 := hE5.over hb6; exact ⟨_, rfl, rfl, hE6.get 2 rfl, _, _, ⟨_, rfl, rfl, rfl⟩, .inr ⟨n5, rfl, hE6⟩⟩
  rintro _ rfl
  (try simp only [Act.put, List.setIfInBounds_toArray, List.set_cons_zero, List.set_cons_succ])
  repeat (first
    | (focus (refine OrdF.in_value (v := ?_) hT9.out (by decide) (by decide) ?_ (by rfl) ?_ ?_; rotate_left 2; (focus (intro w5 hS; have r := hS.rule; go_simp <;> with_reducible rfl)); rotate_right; (focus rfl); (try simp only [Act.put, List.setIfInBounds_toArray, List.set_cons_zero, List.set_cons_succ])))
    | (focus (refine OrdF.in_off hT9.out (by decide) (by decide) ?_ (by rfl) ?_; (focus rfl); (try simp only [Act.put, List.setIfInBounds_toArray, List.set_cons_zero, List.set_cons_succ]))))
  refine OrdF.in_float OrdF.Ptr (.pointer (some ⟨0, 0, none⟩)) ⟨0, rfl⟩ hT9.out rfl (by decide) ?_ (by rfl) ?_ ?_
  · rfl
  · intro w5 κs5 hC5 hA5
    go_simp
    simp only [Ord3.Lands]
    exact ⟨⟨_, rfl⟩, hC5.more _, hA5.up _⟩
  rintro _ ⟨V, rfl⟩
  (try simp only [Act.put, List.setIfInBounds_toArray, List.set_cons_zero, List.set_cons_succ])
  refine OrdF.in_turn_late (by kernel_rfl) (by decide) (by decide) (fun u => u = undef) (undef) rfl hT9.out rfl (by decide) (by rfl) ?_ (.inr ⟨_, 3, [], rfl, by kernel_rfl, by kernel_rfl, rfl⟩) (by rfl) ?_ ?_
  · rfl
  · rintro w5 hC5 ⟨M5, z5, ⟨P5, hP5, hM5⟩, ⟨hn5, _⟩ | ⟨n5, hn5, hE5⟩⟩
    · cases hn5
    cases hn5
    cases hP5
    obtain ⟨rfl, rfl⟩ := hM5
    have r := hE5.rule 0 rfl; have ff := hE5.thaw 0 rfl; have f0 := ff 0 (by simp); have f1 := ff 1 (by simp); have f2 := ff 2 (by simp); clear ff
    go_simp
    have hE6 := hE5.put3 0 rfl (.int .u64 0) (.int .i64 0) (.bool false); exact ⟨rfl, hE6.get 2 rfl, _, _, ⟨_, rfl, rfl, rfl⟩, .inr ⟨_, rfl, hE6⟩⟩
  rintro _ rfl
  (try simp only [Act.put, List.setIfInBounds_toArray, List.set_cons_zero, List.set_cons_succ])
  refine OrdF.in_nil rfl (by decide) (by decide) ?_
  rintro w5 hC5 ⟨M5, z5, ⟨P5, hP5, hM5⟩, ⟨hn5, _⟩ | ⟨n5, hn5, hE5⟩⟩
  · cases hn5
  cases hn5
  cases hP5
  obtain ⟨rfl, rfl⟩ := hM5
  clear hT9
  clear hC5 hE
  have ff := hE5.thaw 1 rfl
  have f0 := ff 0 (by simp)
  have f1 := ff 1 (by simp)
  have f2 := ff 2 (by simp)
  have r0 := hE5.rule 0 rfl
  have r1 := hE5.rule 1 rfl
  have hE6 := hE5.put3 1 rfl (.int .u64 0) (.int .i64 0) (.bool false)
  simp only [List.set_cons_succ, List.set_cons_zero] at hE6
  have q9 := hE6.rule 1 rfl
  clear ff
  go_wp2
  have hB := hE6.below
  exact bodyPost_ret (v := .agg #[.int .u64 0, .int .i64 0, .bool false]) (by simp [results, Try.results11, go_sem, q9]) rfl ⟨rfl, hB⟩
set_option maxHeartbeats 1600000 in
theorem countNil_s : Calls Try.prog 16 #[.pointer none] w fun e w' => e = .returned (.agg #[.int .i64 0, .int .i64 0, .int .i64 0, .int .i64 0, .int .i64 0]) ∧ Below w.heap.size w w' := by
  have hE := (Env.start w).box w.heap.size rfl [.int .i64 0, .int .i64 0, .int .i64 0, .int .i64 0, .int .i64 0] 58
  go_enter Try.func16, Try.ntmps16
  go_wp2_with fail
  refine (watchedNil_s _).mono ?_
  rintro e w1 ⟨rfl, rfl⟩
  go_wp2_with fail
  refine (countNil_g _).mono ?_
  rintro e w2 ⟨rfl, hb2⟩
  have hE2 := hE.over hb2
  have f5 := hE2.thaw 0 rfl
  have f0 := f5 0 (by simp)
  have f1 := f5 1 (by simp)
  have f2 := f5 2 (by simp)
  have f3 := f5 3 (by simp)
  have f4 := f5 4 (by simp)
  have r := hE2.rule 0 rfl
  clear f5
  go_wp2
  have hP := hE2.put5 0 rfl (.int .i64 0) (.int .i64 0) (.int .i64 0) (.int .i64 0) (.int .i64 0)
  have q9 := hP.rule 0 rfl
  exact bodyPost_ret (v := .agg #[.int .i64 0, .int .i64 0, .int .i64 0, .int .i64 0, .int .i64 0]) (by simp [results, Try.results16, go_sem, q9]) rfl ⟨rfl, hP.below⟩
theorem cellsNil_s : Calls Try.prog 17 #[.pointer none] w fun e w' => e = .returned (.pointer none) ∧ Below w.heap.size w w' := by
  go_enter Try.func17, Try.ntmps17
  go_wp2_with fail
  refine (watchedNil_s _).mono ?_
  rintro e w1 ⟨rfl, rfl⟩
  go_wp2_with fail
  refine (cellsNil_g _).mono ?_
  rintro e w2 ⟨rfl, hb2⟩
  go_wp2
  go_ret
  exact ⟨rfl, hb2⟩
end
end Go.Proofs.Ythiccboecimfjaa

/- A struct by value whose fields are numbers and bools, of however many fields: opened. -/
namespace Go.Proofs.Ythiccboecimfjaa
open Go.RowKit Go.WideShapes Go.ChangeShapes Go.ChangeAt Go.Deep
set_option maxRecDepth 100000

inductive Sca | num (k : IntKind) | boo
/-- A field's type is of that form; a value is. -/
def Sca.fits (P : Program) (t : TypeId) : Sca → Prop
  | .num k => P.underlying t = some (.int k)
  | .boo => P.underlying t = some .bool
def Sca.ok (v : Value) : Sca → Prop
  | .num k => ∃ n, v = .int k n ∧ (Lit.int k n).wf = true
  | .boo => ∃ b, v = .bool b
def FitAll (P : Program) : List Field → List Sca → Prop
  | [], [] => True
  | f :: fs, s :: ss => s.fits P f.type ∧ FitAll P fs ss
  | _, _ => False
theorem FitAll.length {P : Program} : ∀ {fs : List Field} {ss : List Sca}, FitAll P fs ss → fs.length = ss.length
  | [], [], _ => rfl
  | _ :: _, _ :: _, h => by simp [FitAll.length h.2]
theorem FitAll.get {P : Program} : ∀ {fs : List Field} {ss : List Sca}, FitAll P fs ss → ∀ {i : Nat} {s : Sca}, ss[i]? = some s → ∃ f, fs[i]? = some f ∧ s.fits P f.type := by
  intro fs
  induction fs with
  | nil =>
    intro ss h i s e
    cases ss with
    | nil => simp at e
    | cons x ss => exact absurd h (by simp [FitAll])
  | cons f fs ih =>
    intro ss h i s e
    cases ss with
    | nil => exact absurd h (by simp [FitAll])
    | cons x ss =>
      cases i with
      | zero =>
        simp at e
        subst e
        exact ⟨f, rfl, h.1⟩
      | succ i =>
        obtain ⟨f', hf, hs⟩ := ih h.2 (i := i) (by simpa using e)
        exact ⟨f', by simpa using hf, hs⟩

section
variable {H : Type} {enc : TypeId × Value → H} {P : Program} {w : World} {base : Nat} {spare : Nat → Bool} {held : Bool}
theorem open_flat {r : Reach} {b0 : Nat} {t : TypeId} {fs : Array Field} {ss : List Sca} {v : Value} {d : DataW H} {p : List MemPlace} (hs : P.underlying t = some (.struct fs)) (hone : oneCellFields P fs = true) (hC : P.cellsOf t = ss.length) (hfit : FitAll P fs.toList ss)
    (hv : Value.okWide P w r b0 t v) (h : DataW.Trod enc P w base spare held t v d p) :
    ∃ cs : Array Value, v = .agg cs ∧ cs.size = ss.length ∧ ∀ (i : Nat) (s : Sca), ss[i]? = some s → ∃ x, cs[i]? = some x ∧ s.ok x := by
  obtain ⟨cs, rfl, hsz⟩ := okWide_struct hs hv
  obtain ⟨fuel, hf⟩ := h
  obtain ⟨xs, n, -, -, hl, hlen, hall⟩ := DataW.trod_struct hs hf
  refine ⟨cs, rfl, hsz.trans hC, fun i s e => ?_⟩
  obtain ⟨f, hfi, hfs⟩ := hfit.get e
  have hfi' : fs[i]? = some f := by simpa using hfi
  obtain ⟨o, k⟩ := hone_of hone i f hfi'
  have hi : i < cs.size := by
    have : i < ss.length := by
      rcases Nat.lt_or_ge i ss.length with hh | hh
      · exact hh
      · rw [List.getElem?_eq_none hh] at e; cases e
    omega
  have hx : xs[i]? ≠ none := by
    have := (Array.getElem?_eq_some_iff.1 hfi').1
    rw [List.getElem?_eq_getElem (by omega)]
    simp
  have ht := hall i f hfi'
  have hcell : ((Value.agg cs).cells.toList.drop f.offset).take (P.cellsOf f.type) = [cs[i]] := by
    rw [o, k]
    show (cs.toList.drop i).take 1 = _
    have hi' : i < cs.toList.length := by simpa using hi
    rw [List.drop_eq_getElem_cons hi']
    simp
  rw [hcell] at ht
  obtain ⟨y, hy⟩ := Option.ne_none_iff_exists'.1 hx
  rw [hy] at ht
  refine ⟨cs[i], by simp [hi], ?_⟩
  cases s with
  | num k =>
    obtain ⟨n, e1, -, wf⟩ := DataW.trod_int hfs ht
    exact ⟨n, by simpa using e1, wf⟩
  | boo =>
    obtain ⟨b, e1, -⟩ := DataW.trod_bool hfs ht
    exact ⟨b, by simpa using e1⟩
end
theorem list_of {α : Type} {cs : Array α} {n : Nat} (h : cs.size = n) : ∃ l : List α, cs = l.toArray ∧ l.length = n := ⟨cs.toList, rfl, by simpa using h⟩
theorem list2 {α : Type} {l : List α} (h : l.length = 2) : ∃ a b, l = [a, b] := by
  match l, h with
  | [a, b], _ => exact ⟨a, b, rfl⟩
theorem list3 {α : Type} {l : List α} (h : l.length = 3) : ∃ a b c, l = [a, b, c] := by
  match l, h with
  | [a, b, c], _ => exact ⟨a, b, c, rfl⟩
theorem list4 {α : Type} {l : List α} (h : l.length = 4) : ∃ a b c d, l = [a, b, c, d] := by
  match l, h with
  | [a, b, c, d], _ => exact ⟨a, b, c, d, rfl⟩
theorem list5 {α : Type} {l : List α} (h : l.length = 5) : ∃ a b c d e, l = [a, b, c, d, e] := by
  match l, h with
  | [a, b, c, d, e], _ => exact ⟨a, b, c, d, e, rfl⟩
theorem list6 {α : Type} {l : List α} (h : l.length = 6) : ∃ a b c d e f, l = [a, b, c, d, e, f] := by
  match l, h with
  | [a, b, c, d, e, f], _ => exact ⟨a, b, c, d, e, f, rfl⟩
end Go.Proofs.Ythiccboecimfjaa
