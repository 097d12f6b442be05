/- An access of both, the watched world and the reference: the answers are the same, and so is what they keep. -/
import Derived.Test.YtmihfpdbaagjnaaGhostC
import Derived.Test.YtmihfpdbaagjnaaGhostD
import Derived.Test.YtmihfpdbaagjnaaRefV
namespace Go.Proofs.Ytmihfpdbaagjnaa
open Go.RowKit Go.Maps
set_option maxRecDepth 100000

/-- The faults and the stale loads behind an access. -/
def faX (kd : Int) (l : List Int) (lc : List OneR) (fa x y z d ow : Int) (os vs : Bool) : Int :=
  if kd = 2 then faS l x y d vs fa else if kd = 3 then (if getL lc (x, y, z) = ow then faS l x y d (os || vs) fa else fa) else if kd = 4 then faS l x y d (os || vs) fa else fa
def stX (kd : Int) (l : List Int) (st x y d : Int) : Int := if kd = 1 ∧ stB l x y d = true then wrap64 (st + 1) else st
/-- Both, and what they keep. -/
def GX (w0 : World) (u g p s c N : Nat) (fa st : Int) (w' : World) : Prop :=
  ∃ (v1 v2 v3 : Value) (lc li : List OneR) (l : List Int) (mp : Option Nat) (m : Nat) (S F : Nat → Prop) (q : Cnt) (n : Nat), lc.length ≤ N ∧ li.length ≤ N ∧ l.length ≤ N ∧ n ≤ N ∧ m ≤ N ∧ (∀ x, 0 ≤ getL li x) ∧
    Env w0 [boxI u (uv v1 v2 v3 fa st), rowO v1 lc, rowO v2 li, intsI v3 l, boxI g (gv p mp s st fa), leadsI mp (getL li) m, soulI s S l, wbox p c, cellI c F (getL lc) q n] w'
theorem nn_set {li : List OneR} (h : ∀ x, 0 ≤ getL li x) (p : Plc) {e : Int} (he : 0 ≤ e) : ∀ x, 0 ≤ getL (setL li p e) x := fun x => by
  rw [getL_set]
  unfold upd
  split
  · exact he
  · exact h x
theorem swf_yes {f : Plc → Int} {x : Plc} {o v : Int} (h : f x = o) : swf f x o v = upd f x v := if_pos h
theorem swf_no {f : Plc → Int} {x : Plc} {o v : Int} (h : ¬ f x = o) : swf f x o v = f := if_neg h

section
variable {w0 w : World} {u g p s c n m N : Nat} {v1 v2 v3 : Value} {lc li : List OneR} {l : List Int} {mp : Option Nat} {S F : Nat → Prop} {q : Cnt} {fa st : Int}
set_option maxHeartbeats 25600000 in
theorem does_any (kd x y z d ow oi vw vi : Int) (os vs : Bool) (hx : Wf (x, y, z)) (hv : InU vw) (hi : In64 vi) (hi0 : 0 ≤ vi) (hN : N ≤ 1000) (hlc : lc.length ≤ N) (hli : li.length ≤ N) (hl : l.length ≤ N) (hn : n ≤ N) (hm : m ≤ N) (hnn : ∀ x, 0 ≤ getL li x)
    (hE : Env w0 [boxI u (uv v1 v2 v3 fa st), rowO v1 lc, rowO v2 li, intsI v3 l, boxI g (gv p mp s st fa), leadsI mp (getL li) m, soulI s S l, wbox p c, cellI c F (getL lc) q n] w) :
    Calls Try.prog 9 #[.pointer (some ⟨g, 0, none⟩), .pointer (some ⟨u, 0, none⟩), .agg #[.int .i64 kd, .int .i64 x, .int .i64 y, .int .i64 z, .int .i64 d, .int .u64 ow, .int .i64 oi, .bool os, .int .u64 vw, .int .i64 vi, .bool vs]] w fun e w' => e = .returned (.bool true) ∧ GX w0 u g p s c (N + 1) (faX kd l lc fa x y z d ow os vs) (stX kd l st x y d) w' := by
  have hnum := (hE.leads 5 rfl).nums.u (x, y, z)
  have hwr : IntKind.i64.wrap (getL li (x, y, z)) = getL li (x, y, z) := by rw [wrap_i]; exact w64 _ hnum
  have hwu : IntKind.u64.wrap vi = vi := by unfold In64 at hi; rw [IntKind.wrap_u64]; omega
  have hl5 : l.length ≤ 100000 := by omega
  have hl6 : l.length ≤ 1000000 := by omega
  have hc6 : lc.length ≤ 1000000 := by omega
  have hi6 : li.length ≤ 1000000 := by omega
  have hnm : n < maxLen := by unfold maxLen; omega
  have hmm : m < maxLen := by unfold maxLen; omega
  have hsl : ∀ a, (setL lc (x, y, z) a).length ≤ N + 1 := fun a => by have := setL_length (x, y, z) a lc; omega
  have hsi : ∀ a, (setL li (x, y, z) a).length ≤ N + 1 := fun a => by have := setL_length (x, y, z) a li; omega
  have hbl : (bornL l y).length ≤ N + 1 := by have := bornL_length l y; omega
  replace hE := (hE.box w.heap.size rfl [.int .i64 kd, .int .i64 x, .int .i64 y, .int .i64 z, .int .i64 d, .int .u64 ow, .int .i64 oi, .bool os, .int .u64 vw, .int .i64 vi, .bool vs] 45).box (w.heap.size + 1) (by simp) [.int .i64 x, .int .i64 y, .int .i64 z] 41
  generalize hfz : faX kd l lc fa x y z d ow os vs = fz
  generalize hsz : stX kd l st x y d = sz
  have HFZ := Lib.hid hfz
  have HSZ := Lib.hid hsz
  have HX := Lib.hid hx
  have HV := Lib.hid hv
  have HI := Lib.hid hi
  have HNN := Lib.hid hnn
  have HWR := Lib.hid hwr
  have HWU := Lib.hid hwu
  have HNM := Lib.hid hnm
  have HMM := Lib.hid hmm
  have HSL := Lib.hid hsl
  have HSI := Lib.hid hsi
  clear hfz hsz hx hv hi hnn hwr hwu hnm hmm hnum hsl hsi
  go_enter Try.func9, Try.ntmps9
  go_upto_region 3 with fail
  generalize (w.alloc _).alloc _ = w1 at *
  generalize w.heap.size + 1 = P at *
  generalize w.heap.size = X at *
  by_cases h1 : kd = 1
  · subst h1
    have ef : fa = fz := by have := HFZ.out; simpa [faX] using this
    have es : (if stB l x y d = true then wrap64 (st + 1) else st) = sz := by have := HSZ.out; simpa [stX] using this
    clear HFZ HSZ
    have ES := Lib.hid es
    clear es
    subst ef
    have rP := hE.rule 0 rfl
    have rX := hE.rule 1 rfl
    go_wp2_with fail
    refine (load8_u x y z d hl5 hc6 hi6 2 hE rfl rfl rfl rfl).mono ?_
    rintro e w2 ⟨rfl, hE⟩
    rw [HWR.out]
    rw [ES.out] at hE
    simp only [List.set_cons_succ, List.set_cons_zero] at hE
    clear rP rX
    have rX := hE.rule 1 rfl
    go_wp2_with fail
    refine (load_g x y z d HX.out hl6 6 hE rfl rfl rfl rfl rfl).mono ?_
    rintro e w3 ⟨rfl, hE⟩
    rw [ES.out] at hE
    simp only [List.set_cons_succ, List.set_cons_zero] at hE
    clear rX
    go_wp2_with fail
    go_ret
    refine ⟨by simp, ?_⟩
    exact ⟨v1, v2, v3, lc, li, l, mp, m, S, F, _, n, by omega, by omega, by omega, by omega, by omega, HNN.out, hE.sub (.cons _ (.cons _ (List.Sublist.refl _)))⟩
  have hs1 : st = sz := by have := HSZ.out; simpa [stX, h1] using this
  clear HSZ
  subst hs1
  by_cases h2 : kd = 2
  · subst h2
    have ef : faS l x y d vs fa = fz := by have := HFZ.out; simpa [faX] using this
    clear HFZ
    have EF := Lib.hid ef
    clear ef
    have rP := hE.rule 0 rfl
    have rX := hE.rule 1 rfl
    go_wp2_with fail
    refine (store_g x y z d vw vi vs HX.out HV.out HI.out HNM.out HMM.out hl6 6 hE rfl rfl rfl rfl rfl).mono ?_
    rintro e w2 ⟨rfl, mp2, F2, hE⟩
    rw [EF.out] at hE
    simp only [List.set_cons_succ, List.set_cons_zero] at hE
    clear rP rX
    go_wp2_with fail
    refine Ord.wp_chain [16] (fun w' => Blk 0 w' P [.int .i64 x, .int .i64 y, .int .i64 z] ∧ Blk 0 w' X [.int .i64 2, .int .i64 x, .int .i64 y, .int .i64 z, .int .i64 d, .int .u64 ow, .int .i64 oi, .bool os, .int .u64 vw, .int .i64 vi, .bool vs]) (Stage [Env w0 [boxI P [.int .i64 x, .int .i64 y, .int .i64 z], boxI X [.int .i64 2, .int .i64 x, .int .i64 y, .int .i64 z, .int .i64 d, .int .u64 ow, .int .i64 oi, .bool os, .int .u64 vw, .int .i64 vi, .bool vs], boxI u (uv v1 v2 v3 fa st), rowO v1 lc, rowO v2 li, intsI v3 l, boxI g (gv p mp2 s st fz), leadsI mp2 (upd (getL li) (x, y, z) vi) (m + 1), soulI s S l, wbox p c, cellI c F2 (upd (getL lc) (x, y, z) vw) { q with s := wrap64 (q.s + 1) } (n + 1)], fun w' => ∃ a b, Env w0 [boxI P [.int .i64 x, .int .i64 y, .int .i64 z], boxI X [.int .i64 2, .int .i64 x, .int .i64 y, .int .i64 z, .int .i64 d, .int .u64 ow, .int .i64 oi, .bool os, .int .u64 vw, .int .i64 vi, .bool vs], boxI u (uv a b v3 fz st), rowO a (setL lc (x, y, z) vw), rowO b (setL li (x, y, z) vi), intsI v3 l, boxI g (gv p mp2 s st fz), leadsI mp2 (upd (getL li) (x, y, z) vi) (m + 1), soulI s S l, wbox p c, cellI c F2 (upd (getL lc) (x, y, z) vw) { q with s := wrap64 (q.s + 1) } (n + 1)] w']) (by kernel_rfl) (by kernel_rfl) (by kernel_rfl) ⟨hE.drew.get 0 rfl, hE.drew.get 1 rfl⟩ ⟨_, rfl, hE.drew⟩ (fun hT => ?_)
    have hT9 := Lib.hid hT
    clear hT
    repeat (first
      | (refine Ord.ch_value (v := ?_) hT9.out (by decide) (by rfl) ?_ ?_; rotate_left; (focus (intro w5 hS; have r0 := hS.1.rule; have r1 := hS.2.rule; go_simp <;> with_reducible rfl)); (try simp only [Act.put, List.setIfInBounds_toArray, List.set_cons_zero, List.set_cons_succ]))
      | (refine Ord.ch_off hT9.out (by decide) (by rfl) ?_; (try simp only [Act.put, List.setIfInBounds_toArray, List.set_cons_zero, List.set_cons_succ])))
    refine Ord.ch_turn (v := .tuple #[]) 0 hT9.out rfl (by decide) (Or.inl rfl) (by rfl) ?_ ?_
    · rintro w5 hC5 ⟨P5, hP5, hA5⟩
      cases hP5
      skip
      go_simp
      simp only [Ord.LandsIn]
      refine (store7_u x y z d vw vi vs hl5 hc6 hi6 2 hA5 rfl rfl rfl rfl).mono ?_
      rintro e6 w6 ⟨rfl, a, b, hE6⟩; rw [EF.out, HWU.out] at hE6; simp only [storeL, List.set_cons_succ, List.set_cons_zero] at hE6; exact ⟨rfl, ⟨hE6.get 0 rfl, hE6.get 1 rfl⟩, _, rfl, a, b, hE6⟩
    (try simp only [Act.put, List.setIfInBounds_toArray, List.set_cons_zero, List.set_cons_succ])
    refine Ord.InText.nil fun w5 hS => ?_
    clear hT9
    obtain ⟨hC9, hA9⟩ := Ord.chain_end hS
    clear hS
    obtain ⟨P9, hP9, hA9⟩ := hA9
    cases hP9
    obtain ⟨a, b, hA9⟩ := hA9
    clear hC9 hE
    rw [← getL_set, ← getL_set] at hA9
    go_wp2_with fail
    go_ret
    refine ⟨rfl, ?_⟩
    exact ⟨a, b, v3, setL lc (x, y, z) vw, setL li (x, y, z) vi, l, mp2, m + 1, S, F2, _, n + 1, HSL.out _, HSI.out _, by omega, by omega, by omega, nn_set HNN.out _ hi0, hA9.sub (.cons _ (.cons _ (List.Sublist.refl _)))⟩
  by_cases h3 : kd = 3
  · subst h3
    have rP := hE.rule 0 rfl
    have rX := hE.rule 1 rfl
    by_cases hw : getL lc (x, y, z) = ow
    · have ef : faS l x y d (os || vs) fa = fz := by have := HFZ.out; simpa [faX, hw] using this
      clear HFZ
      have EF := Lib.hid ef
      clear ef
      have HW := Lib.hid hw
      clear hw
      replace hE := hE.box w1.heap.size rfl [.int .u64 ow, .int .i64 oi, .bool os] 39
      go_upto_region 13 with fail
      clear rP rX
      generalize w1.alloc _ = w2 at *
      generalize w1.heap.size = O at *
      have rX := hE.rule 2 rfl
      go_upto_region 15 with fail
      clear rX
      refine Ord.wp_chain [6, 27] (fun w' => Blk 0 w' O [.int .u64 ow, .int .i64 oi, .bool os] ∧ Blk 0 w' P [.int .i64 x, .int .i64 y, .int .i64 z] ∧ Blk 0 w' X [.int .i64 3, .int .i64 x, .int .i64 y, .int .i64 z, .int .i64 d, .int .u64 ow, .int .i64 oi, .bool os, .int .u64 vw, .int .i64 vi, .bool vs]) (Stage [Env w0 [boxI O [.int .u64 ow, .int .i64 oi, .bool os], boxI P [.int .i64 x, .int .i64 y, .int .i64 z], boxI X [.int .i64 3, .int .i64 x, .int .i64 y, .int .i64 z, .int .i64 d, .int .u64 ow, .int .i64 oi, .bool os, .int .u64 vw, .int .i64 vi, .bool vs], boxI u (uv v1 v2 v3 fa st), rowO v1 lc, rowO v2 li, intsI v3 l, boxI g (gv p mp s st fa), leadsI mp (getL li) m, soulI s S l, wbox p c, cellI c F (getL lc) q n], fun w' => ∃ mp2 G, Env w0 [boxI O [.int .u64 ow, .int .i64 oi, .bool os], boxI P [.int .i64 x, .int .i64 y, .int .i64 z], boxI X [.int .i64 3, .int .i64 x, .int .i64 y, .int .i64 z, .int .i64 d, .int .u64 ow, .int .i64 oi, .bool os, .int .u64 vw, .int .i64 vi, .bool vs], boxI u (uv v1 v2 v3 fa st), rowO v1 lc, rowO v2 li, intsI v3 l, boxI g (gv p mp2 s st fz), leadsI mp2 (upd (getL li) (x, y, z) vi) (m + 1), soulI s S l, wbox p c, cellI c G (upd (getL lc) (x, y, z) vw) (swq q true) (n + 1)] w', fun w' => ∃ mp2 G a b, Env w0 [boxI O [.int .u64 ow, .int .i64 oi, .bool os], boxI P [.int .i64 x, .int .i64 y, .int .i64 z], boxI X [.int .i64 3, .int .i64 x, .int .i64 y, .int .i64 z, .int .i64 d, .int .u64 ow, .int .i64 oi, .bool os, .int .u64 vw, .int .i64 vi, .bool vs], boxI u (uv a b v3 fz st), rowO a (setL lc (x, y, z) vw), rowO b (setL li (x, y, z) vi), intsI v3 l, boxI g (gv p mp2 s st fz), leadsI mp2 (upd (getL li) (x, y, z) vi) (m + 1), soulI s S l, wbox p c, cellI c G (upd (getL lc) (x, y, z) vw) (swq q true) (n + 1)] w']) (by kernel_rfl) (by kernel_rfl) (by kernel_rfl) ⟨hE.drew.get 0 rfl, hE.drew.get 1 rfl, hE.drew.get 2 rfl⟩ ⟨_, rfl, hE.drew⟩ (fun hT => ?_)
      have hT9 := Lib.hid hT
      clear hT
      repeat (first
        | (refine Ord.ch_value (v := ?_) hT9.out (by decide) (by rfl) ?_ ?_; rotate_left; (focus (intro w5 hS; have r0 := hS.1.rule; have r1 := hS.2.1.rule; have r2 := hS.2.2.rule; go_simp <;> with_reducible rfl)); (try simp only [Act.put, List.setIfInBounds_toArray, List.set_cons_zero, List.set_cons_succ]))
        | (refine Ord.ch_off hT9.out (by decide) (by rfl) ?_; (try simp only [Act.put, List.setIfInBounds_toArray, List.set_cons_zero, List.set_cons_succ])))
      refine Ord.ch_turn (v := .bool true) 0 hT9.out rfl (by decide) (Or.inl rfl) (by rfl) ?_ ?_
      · rintro w5 hC5 ⟨P5, hP5, hA5⟩
        cases hP5
        skip
        go_simp
        simp only [Ord.LandsIn]
        refine (swap_g x y z d ow oi vw vi os vs HX.out HV.out HI.out HNM.out HMM.out hl6 7 hA5 rfl rfl rfl rfl rfl).mono ?_
        rintro e6 w6 ⟨rfl, mp2, G, hE6⟩; rw [if_pos HW.out, if_pos HW.out, swf_yes HW.out, EF.out, show decide (getL lc (x, y, z) = ow) = true by simpa using HW.out] at hE6; rw [show decide (getL lc (x, y, z) = ow) = true by simpa using HW.out]; simp only [List.set_cons_succ, List.set_cons_zero] at hE6; exact ⟨rfl, ⟨hE6.get 0 rfl, hE6.get 1 rfl, hE6.get 2 rfl⟩, _, rfl, mp2, G, hE6⟩
      (try simp only [Act.put, List.setIfInBounds_toArray, List.set_cons_zero, List.set_cons_succ])
      repeat (first
        | (refine Ord.ch_value (v := ?_) hT9.out (by decide) (by rfl) ?_ ?_; rotate_left; (focus (intro w5 hS; have r0 := hS.1.rule; have r1 := hS.2.1.rule; have r2 := hS.2.2.rule; go_simp <;> with_reducible rfl)); (try simp only [Act.put, List.setIfInBounds_toArray, List.set_cons_zero, List.set_cons_succ]))
        | (refine Ord.ch_off hT9.out (by decide) (by rfl) ?_; (try simp only [Act.put, List.setIfInBounds_toArray, List.set_cons_zero, List.set_cons_succ])))
      refine Ord.ch_turn (v := .bool true) 1 hT9.out rfl (by decide) (Or.inr ⟨_, rfl, by kernel_rfl⟩) (by rfl) ?_ ?_
      · rintro w5 hC5 ⟨P5, hP5, hA5⟩
        cases hP5
        obtain ⟨mp2, G, hA5⟩ := hA5
        go_simp
        simp only [Ord.LandsIn]
        refine (swap7_u x y z d ow vw vi os vs hl5 hc6 hi6 3 hA5 rfl rfl rfl rfl).mono ?_
        rintro e6 w6 ⟨rfl, a, b, hE6⟩; rw [if_pos HW.out, EF.out, HWU.out] at hE6; simp only [storeL, List.set_cons_succ, List.set_cons_zero] at hE6; rw [show decide (getL lc (x, y, z) = ow) = true by simpa using HW.out]; exact ⟨rfl, ⟨hE6.get 0 rfl, hE6.get 1 rfl, hE6.get 2 rfl⟩, _, rfl, mp2, G, a, b, hE6⟩
      (try simp only [Act.put, List.setIfInBounds_toArray, List.set_cons_zero, List.set_cons_succ])
      repeat (first
        | (refine Ord.ch_value (v := ?_) hT9.out (by decide) (by rfl) ?_ ?_; rotate_left; (focus (intro w5 hS; skip; go_simp <;> with_reducible rfl)); (try simp only [Act.put, List.setIfInBounds_toArray, List.set_cons_zero, List.set_cons_succ]))
        | (refine Ord.ch_off hT9.out (by decide) (by rfl) ?_; (try simp only [Act.put, List.setIfInBounds_toArray, List.set_cons_zero, List.set_cons_succ])))
      refine Ord.InText.nil fun w5 hS => ?_
      clear hT9
      obtain ⟨hC9, hA9⟩ := Ord.chain_end hS
      clear hS
      obtain ⟨P9, hP9, hA9⟩ := hA9
      cases hP9
      obtain ⟨mp2, G, a, b, hA9⟩ := hA9
      clear hC9 hE
      rw [← getL_set, ← getL_set] at hA9
      go_wp2_with fail
      go_ret
      refine ⟨by simp, ?_⟩
      exact ⟨a, b, v3, setL lc (x, y, z) vw, setL li (x, y, z) vi, l, mp2, m + 1, S, G, _, n + 1, HSL.out _, HSI.out _, by omega, by omega, by omega, nn_set HNN.out _ hi0, hA9.sub (.cons _ (.cons _ (.cons _ (List.Sublist.refl _))))⟩
    · have ef : fa = fz := by have := HFZ.out; simpa [faX, hw] using this
      clear HFZ
      subst ef
      have HW := Lib.hid hw
      clear hw
      replace hE := hE.box w1.heap.size rfl [.int .u64 ow, .int .i64 oi, .bool os] 39
      go_upto_region 13 with fail
      clear rP rX
      generalize w1.alloc _ = w2 at *
      generalize w1.heap.size = O at *
      have rX := hE.rule 2 rfl
      go_upto_region 15 with fail
      clear rX
      refine Ord.wp_chain [6, 27] (fun w' => Blk 0 w' O [.int .u64 ow, .int .i64 oi, .bool os] ∧ Blk 0 w' P [.int .i64 x, .int .i64 y, .int .i64 z] ∧ Blk 0 w' X [.int .i64 3, .int .i64 x, .int .i64 y, .int .i64 z, .int .i64 d, .int .u64 ow, .int .i64 oi, .bool os, .int .u64 vw, .int .i64 vi, .bool vs]) (Stage [Env w0 [boxI O [.int .u64 ow, .int .i64 oi, .bool os], boxI P [.int .i64 x, .int .i64 y, .int .i64 z], boxI X [.int .i64 3, .int .i64 x, .int .i64 y, .int .i64 z, .int .i64 d, .int .u64 ow, .int .i64 oi, .bool os, .int .u64 vw, .int .i64 vi, .bool vs], boxI u (uv v1 v2 v3 fa st), rowO v1 lc, rowO v2 li, intsI v3 l, boxI g (gv p mp s st fa), leadsI mp (getL li) m, soulI s S l, wbox p c, cellI c F (getL lc) q n], fun w' => ∃ mp2 G, Env w0 [boxI O [.int .u64 ow, .int .i64 oi, .bool os], boxI P [.int .i64 x, .int .i64 y, .int .i64 z], boxI X [.int .i64 3, .int .i64 x, .int .i64 y, .int .i64 z, .int .i64 d, .int .u64 ow, .int .i64 oi, .bool os, .int .u64 vw, .int .i64 vi, .bool vs], boxI u (uv v1 v2 v3 fa st), rowO v1 lc, rowO v2 li, intsI v3 l, boxI g (gv p mp2 s st fa), leadsI mp2 (getL li) (m + 1), soulI s S l, wbox p c, cellI c G (getL lc) (swq q false) (n + 1)] w', fun w' => ∃ mp2 G, Env w0 [boxI O [.int .u64 ow, .int .i64 oi, .bool os], boxI P [.int .i64 x, .int .i64 y, .int .i64 z], boxI X [.int .i64 3, .int .i64 x, .int .i64 y, .int .i64 z, .int .i64 d, .int .u64 ow, .int .i64 oi, .bool os, .int .u64 vw, .int .i64 vi, .bool vs], boxI u (uv v1 v2 v3 fa st), rowO v1 lc, rowO v2 li, intsI v3 l, boxI g (gv p mp2 s st fa), leadsI mp2 (getL li) (m + 1), soulI s S l, wbox p c, cellI c G (getL lc) (swq q false) (n + 1)] w']) (by kernel_rfl) (by kernel_rfl) (by kernel_rfl) ⟨hE.drew.get 0 rfl, hE.drew.get 1 rfl, hE.drew.get 2 rfl⟩ ⟨_, rfl, hE.drew⟩ (fun hT => ?_)
      have hT9 := Lib.hid hT
      clear hT
      repeat (first
        | (refine Ord.ch_value (v := ?_) hT9.out (by decide) (by rfl) ?_ ?_; rotate_left; (focus (intro w5 hS; have r0 := hS.1.rule; have r1 := hS.2.1.rule; have r2 := hS.2.2.rule; go_simp <;> with_reducible rfl)); (try simp only [Act.put, List.setIfInBounds_toArray, List.set_cons_zero, List.set_cons_succ]))
        | (refine Ord.ch_off hT9.out (by decide) (by rfl) ?_; (try simp only [Act.put, List.setIfInBounds_toArray, List.set_cons_zero, List.set_cons_succ])))
      refine Ord.ch_turn (v := .bool false) 0 hT9.out rfl (by decide) (Or.inl rfl) (by rfl) ?_ ?_
      · rintro w5 hC5 ⟨P5, hP5, hA5⟩
        cases hP5
        skip
        go_simp
        simp only [Ord.LandsIn]
        refine (swap_g x y z d ow oi vw vi os vs HX.out HV.out HI.out HNM.out HMM.out hl6 7 hA5 rfl rfl rfl rfl rfl).mono ?_
        rintro e6 w6 ⟨rfl, mp2, G, hE6⟩; rw [if_neg HW.out, if_neg HW.out, swf_no HW.out, show decide (getL lc (x, y, z) = ow) = false by simpa using HW.out] at hE6; rw [show decide (getL lc (x, y, z) = ow) = false by simpa using HW.out]; simp only [List.set_cons_succ, List.set_cons_zero] at hE6; exact ⟨rfl, ⟨hE6.get 0 rfl, hE6.get 1 rfl, hE6.get 2 rfl⟩, _, rfl, mp2, G, hE6⟩
      (try simp only [Act.put, List.setIfInBounds_toArray, List.set_cons_zero, List.set_cons_succ])
      repeat (first
        | (refine Ord.ch_value (v := ?_) hT9.out (by decide) (by rfl) ?_ ?_; rotate_left; (focus (intro w5 hS; have r0 := hS.1.rule; have r1 := hS.2.1.rule; have r2 := hS.2.2.rule; go_simp <;> with_reducible rfl)); (try simp only [Act.put, List.setIfInBounds_toArray, List.set_cons_zero, List.set_cons_succ]))
        | (refine Ord.ch_off hT9.out (by decide) (by rfl) ?_; (try simp only [Act.put, List.setIfInBounds_toArray, List.set_cons_zero, List.set_cons_succ])))
      refine Ord.ch_turn (v := .bool false) 1 hT9.out rfl (by decide) (Or.inr ⟨_, rfl, by kernel_rfl⟩) (by rfl) ?_ ?_
      · rintro w5 hC5 ⟨P5, hP5, hA5⟩
        cases hP5
        obtain ⟨mp2, G, hA5⟩ := hA5
        go_simp
        simp only [Ord.LandsIn]
        refine (swap7_u x y z d ow vw vi os vs hl5 hc6 hi6 3 hA5 rfl rfl rfl rfl).mono ?_
        rintro e6 w6 ⟨rfl, a, b, hE6⟩; rw [if_neg HW.out] at hE6; rw [show decide (getL lc (x, y, z) = ow) = false by simpa using HW.out]; exact ⟨rfl, ⟨hE6.get 0 rfl, hE6.get 1 rfl, hE6.get 2 rfl⟩, _, rfl, mp2, G, hE6⟩
      (try simp only [Act.put, List.setIfInBounds_toArray, List.set_cons_zero, List.set_cons_succ])
      repeat (first
        | (refine Ord.ch_value (v := ?_) hT9.out (by decide) (by rfl) ?_ ?_; rotate_left; (focus (intro w5 hS; skip; go_simp <;> with_reducible rfl)); (try simp only [Act.put, List.setIfInBounds_toArray, List.set_cons_zero, List.set_cons_succ]))
        | (refine Ord.ch_off hT9.out (by decide) (by rfl) ?_; (try simp only [Act.put, List.setIfInBounds_toArray, List.set_cons_zero, List.set_cons_succ])))
      refine Ord.InText.nil fun w5 hS => ?_
      clear hT9
      obtain ⟨hC9, hA9⟩ := Ord.chain_end hS
      clear hS
      obtain ⟨P9, hP9, hA9⟩ := hA9
      cases hP9
      obtain ⟨mp2, G, hA9⟩ := hA9
      clear hC9 hE
      skip
      go_wp2_with fail
      go_ret
      refine ⟨by simp, ?_⟩
      exact ⟨v1, v2, v3, lc, li, l, mp2, m + 1, S, G, _, n + 1, by omega, by omega, by omega, by omega, by omega, HNN.out, hA9.sub (.cons _ (.cons _ (.cons _ (List.Sublist.refl _))))⟩
  by_cases h4 : kd = 4
  · subst h4
    have ef : faS l x y d (os || vs) fa = fz := by have := HFZ.out; simpa [faX] using this
    clear HFZ
    have rP := hE.rule 0 rfl
    have rX := hE.rule 1 rfl
    have EF := Lib.hid ef
    clear ef
    obtain ⟨o4, hw⟩ : ∃ o4, getL lc (x, y, z) = o4 := ⟨_, rfl⟩
    have HW := Lib.hid hw
    clear hw
    replace hE := hE.box w1.heap.size rfl [.int .u64 ow, .int .i64 oi, .bool os] 39
    go_upto_region 13 with fail
    clear rP rX
    generalize w1.alloc _ = w2 at *
    generalize w1.heap.size = O at *
    have rX := hE.rule 2 rfl
    go_upto_region 14 with fail
    clear rX
    refine Ord.wp_chain [5, 7] (fun w' => Blk 0 w' P [.int .i64 x, .int .i64 y, .int .i64 z] ∧ Blk 0 w' X [.int .i64 4, .int .i64 x, .int .i64 y, .int .i64 z, .int .i64 d, .int .u64 ow, .int .i64 oi, .bool os, .int .u64 vw, .int .i64 vi, .bool vs]) (Stage [Env w0 [boxI O [.int .u64 ow, .int .i64 oi, .bool os], boxI P [.int .i64 x, .int .i64 y, .int .i64 z], boxI X [.int .i64 4, .int .i64 x, .int .i64 y, .int .i64 z, .int .i64 d, .int .u64 ow, .int .i64 oi, .bool os, .int .u64 vw, .int .i64 vi, .bool vs], boxI u (uv v1 v2 v3 fa st), rowO v1 lc, rowO v2 li, intsI v3 l, boxI g (gv p mp s st fa), leadsI mp (getL li) m, soulI s S l, wbox p c, cellI c F (getL lc) q n], Env w0 [boxI O [.int .u64 ow, .int .i64 oi, .bool os], boxI P [.int .i64 x, .int .i64 y, .int .i64 z], boxI X [.int .i64 4, .int .i64 x, .int .i64 y, .int .i64 z, .int .i64 d, .int .u64 ow, .int .i64 oi, .bool os, .int .u64 vw, .int .i64 vi, .bool vs], boxI u (uv v1 v2 v3 fa st), rowO v1 lc, rowO v2 li, intsI v3 l, boxI g (gv p mp s st fa), leadsI mp (getL li) m, soulI s S l, wbox p c, cellI c F (getL lc) q n], Env w0 [boxI O [.int .u64 o4, .int .i64 oi, .bool os], boxI P [.int .i64 x, .int .i64 y, .int .i64 z], boxI X [.int .i64 4, .int .i64 x, .int .i64 y, .int .i64 z, .int .i64 d, .int .u64 ow, .int .i64 oi, .bool os, .int .u64 vw, .int .i64 vi, .bool vs], boxI u (uv v1 v2 v3 fa st), rowO v1 lc, rowO v2 li, intsI v3 l, boxI g (gv p mp s st fa), leadsI mp (getL li) m, soulI s S l, wbox p c, cellI c F (getL lc) q n]]) (by kernel_rfl) (by kernel_rfl) (by kernel_rfl) ⟨hE.drew.get 1 rfl, hE.drew.get 2 rfl⟩ ⟨_, rfl, hE.drew⟩ (fun hT => ?_)
    have hT9 := Lib.hid hT
    clear hT
    repeat (first
      | (refine Ord.ch_value (v := ?_) hT9.out (by decide) (by rfl) ?_ ?_; rotate_left; (focus (intro w5 hS; have r0 := hS.1.rule; have r1 := hS.2.rule; go_simp <;> with_reducible rfl)); (try simp only [Act.put, List.setIfInBounds_toArray, List.set_cons_zero, List.set_cons_succ]))
      | (refine Ord.ch_off hT9.out (by decide) (by rfl) ?_; (try simp only [Act.put, List.setIfInBounds_toArray, List.set_cons_zero, List.set_cons_succ])))
    refine Ord.ch_turn (v := .int .u64 o4) 0 hT9.out rfl (by decide) (Or.inl rfl) (by rfl) ?_ ?_
    · rintro w5 hC5 ⟨P5, hP5, hA5⟩
      cases hP5
      skip
      go_simp
      simp only [Ord.LandsIn]
      refine (get_u x y z hc6 0 3 4 hA5 rfl rfl rfl).mono ?_
      rintro e6 w6 ⟨rfl, hb6⟩; rw [HW.out]; have hE6 := hA5.over hb6; exact ⟨rfl, ⟨hE6.get 1 rfl, hE6.get 2 rfl⟩, _, rfl, hE6⟩
    (try simp only [Act.put, List.setIfInBounds_toArray, List.set_cons_zero, List.set_cons_succ])
    repeat (first
      | (refine Ord.ch_value (v := ?_) hT9.out (by decide) (by rfl) ?_ ?_; rotate_left; (focus (intro w5 hS; have r0 := hS.1.rule; have r1 := hS.2.rule; go_simp <;> with_reducible rfl)); (try simp only [Act.put, List.setIfInBounds_toArray, List.set_cons_zero, List.set_cons_succ]))
      | (refine Ord.ch_off hT9.out (by decide) (by rfl) ?_; (try simp only [Act.put, List.setIfInBounds_toArray, List.set_cons_zero, List.set_cons_succ])))
    refine Ord.ch_turn (v := undef) 1 hT9.out rfl (by decide) (Or.inr ⟨_, rfl, by kernel_rfl⟩) (by rfl) ?_ ?_
    · rintro w5 hC5 ⟨P5, hP5, hA5⟩
      cases hP5
      have r := hA5.rule 0 rfl
      have f0 := hA5.thaw 0 rfl 0 (by simp)
      go_simp
      have hE6 := hA5.put 0 rfl (j := 0) (by simp) (.int .u64 o4)
      simp only [List.set_cons_succ, List.set_cons_zero] at hE6
      exact ⟨rfl, ⟨hE6.get 1 rfl, hE6.get 2 rfl⟩, _, rfl, hE6⟩
    (try simp only [Act.put, List.setIfInBounds_toArray, List.set_cons_zero, List.set_cons_succ])
    refine Ord.InText.nil fun w5 hS => ?_
    clear hT9
    obtain ⟨hC9, hA9⟩ := Ord.chain_end hS
    clear hS
    obtain ⟨P9, hP9, hA9⟩ := hA9
    cases hP9
    clear hC9 hE
    have hE := hA9
    clear hA9
    go_wp2_with fail
    refine Ord.wp_chain [6, 27] (fun w' => Blk 0 w' O [.int .u64 o4, .int .i64 oi, .bool os] ∧ Blk 0 w' P [.int .i64 x, .int .i64 y, .int .i64 z] ∧ Blk 0 w' X [.int .i64 4, .int .i64 x, .int .i64 y, .int .i64 z, .int .i64 d, .int .u64 ow, .int .i64 oi, .bool os, .int .u64 vw, .int .i64 vi, .bool vs]) (Stage [Env w0 [boxI O [.int .u64 o4, .int .i64 oi, .bool os], boxI P [.int .i64 x, .int .i64 y, .int .i64 z], boxI X [.int .i64 4, .int .i64 x, .int .i64 y, .int .i64 z, .int .i64 d, .int .u64 ow, .int .i64 oi, .bool os, .int .u64 vw, .int .i64 vi, .bool vs], boxI u (uv v1 v2 v3 fa st), rowO v1 lc, rowO v2 li, intsI v3 l, boxI g (gv p mp s st fa), leadsI mp (getL li) m, soulI s S l, wbox p c, cellI c F (getL lc) q n], fun w' => ∃ mp2 G, Env w0 [boxI O [.int .u64 o4, .int .i64 oi, .bool os], boxI P [.int .i64 x, .int .i64 y, .int .i64 z], boxI X [.int .i64 4, .int .i64 x, .int .i64 y, .int .i64 z, .int .i64 d, .int .u64 ow, .int .i64 oi, .bool os, .int .u64 vw, .int .i64 vi, .bool vs], boxI u (uv v1 v2 v3 fa st), rowO v1 lc, rowO v2 li, intsI v3 l, boxI g (gv p mp2 s st fz), leadsI mp2 (upd (getL li) (x, y, z) vi) (m + 1), soulI s S l, wbox p c, cellI c G (upd (getL lc) (x, y, z) vw) (swq q true) (n + 1)] w', fun w' => ∃ mp2 G a b, Env w0 [boxI O [.int .u64 o4, .int .i64 oi, .bool os], boxI P [.int .i64 x, .int .i64 y, .int .i64 z], boxI X [.int .i64 4, .int .i64 x, .int .i64 y, .int .i64 z, .int .i64 d, .int .u64 ow, .int .i64 oi, .bool os, .int .u64 vw, .int .i64 vi, .bool vs], boxI u (uv a b v3 fz st), rowO a (setL lc (x, y, z) vw), rowO b (setL li (x, y, z) vi), intsI v3 l, boxI g (gv p mp2 s st fz), leadsI mp2 (upd (getL li) (x, y, z) vi) (m + 1), soulI s S l, wbox p c, cellI c G (upd (getL lc) (x, y, z) vw) (swq q true) (n + 1)] w']) (by kernel_rfl) (by kernel_rfl) (by kernel_rfl) ⟨hE.drew.get 0 rfl, hE.drew.get 1 rfl, hE.drew.get 2 rfl⟩ ⟨_, rfl, hE.drew⟩ (fun hT => ?_)
    have hT9 := Lib.hid hT
    clear hT
    repeat (first
      | (refine Ord.ch_value (v := ?_) hT9.out (by decide) (by rfl) ?_ ?_; rotate_left; (focus (intro w5 hS; have r0 := hS.1.rule; have r1 := hS.2.1.rule; have r2 := hS.2.2.rule; go_simp <;> with_reducible rfl)); (try simp only [Act.put, List.setIfInBounds_toArray, List.set_cons_zero, List.set_cons_succ]))
      | (refine Ord.ch_off hT9.out (by decide) (by rfl) ?_; (try simp only [Act.put, List.setIfInBounds_toArray, List.set_cons_zero, List.set_cons_succ])))
    refine Ord.ch_turn (v := .bool true) 0 hT9.out rfl (by decide) (Or.inl rfl) (by rfl) ?_ ?_
    · rintro w5 hC5 ⟨P5, hP5, hA5⟩
      cases hP5
      skip
      go_simp
      simp only [Ord.LandsIn]
      refine (swap_g x y z d o4 oi vw vi os vs HX.out HV.out HI.out HNM.out HMM.out hl6 7 hA5 rfl rfl rfl rfl rfl).mono ?_
      rintro e6 w6 ⟨rfl, mp2, G, hE6⟩; rw [if_pos HW.out, if_pos HW.out, swf_yes HW.out, EF.out, show decide (getL lc (x, y, z) = o4) = true by simpa using HW.out] at hE6; rw [show decide (getL lc (x, y, z) = o4) = true by simpa using HW.out]; simp only [List.set_cons_succ, List.set_cons_zero] at hE6; exact ⟨rfl, ⟨hE6.get 0 rfl, hE6.get 1 rfl, hE6.get 2 rfl⟩, _, rfl, mp2, G, hE6⟩
    (try simp only [Act.put, List.setIfInBounds_toArray, List.set_cons_zero, List.set_cons_succ])
    repeat (first
      | (refine Ord.ch_value (v := ?_) hT9.out (by decide) (by rfl) ?_ ?_; rotate_left; (focus (intro w5 hS; have r0 := hS.1.rule; have r1 := hS.2.1.rule; have r2 := hS.2.2.rule; go_simp <;> with_reducible rfl)); (try simp only [Act.put, List.setIfInBounds_toArray, List.set_cons_zero, List.set_cons_succ]))
      | (refine Ord.ch_off hT9.out (by decide) (by rfl) ?_; (try simp only [Act.put, List.setIfInBounds_toArray, List.set_cons_zero, List.set_cons_succ])))
    refine Ord.ch_turn (v := .bool true) 1 hT9.out rfl (by decide) (Or.inr ⟨_, rfl, by kernel_rfl⟩) (by rfl) ?_ ?_
    · rintro w5 hC5 ⟨P5, hP5, hA5⟩
      cases hP5
      obtain ⟨mp2, G, hA5⟩ := hA5
      go_simp
      simp only [Ord.LandsIn]
      refine (swap7_u x y z d o4 vw vi os vs hl5 hc6 hi6 3 hA5 rfl rfl rfl rfl).mono ?_
      rintro e6 w6 ⟨rfl, a, b, hE6⟩; rw [if_pos HW.out, EF.out, HWU.out] at hE6; simp only [storeL, List.set_cons_succ, List.set_cons_zero] at hE6; rw [show decide (getL lc (x, y, z) = o4) = true by simpa using HW.out]; exact ⟨rfl, ⟨hE6.get 0 rfl, hE6.get 1 rfl, hE6.get 2 rfl⟩, _, rfl, mp2, G, a, b, hE6⟩
    (try simp only [Act.put, List.setIfInBounds_toArray, List.set_cons_zero, List.set_cons_succ])
    repeat (first
      | (refine Ord.ch_value (v := ?_) hT9.out (by decide) (by rfl) ?_ ?_; rotate_left; (focus (intro w5 hS; skip; go_simp <;> with_reducible rfl)); (try simp only [Act.put, List.setIfInBounds_toArray, List.set_cons_zero, List.set_cons_succ]))
      | (refine Ord.ch_off hT9.out (by decide) (by rfl) ?_; (try simp only [Act.put, List.setIfInBounds_toArray, List.set_cons_zero, List.set_cons_succ])))
    refine Ord.InText.nil fun w5 hS => ?_
    clear hT9
    obtain ⟨hC9, hA9⟩ := Ord.chain_end hS
    clear hS
    obtain ⟨P9, hP9, hA9⟩ := hA9
    cases hP9
    obtain ⟨mp2, G, a, b, hA9⟩ := hA9
    clear hC9 hE
    rw [← getL_set, ← getL_set] at hA9
    go_wp2_with fail
    go_ret
    refine ⟨by simp, ?_⟩
    exact ⟨a, b, v3, setL lc (x, y, z) vw, setL li (x, y, z) vi, l, mp2, m + 1, S, G, _, n + 1, HSL.out _, HSI.out _, by omega, by omega, by omega, nn_set HNN.out _ hi0, hA9.sub (.cons _ (.cons _ (.cons _ (List.Sublist.refl _))))⟩
    
  have hf1 : fa = fz := by have := HFZ.out; simpa [faX, h2, h3, h4] using this
  clear HFZ
  subst hf1
  by_cases h5 : kd = 5
  · subst h5
    have rP := hE.rule 0 rfl
    have rX := hE.rule 1 rfl
    go_wp2_with fail
    clear rP rX
    refine Ord.wp_chain [6, 12] (fun w' => Blk 0 w' P [.int .i64 x, .int .i64 y, .int .i64 z] ∧ Blk 0 w' X [.int .i64 5, .int .i64 x, .int .i64 y, .int .i64 z, .int .i64 d, .int .u64 ow, .int .i64 oi, .bool os, .int .u64 vw, .int .i64 vi, .bool vs]) (Stage [Env w0 [boxI P [.int .i64 x, .int .i64 y, .int .i64 z], boxI X [.int .i64 5, .int .i64 x, .int .i64 y, .int .i64 z, .int .i64 d, .int .u64 ow, .int .i64 oi, .bool os, .int .u64 vw, .int .i64 vi, .bool vs], boxI u (uv v1 v2 v3 fa st), rowO v1 lc, rowO v2 li, intsI v3 l, boxI g (gv p mp s st fa), leadsI mp (getL li) m, soulI s S l, wbox p c, cellI c F (getL lc) q n], fun w' => ∃ G, Env w0 [boxI P [.int .i64 x, .int .i64 y, .int .i64 z], boxI X [.int .i64 5, .int .i64 x, .int .i64 y, .int .i64 z, .int .i64 d, .int .u64 ow, .int .i64 oi, .bool os, .int .u64 vw, .int .i64 vi, .bool vs], boxI u (uv v1 v2 v3 fa st), rowO v1 lc, rowO v2 li, intsI v3 l, boxI g (gv p mp s st fa), leadsI mp (getL li) m, soulI s S l, wbox p c, cellI c G (upd (getL lc) (x, y, z) (IntKind.u64.wrap (getL lc (x, y, z) + vw))) { q with a := wrap64 (q.a + 1) } (n + 1)] w', fun w' => ∃ G a, Env w0 [boxI P [.int .i64 x, .int .i64 y, .int .i64 z], boxI X [.int .i64 5, .int .i64 x, .int .i64 y, .int .i64 z, .int .i64 d, .int .u64 ow, .int .i64 oi, .bool os, .int .u64 vw, .int .i64 vi, .bool vs], boxI u (uv a v2 v3 fa st), rowO a (setL lc (x, y, z) (IntKind.u64.wrap (getL lc (x, y, z) + vw))), rowO v2 li, intsI v3 l, boxI g (gv p mp s st fa), leadsI mp (getL li) m, soulI s S l, wbox p c, cellI c G (upd (getL lc) (x, y, z) (IntKind.u64.wrap (getL lc (x, y, z) + vw))) { q with a := wrap64 (q.a + 1) } (n + 1)] w']) (by kernel_rfl) (by kernel_rfl) (by kernel_rfl) ⟨hE.drew.get 0 rfl, hE.drew.get 1 rfl⟩ ⟨_, rfl, hE.drew⟩ (fun hT => ?_)
    have hT9 := Lib.hid hT
    clear hT
    repeat (first
      | (refine Ord.ch_value (v := ?_) hT9.out (by decide) (by rfl) ?_ ?_; rotate_left; (focus (intro w5 hS; have r0 := hS.1.rule; have r1 := hS.2.rule; go_simp <;> with_reducible rfl)); (try simp only [Act.put, List.setIfInBounds_toArray, List.set_cons_zero, List.set_cons_succ]))
      | (refine Ord.ch_off hT9.out (by decide) (by rfl) ?_; (try simp only [Act.put, List.setIfInBounds_toArray, List.set_cons_zero, List.set_cons_succ])))
    refine Ord.ch_turn (v := .int .u64 (getL lc (x, y, z))) 0 hT9.out rfl (by decide) (Or.inl rfl) (by rfl) ?_ ?_
    · rintro w5 hC5 ⟨P5, hP5, hA5⟩
      cases hP5
      skip
      go_simp
      simp only [Ord.LandsIn]
      refine (add_g x y z d vw HX.out HNM.out 6 hA5 rfl rfl rfl).mono ?_
      rintro e6 w6 ⟨rfl, G, hE6⟩; simp only [List.set_cons_succ, List.set_cons_zero] at hE6; exact ⟨rfl, ⟨hE6.get 0 rfl, hE6.get 1 rfl⟩, _, rfl, G, hE6⟩
    (try simp only [Act.put, List.setIfInBounds_toArray, List.set_cons_zero, List.set_cons_succ])
    repeat (first
      | (refine Ord.ch_value (v := ?_) hT9.out (by decide) (by rfl) ?_ ?_; rotate_left; (focus (intro w5 hS; have r0 := hS.1.rule; have r1 := hS.2.rule; go_simp <;> with_reducible rfl)); (try simp only [Act.put, List.setIfInBounds_toArray, List.set_cons_zero, List.set_cons_succ]))
      | (refine Ord.ch_off hT9.out (by decide) (by rfl) ?_; (try simp only [Act.put, List.setIfInBounds_toArray, List.set_cons_zero, List.set_cons_succ])))
    refine Ord.ch_turn (v := .int .u64 (getL lc (x, y, z))) 1 hT9.out rfl (by decide) (Or.inr ⟨_, rfl, by kernel_rfl⟩) (by rfl) ?_ ?_
    · rintro w5 hC5 ⟨P5, hP5, hA5⟩
      cases hP5
      obtain ⟨G, hA5⟩ := hA5
      go_simp
      simp only [Ord.LandsIn]
      refine (add8_u x y z vw hc6 2 hA5 rfl rfl).mono ?_
      rintro e6 w6 ⟨rfl, a, hE6⟩; simp only [List.set_cons_succ, List.set_cons_zero] at hE6; exact ⟨rfl, ⟨hE6.get 0 rfl, hE6.get 1 rfl⟩, _, rfl, G, a, hE6⟩
    (try simp only [Act.put, List.setIfInBounds_toArray, List.set_cons_zero, List.set_cons_succ])
    repeat (first
      | (refine Ord.ch_value (v := ?_) hT9.out (by decide) (by rfl) ?_ ?_; rotate_left; (focus (intro w5 hS; skip; go_simp <;> with_reducible rfl)); (try simp only [Act.put, List.setIfInBounds_toArray, List.set_cons_zero, List.set_cons_succ]))
      | (refine Ord.ch_off hT9.out (by decide) (by rfl) ?_; (try simp only [Act.put, List.setIfInBounds_toArray, List.set_cons_zero, List.set_cons_succ])))
    refine Ord.InText.nil fun w5 hS => ?_
    clear hT9
    obtain ⟨hC9, hA9⟩ := Ord.chain_end hS
    clear hS
    obtain ⟨P9, hP9, hA9⟩ := hA9
    cases hP9
    obtain ⟨G, a, hA9⟩ := hA9
    clear hC9 hE
    rw [← getL_set] at hA9
    go_wp2_with fail
    go_ret
    refine ⟨by simp, ?_⟩
    exact ⟨a, v2, v3, setL lc (x, y, z) _, li, l, mp, m, S, G, _, n + 1, HSL.out _, by omega, by omega, by omega, by omega, HNN.out, hA9.sub (.cons _ (.cons _ (List.Sublist.refl _)))⟩
  by_cases h6 : kd = 6
  · subst h6
    have rP := hE.rule 0 rfl
    have rX := hE.rule 1 rfl
    go_wp2_with fail
    clear rP rX
    refine Ord.wp_chain [3, 10] (fun w' => Blk 0 w' P [.int .i64 x, .int .i64 y, .int .i64 z] ∧ Blk 0 w' X [.int .i64 6, .int .i64 x, .int .i64 y, .int .i64 z, .int .i64 d, .int .u64 ow, .int .i64 oi, .bool os, .int .u64 vw, .int .i64 vi, .bool vs]) (Stage [Env w0 [boxI P [.int .i64 x, .int .i64 y, .int .i64 z], boxI X [.int .i64 6, .int .i64 x, .int .i64 y, .int .i64 z, .int .i64 d, .int .u64 ow, .int .i64 oi, .bool os, .int .u64 vw, .int .i64 vi, .bool vs], boxI u (uv v1 v2 v3 fa st), rowO v1 lc, rowO v2 li, intsI v3 l, boxI g (gv p mp s st fa), leadsI mp (getL li) m, soulI s S l, wbox p c, cellI c F (getL lc) q n], fun w' => ∃ G, Env w0 [boxI P [.int .i64 x, .int .i64 y, .int .i64 z], boxI X [.int .i64 6, .int .i64 x, .int .i64 y, .int .i64 z, .int .i64 d, .int .u64 ow, .int .i64 oi, .bool os, .int .u64 vw, .int .i64 vi, .bool vs], boxI u (uv v1 v2 v3 fa st), rowO v1 lc, rowO v2 li, intsI v3 l, boxI g (gv p mp s st fa), leadsI mp (getL li) m, soulI s G (bornL l y), wbox p c, cellI c F (getL lc) q n] w', fun w' => ∃ G a, Env w0 [boxI P [.int .i64 x, .int .i64 y, .int .i64 z], boxI X [.int .i64 6, .int .i64 x, .int .i64 y, .int .i64 z, .int .i64 d, .int .u64 ow, .int .i64 oi, .bool os, .int .u64 vw, .int .i64 vi, .bool vs], boxI u (uv v1 v2 a fa st), rowO v1 lc, rowO v2 li, intsI a (bornL l y), boxI g (gv p mp s st fa), leadsI mp (getL li) m, soulI s G (bornL l y), wbox p c, cellI c F (getL lc) q n] w']) (by kernel_rfl) (by kernel_rfl) (by kernel_rfl) ⟨hE.drew.get 0 rfl, hE.drew.get 1 rfl⟩ ⟨_, rfl, hE.drew⟩ (fun hT => ?_)
    have hT9 := Lib.hid hT
    clear hT
    repeat (first
      | (refine Ord.ch_value (v := ?_) hT9.out (by decide) (by rfl) ?_ ?_; rotate_left; (focus (intro w5 hS; have r0 := hS.1.rule; have r1 := hS.2.rule; go_simp <;> with_reducible rfl)); (try simp only [Act.put, List.setIfInBounds_toArray, List.set_cons_zero, List.set_cons_succ]))
      | (refine Ord.ch_off hT9.out (by decide) (by rfl) ?_; (try simp only [Act.put, List.setIfInBounds_toArray, List.set_cons_zero, List.set_cons_succ])))
    refine Ord.ch_turn (v := .int .i64 (bornV l y)) 0 hT9.out rfl (by decide) (Or.inl rfl) (by rfl) ?_ ?_
    · rintro w5 hC5 ⟨P5, hP5, hA5⟩
      cases hP5
      skip
      go_simp
      simp only [Ord.LandsIn]
      refine (born_g y HX.out.2.1 hl5 6 hA5 rfl rfl).mono ?_
      rintro e6 w6 ⟨rfl, G, hE6⟩; simp only [List.set_cons_succ, List.set_cons_zero] at hE6; exact ⟨rfl, ⟨hE6.get 0 rfl, hE6.get 1 rfl⟩, _, rfl, G, hE6⟩
    (try simp only [Act.put, List.setIfInBounds_toArray, List.set_cons_zero, List.set_cons_succ])
    repeat (first
      | (refine Ord.ch_value (v := ?_) hT9.out (by decide) (by rfl) ?_ ?_; rotate_left; (focus (intro w5 hS; have r0 := hS.1.rule; have r1 := hS.2.rule; go_simp <;> with_reducible rfl)); (try simp only [Act.put, List.setIfInBounds_toArray, List.set_cons_zero, List.set_cons_succ]))
      | (refine Ord.ch_off hT9.out (by decide) (by rfl) ?_; (try simp only [Act.put, List.setIfInBounds_toArray, List.set_cons_zero, List.set_cons_succ])))
    refine Ord.ch_turn (v := .int .i64 (bornV l y)) 1 hT9.out rfl (by decide) (Or.inr ⟨_, rfl, by kernel_rfl⟩) (by rfl) ?_ ?_
    · rintro w5 hC5 ⟨P5, hP5, hA5⟩
      cases hP5
      obtain ⟨G, hA5⟩ := hA5
      go_simp
      simp only [Ord.LandsIn]
      refine (born_u y hl5 2 2 5 (by decide) hA5 rfl rfl rfl).mono ?_
      rintro e6 w6 ⟨rfl, a, hE6⟩; simp only [List.set_cons_succ, List.set_cons_zero] at hE6; exact ⟨rfl, ⟨hE6.get 0 rfl, hE6.get 1 rfl⟩, _, rfl, G, a, hE6⟩
    (try simp only [Act.put, List.setIfInBounds_toArray, List.set_cons_zero, List.set_cons_succ])
    repeat (first
      | (refine Ord.ch_value (v := ?_) hT9.out (by decide) (by rfl) ?_ ?_; rotate_left; (focus (intro w5 hS; skip; go_simp <;> with_reducible rfl)); (try simp only [Act.put, List.setIfInBounds_toArray, List.set_cons_zero, List.set_cons_succ]))
      | (refine Ord.ch_off hT9.out (by decide) (by rfl) ?_; (try simp only [Act.put, List.setIfInBounds_toArray, List.set_cons_zero, List.set_cons_succ])))
    refine Ord.InText.nil fun w5 hS => ?_
    clear hT9
    obtain ⟨hC9, hA9⟩ := Ord.chain_end hS
    clear hS
    obtain ⟨P9, hP9, hA9⟩ := hA9
    cases hP9
    obtain ⟨G, a, hA9⟩ := hA9
    clear hC9 hE
    go_wp2_with fail
    go_ret
    refine ⟨by simp, ?_⟩
    exact ⟨v1, v2, a, lc, li, bornL l y, mp, m, G, F, _, n, by omega, by omega, by omega, by omega, by omega, HNN.out, hA9.sub (.cons _ (.cons _ (List.Sublist.refl _)))⟩
  have rP := hE.rule 0 rfl
  have rX := hE.rule 1 rfl
  go_wp2_with fail
  clear rP rX
  refine Ord.wp_chain [] (fun w' => Env w0 [boxI P [.int .i64 x, .int .i64 y, .int .i64 z], boxI X [.int .i64 kd, .int .i64 x, .int .i64 y, .int .i64 z, .int .i64 d, .int .u64 ow, .int .i64 oi, .bool os, .int .u64 vw, .int .i64 vi, .bool vs], boxI u (uv v1 v2 v3 fa st), rowO v1 lc, rowO v2 li, intsI v3 l, boxI g (gv p mp s st fa), leadsI mp (getL li) m, soulI s S l, wbox p c, cellI c F (getL lc) q n] w') (fun _ _ => True) (by kernel_rfl) (by kernel_rfl) (by kernel_rfl) hE.drew trivial (fun hT => ?_)
  have hT9 := Lib.hid hT
  clear hT
  repeat (first
    | (refine Ord.ch_value (v := ?_) hT9.out (by decide) (by rfl) ?_ ?_; rotate_left; (focus (intro w5 hS; have r0 := hS.rule 0 rfl; go_simp <;> with_reducible rfl)); (try simp only [Act.put, List.setIfInBounds_toArray, List.set_cons_zero, List.set_cons_succ]))
    | (refine Ord.ch_off hT9.out (by decide) (by rfl) ?_; (try simp only [Act.put, List.setIfInBounds_toArray, List.set_cons_zero, List.set_cons_succ]))
    | (refine Ord.ch_call (v := ?_) (f := ?_) (args := ?_) hT9.out (by decide) (by rfl) ?_ ?_ ?_; rotate_left 3; (focus (intro w5 hS; have r0 := hS.rule 0 rfl; go_simp; constructor <;> with_reducible rfl)); (focus (intro w5 hS; (first | (with_reducible refine (peek_g x y z HX.out 6 hS rfl rfl rfl).mono ?_; rintro e w6 ⟨rfl, hb6⟩; constructor; with_reducible rfl; exact ⟨hS.over hb6, fun _ h => h⟩) | (with_reducible refine (get_u x y z hc6 0 2 3 hS rfl rfl rfl).mono ?_; rintro e w6 ⟨rfl, hb6⟩; constructor; with_reducible rfl; exact ⟨hS.over hb6, fun _ h => h⟩)))); (try simp only [Act.put, List.setIfInBounds_toArray, List.set_cons_zero, List.set_cons_succ])))
  refine Ord.InText.nil fun w5 hS => ?_
  clear hT9
  obtain ⟨hC9, hA9⟩ := Ord.chain_end hS
  clear hS
  clear hA9
  go_wp2_with fail
  go_ret
  refine ⟨by simp, ?_⟩
  exact ⟨v1, v2, v3, lc, li, l, mp, m, S, F, _, n, by omega, by omega, by omega, by omega, by omega, HNN.out, hC9.sub (.cons _ (.cons _ (List.Sublist.refl _)))⟩
end
end Go.Proofs.Ytmihfpdbaagjnaa
