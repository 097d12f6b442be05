/- An access of both, the ideal world and the reference: the answers are the same, and so is what they keep. -/
import Derived.Test.YtnlepgbmbdmjbaaIdealO
import Derived.Test.YtnlepgbmbdmjbaaIdealR
namespace Go.Proofs.Ytnlepgbmbdmjbaa
open Go.RowKit Go.Maps
set_option maxRecDepth 100000

/-- How many accesses there were, all kinds together. -/
def Sums (q : Cnt) (t : Int) : Prop := q.l + q.s + q.w + q.a = t ∧ 0 ≤ q.l ∧ 0 ≤ q.s ∧ 0 ≤ q.w ∧ 0 ≤ q.a
theorem Sums.load {q : Cnt} {t : Int} (h : Sums q t) (ht : t ≤ 1000) : Sums { q with l := wrap64 (q.l + 1) } (t + 1) := by
  obtain ⟨h0, h1, h2, h3, h4⟩ := h
  have := w64 (q.l + 1) (by omega)
  unfold Sums
  dsimp only
  omega
theorem Sums.store {q : Cnt} {t : Int} (h : Sums q t) (ht : t ≤ 1000) : Sums { q with s := wrap64 (q.s + 1) } (t + 1) := by
  obtain ⟨h0, h1, h2, h3, h4⟩ := h
  have := w64 (q.s + 1) (by omega)
  unfold Sums
  dsimp only
  omega
theorem Sums.add {q : Cnt} {t : Int} (h : Sums q t) (ht : t ≤ 1000) : Sums { q with a := wrap64 (q.a + 1) } (t + 1) := by
  obtain ⟨h0, h1, h2, h3, h4⟩ := h
  have := w64 (q.a + 1) (by omega)
  unfold Sums
  dsimp only
  omega
theorem Sums.swap {q : Cnt} {t : Int} (h : Sums q t) (b : Bool) (ht : t ≤ 1000) : Sums (swq q b) (t + 1) := by
  obtain ⟨h0, h1, h2, h3, h4⟩ := h
  have := w64 (q.w + 1) (by omega)
  unfold Sums swq
  dsimp only
  omega
/-- Both, and what they keep. -/
def IX (w0 : World) (u g c so N : Nat) (cnt : Int) (w' : World) : Prop :=
  ∃ (v1 v2 v3 : Value) (lc li : List OneR) (l : List Int) (mp : Option Nat) (h : Plc → Int) (m : Nat) (S F : Nat → Prop) (f : Plc → Int) (q : Cnt) (n : Nat), lc.length ≤ N ∧ li.length ≤ N ∧ l.length ≤ N ∧ n ≤ N ∧ m ≤ N ∧ Rel f lc ∧ Rel h li ∧ Sums q cnt ∧
    Env w0 [boxI u (uv9 v1 v2 v3), rowO v1 lc, rowO v2 li, intsI v3 l, boxI g (iv c mp so), leadsI mp h m, soulI so S l, cellI c F f q n] w'
theorem IX.below {w0 w' : World} {u g c so N : Nat} {cnt : Int} (h : IX w0 u g c so N cnt w') : Below w0.heap.size w0 w' := by
  obtain ⟨v1, v2, v3, lc, li, l, mp, h, m, S, F, f, q, n, _, _, _, _, _, _, _, _, hE⟩ := h
  exact hE.below
theorem get_e {w0 w : World} {L : List Item} {u : Nat} {vs : List Value} {v : Value} {lx : List OneR} (x y z e : Int) (he : getL lx (x, y, z) = e) (hl : lx.length ≤ 1000000) (o i j : Nat) (hE : Env w0 L w) (hu : L[i]? = some (boxI u vs)) (hvo : vs[o]? = some v) (hj : L[j]? = some (rowO v lx)) :
    Calls Try.prog 32 #[.pointer (some ⟨u, o, none⟩), .agg #[.int .i64 x, .int .i64 y, .int .i64 z]] w fun e' w' => e' = .returned (.int .u64 e) ∧ Below w.heap.size w w' := by
  subst he
  exact get_u x y z hl o i j hE hu hvo hj

set_option maxHeartbeats 25600000 in
theorem does_i {w0 w : World} {u g c so N : Nat} {cnt : Int} (kd x y z d ow oi vw vi : Int) (os vs : Bool) (hx9 : ¬ x = 9) (hx : Wf (x, y, z)) (hd : In64 d) (hv : InU vw) (hi : In64 vi) (hi0 : 0 ≤ vi) (hN : N ≤ 1000) (hcn : cnt ≤ N) (hI : IX w0 u g c so N cnt w) :
    Calls Try.prog 9 #[.pointer (some ⟨g, 0, none⟩), .pointer (some ⟨u, 0, none⟩), .agg #[.int .i64 kd, .int .i64 x, .int .i64 y, .int .i64 z, .int .i64 d, .int .u64 ow, .int .i64 oi, .bool os, .int .u64 vw, .int .i64 vi, .bool vs]] w fun e w' => e = .returned (.bool true) ∧ IX w0 u g c so (N + 1) (cnt + if 1 ≤ kd ∧ kd ≤ 5 then 1 else 0) w' := by
  obtain ⟨v1, v2, v3, lc, li, l, mp, h, m, S, F, f, q, n, hlc, hli, hl, hn, hm, hf, hh, hq, hE⟩ := hI
  obtain ⟨O, hO⟩ : ∃ O, ownP x y z d = O := ⟨_, rfl⟩
  have hO9 : ¬ O.1 = 9 := hO ▸ ownP_9 hx9
  obtain ⟨⟨t1, t2, t3⟩, hT⟩ : ∃ t, phi O = t := ⟨_, rfl⟩
  have hW : whP x y z d = (t1, t2, t3) := by rw [whP_phi, hO, hT]
  obtain ⟨a, ha⟩ : ∃ a, f O = a := ⟨_, rfl⟩
  obtain ⟨b, hb⟩ : ∃ b, h O = b := ⟨_, rfl⟩
  have hga : getL lc (t1, t2, t3) = a := by rw [← hT, ← hf O hO9, ha]
  have hgb : getL li (t1, t2, t3) = b := by rw [← hT, ← hh O hO9, hb]
  have hwr : IntKind.i64.wrap b = b := by rw [wrap_i, ← hb]; exact w64 _ ((hE.leads 5 rfl).nums.u O)
  have hwu : IntKind.u64.wrap vi = vi := by unfold In64 at hi; rw [IntKind.wrap_u64]; omega
  have hfs : ∀ v, Rel (upd f O v) (setL lc (t1, t2, t3) v) := fun v => hT ▸ hf.set hO9 v
  have hhs : ∀ v, Rel (upd h O v) (setL li (t1, t2, t3) v) := fun v => hT ▸ hh.set hO9 v
  have hl5 : l.length ≤ 100000 := by omega
  have hl6 : l.length ≤ 1000000 := by omega
  have hc6 : lc.length ≤ 1000000 := by omega
  have hi6 : li.length ≤ 1000000 := by omega
  have hsl : ∀ a, (setL lc (t1, t2, t3) a).length ≤ N + 1 := fun a => by have := setL_length (t1, t2, t3) a lc; omega
  have hsi : ∀ a, (setL li (t1, t2, t3) a).length ≤ N + 1 := fun a => by have := setL_length (t1, t2, t3) a li; omega
  have hbl : (bornL l y).length ≤ N + 1 := by have := bornL_length l y; omega
  replace hE := (hE.box w.heap.size rfl [.int .i64 kd, .int .i64 x, .int .i64 y, .int .i64 z, .int .i64 d, .int .u64 ow, .int .i64 oi, .bool os, .int .u64 vw, .int .i64 vi, .bool vs] 43).box (w.heap.size + 1) (by simp) [.int .i64 x, .int .i64 y, .int .i64 z] 39
  generalize hcz : (cnt + if 1 ≤ kd ∧ kd ≤ 5 then 1 else 0) = cn
  have HCN := Lib.hid hcz
  have HX := Lib.hid hx
  have HD := Lib.hid hd
  have HV := Lib.hid hv
  have HI := Lib.hid hi
  have H9 := Lib.hid hx9
  have HO := Lib.hid hO
  have HW := Lib.hid hW
  have HA := Lib.hid ha
  have HB := Lib.hid hb
  have HGA := Lib.hid hga
  have HGB := Lib.hid hgb
  have HWR := Lib.hid hwr
  have HWU := Lib.hid hwu
  have HF := Lib.hid hf
  have HH := Lib.hid hh
  have HFS := Lib.hid hfs
  have HHS := Lib.hid hhs
  have HQ := Lib.hid hq
  have HNM : Hid (n < maxLen) := Lib.hid (by unfold maxLen; omega)
  have HMM : Hid (m < maxLen) := Lib.hid (by unfold maxLen; omega)
  have HSL := Lib.hid hsl
  have HSI := Lib.hid hsi
  clear hcz hx hd hv hi hx9 hO hO9 hT hW ha hb hga hgb hwr hwu hf hh hfs hhs hq hsl hsi
  go_enter Try.func9, Try.ntmps9
  go_upto_region 2 with fail
  generalize (w.alloc _).alloc _ = w1 at *
  generalize w.heap.size + 1 = P at *
  generalize w.heap.size = X at *
  have rP := hE.rule 0 rfl
  have rX := hE.rule 1 rfl
  go_wp2_with fail
  refine (where_any x y z d t1 t2 t3 H9.out HW.out _).mono ?_
  rintro e w2 ⟨rfl, hb⟩
  replace hE := (hE.over hb).box w2.heap.size rfl [.int .i64 t1, .int .i64 t2, .int .i64 t3] 39
  clear rP rX hb
  go_wp2_with fail
  generalize w2.alloc _ = w3 at *
  generalize w2.heap.size = T at *
  refine Ord.wp_chain [] (fun w' => Env w0 [boxI T [.int .i64 t1, .int .i64 t2, .int .i64 t3], boxI P [.int .i64 x, .int .i64 y, .int .i64 z], boxI X [.int .i64 kd, .int .i64 x, .int .i64 y, .int .i64 z, .int .i64 d, .int .u64 ow, .int .i64 oi, .bool os, .int .u64 vw, .int .i64 vi, .bool vs], boxI u (uv9 v1 v2 v3), rowO v1 lc, rowO v2 li, intsI v3 l, boxI g (iv c mp so), leadsI mp h m, soulI so S l, cellI c F f q n] w') (fun _ _ => True) (by kernel_rfl) (by kernel_rfl) (by kernel_rfl) hE.drew trivial (fun hT => ?_)
  have hT9 := Lib.hid hT
  clear hT
  repeat (first
    | (refine Ord.ch_value (v := ?_) hT9.out (by decide) (by rfl) ?_ ?_; rotate_left; (focus (intro w5 hS; have rT := hS.rule 0 rfl; go_simp <;> with_reducible rfl)); (try simp only [Act.put, List.setIfInBounds_toArray, List.set_cons_zero, List.set_cons_succ]))
    | (refine Ord.ch_off hT9.out (by decide) (by rfl) ?_; (try simp only [Act.put, List.setIfInBounds_toArray, List.set_cons_zero, List.set_cons_succ]))
    | (refine Ord.ch_call (v := ?_) (f := ?_) (args := ?_) hT9.out (by decide) (by rfl) ?_ ?_ ?_; rotate_left 3; (focus (intro w5 hS; have rT := hS.rule 0 rfl; go_simp; constructor <;> with_reducible rfl)); (focus (intro w5 hS; (first | (with_reducible refine (get_e t1 t2 t3 a HGA.out hc6 0 3 4 hS rfl rfl rfl).mono ?_; rintro e w6 ⟨rfl, hb6⟩; constructor; with_reducible rfl; exact ⟨hS.over hb6, fun _ h => h⟩)))); (try simp only [Act.put, List.setIfInBounds_toArray, List.set_cons_zero, List.set_cons_succ])))
  clear hE
  refine Ord.InText.nil fun w5 hS => ?_
  clear hT9
  obtain ⟨hE, hA9⟩ := Ord.chain_end hS
  clear hS
  clear hA9
  generalize w5 = w4 at *
  by_cases h1 : kd = 1
  · subst h1
    have ec : cnt + 1 = cn := by have := HCN.out; simpa using this
    have EC := Lib.hid ec
    clear ec HCN
    have rX := hE.rule 2 rfl
    go_wp2_with fail
    clear rX
    refine Ord.wp_chain [3] (fun w' => ∃ q9, Env w0 [boxI T [.int .i64 t1, .int .i64 t2, .int .i64 t3], boxI P [.int .i64 x, .int .i64 y, .int .i64 z], boxI X [.int .i64 1, .int .i64 x, .int .i64 y, .int .i64 z, .int .i64 d, .int .u64 ow, .int .i64 oi, .bool os, .int .u64 vw, .int .i64 vi, .bool vs], boxI u (uv9 v1 v2 v3), rowO v1 lc, rowO v2 li, intsI v3 l, boxI g (iv c mp so), leadsI mp h m, soulI so S l, cellI c F f q9 n] w') (Stage [Env w0 [boxI T [.int .i64 t1, .int .i64 t2, .int .i64 t3], boxI P [.int .i64 x, .int .i64 y, .int .i64 z], boxI X [.int .i64 1, .int .i64 x, .int .i64 y, .int .i64 z, .int .i64 d, .int .u64 ow, .int .i64 oi, .bool os, .int .u64 vw, .int .i64 vi, .bool vs], boxI u (uv9 v1 v2 v3), rowO v1 lc, rowO v2 li, intsI v3 l, boxI g (iv c mp so), leadsI mp h m, soulI so S l, cellI c F f q n], Env w0 [boxI T [.int .i64 t1, .int .i64 t2, .int .i64 t3], boxI P [.int .i64 x, .int .i64 y, .int .i64 z], boxI X [.int .i64 1, .int .i64 x, .int .i64 y, .int .i64 z, .int .i64 d, .int .u64 ow, .int .i64 oi, .bool os, .int .u64 vw, .int .i64 vi, .bool vs], boxI u (uv9 v1 v2 v3), rowO v1 lc, rowO v2 li, intsI v3 l, boxI g (iv c mp so), leadsI mp h m, soulI so S l, cellI c F f { q with l := wrap64 (q.l + 1) } n]]) (by kernel_rfl) (by kernel_rfl) (by kernel_rfl) ⟨q, hE.drew⟩ ⟨_, rfl, hE.drew⟩ (fun hT => ?_)
    have hT9 := Lib.hid hT
    clear hT
    repeat (first
      | (refine Ord.ch_value (v := ?_) hT9.out (by decide) (by rfl) ?_ ?_; rotate_left; (focus (intro w5 hS; obtain ⟨q9, hS⟩ := hS; have rX := hS.rule 2 rfl; go_simp <;> with_reducible rfl)); (try simp only [Act.put, List.setIfInBounds_toArray, List.set_cons_zero, List.set_cons_succ]))
      | (refine Ord.ch_off hT9.out (by decide) (by rfl) ?_; (try simp only [Act.put, List.setIfInBounds_toArray, List.set_cons_zero, List.set_cons_succ])))
    refine Ord.ch_turn (v := .agg #[.int .u64 a, .int .i64 b, .bool false]) 0 hT9.out rfl (by decide) (Or.inl rfl) (by rfl) ?_ ?_
    · rintro w5 hC5 ⟨P5, hP5, hA5⟩
      cases hP5
      skip
      go_simp
      simp only [Ord.LandsIn]
      refine (load_o x y z d HX.out HD.out 7 hA5 rfl rfl rfl _ HO.out).mono ?_
      rintro e6 w6 ⟨rfl, hE6⟩; rw [HA.out, HB.out]; simp only [List.set_cons_succ, List.set_cons_zero] at hE6; exact ⟨rfl, ⟨_, hE6⟩, _, rfl, hE6⟩
    (try simp only [Act.put, List.setIfInBounds_toArray, List.set_cons_zero, List.set_cons_succ])
    repeat (first
      | (refine Ord.ch_value (v := ?_) hT9.out (by decide) (by rfl) ?_ ?_; rotate_left; (focus (intro w5 hS; obtain ⟨q9, hS⟩ := hS; have rT := hS.rule 0 rfl; go_simp <;> with_reducible rfl)); (try simp only [Act.put, List.setIfInBounds_toArray, List.set_cons_zero, List.set_cons_succ]))
      | (refine Ord.ch_off hT9.out (by decide) (by rfl) ?_; (try simp only [Act.put, List.setIfInBounds_toArray, List.set_cons_zero, List.set_cons_succ]))
      | (refine Ord.ch_call (v := ?_) (f := ?_) (args := ?_) hT9.out (by decide) (by rfl) ?_ ?_ ?_; rotate_left 3; (focus (intro w5 hS; obtain ⟨q9, hS⟩ := hS; have rT := hS.rule 0 rfl; go_simp; constructor <;> with_reducible rfl)); (focus (intro w5 hS; (first | (obtain ⟨q9, hS⟩ := hS; with_reducible refine (get_e t1 t2 t3 b HGB.out hi6 1 3 5 hS rfl rfl rfl).mono ?_; rintro e w6 ⟨rfl, hb6⟩; constructor; with_reducible rfl; exact ⟨⟨q9, hS.over hb6⟩, Stage.two (fun h => h.over hb6) fun h => h.over hb6⟩)))); (try simp only [Act.put, List.setIfInBounds_toArray, List.set_cons_zero, List.set_cons_succ])))
    refine Ord.ch_value (v := .bool true) hT9.out (by decide) (by rfl) ?_ ?_
    · intro w5 hS
      clear hS
      simp [HWR.out]
      go_simp
    (try simp only [Act.put, List.setIfInBounds_toArray, List.set_cons_zero, List.set_cons_succ])
    repeat (first
      | (refine Ord.ch_value (v := ?_) hT9.out (by decide) (by rfl) ?_ ?_; rotate_left; (focus (intro w5 hS; skip; go_simp <;> with_reducible rfl)); (try simp only [Act.put, List.setIfInBounds_toArray, List.set_cons_zero, List.set_cons_succ]))
      | (refine Ord.ch_off hT9.out (by decide) (by rfl) ?_; (try simp only [Act.put, List.setIfInBounds_toArray, List.set_cons_zero, List.set_cons_succ])))
    refine Ord.InText.nil fun w5 hS => ?_
    clear hT9
    obtain ⟨hC9, hA9⟩ := Ord.chain_end hS
    clear hS
    clear hC9
    obtain ⟨P9, hP9, hA9⟩ := hA9
    cases hP9
    go_wp2_with fail
    go_ret
    refine ⟨rfl, ?_⟩
    exact ⟨v1, v2, v3, lc, li, l, mp, h, m, S, F, f, _, n, by omega, by omega, by omega, by omega, by omega, HF.out, HH.out, EC.out ▸ HQ.out.load (by omega), hA9.sub (.cons _ (.cons _ (.cons _ (List.Sublist.refl _))))⟩
  by_cases h2 : kd = 2
  · subst h2
    have ec : cnt + 1 = cn := by have := HCN.out; simpa using this
    have EC := Lib.hid ec
    clear ec HCN
    have rX := hE.rule 2 rfl
    go_wp2_with fail
    refine (store_o x y z d vw vi vs HX.out HD.out HV.out HI.out HNM.out HMM.out 7 hE rfl rfl rfl _ HO.out).mono ?_
    rintro e w6 ⟨rfl, mp2, F2, hE⟩
    simp only [List.set_cons_succ, List.set_cons_zero] at hE
    clear rX
    have rP := hE.rule 1 rfl
    have rX := hE.rule 2 rfl
    go_wp2_with fail
    refine (set9_u x y z d vw vi t1 t2 t3 H9.out HW.out hc6 hi6 3 hE rfl rfl rfl).mono ?_
    rintro e w7 ⟨rfl, a1, a2, hE⟩
    rw [HWU.out] at hE
    simp only [setL9, List.set_cons_succ, List.set_cons_zero] at hE
    clear rP rX
    go_wp2_with fail
    go_ret
    refine ⟨rfl, ?_⟩
    exact ⟨a1, a2, v3, setL lc (t1, t2, t3) vw, setL li (t1, t2, t3) vi, l, mp2, _, m + 1, S, F2, _, _, n + 1, HSL.out _, HSI.out _, by omega, by omega, by omega, HFS.out vw, HHS.out vi, EC.out ▸ HQ.out.store (by omega), hE.sub (.cons _ (.cons _ (.cons _ (List.Sublist.refl _))))⟩
  by_cases h3 : kd = 3
  · subst h3
    have ec : cnt + 1 = cn := by have := HCN.out; simpa using this
    have EC := Lib.hid ec
    clear ec HCN
    by_cases hw : a = ow
    · subst hw
      have rX := hE.rule 2 rfl
      replace hE := hE.box w4.heap.size rfl [.int .u64 a, .int .i64 oi, .bool os] 37
      go_upto_region 14 with fail
      clear rX
      generalize w4.alloc _ = w6 at *
      generalize w4.heap.size = V at *
      have rX := hE.rule 3 rfl
      go_upto_region 16 with fail
      clear rX
      refine Ord.wp_chain [6] (fun w' => Blk 0 w' V [.int .u64 a, .int .i64 oi, .bool os] ∧ Blk 0 w' X [.int .i64 3, .int .i64 x, .int .i64 y, .int .i64 z, .int .i64 d, .int .u64 a, .int .i64 oi, .bool os, .int .u64 vw, .int .i64 vi, .bool vs]) (Stage [Env w0 [boxI V [.int .u64 a, .int .i64 oi, .bool os], boxI T [.int .i64 t1, .int .i64 t2, .int .i64 t3], boxI P [.int .i64 x, .int .i64 y, .int .i64 z], boxI X [.int .i64 3, .int .i64 x, .int .i64 y, .int .i64 z, .int .i64 d, .int .u64 a, .int .i64 oi, .bool os, .int .u64 vw, .int .i64 vi, .bool vs], boxI u (uv9 v1 v2 v3), rowO v1 lc, rowO v2 li, intsI v3 l, boxI g (iv c mp so), leadsI mp h m, soulI so S l, cellI c F f q n], fun w' => ∃ mp2 G, Env w0 [boxI V [.int .u64 a, .int .i64 oi, .bool os], boxI T [.int .i64 t1, .int .i64 t2, .int .i64 t3], boxI P [.int .i64 x, .int .i64 y, .int .i64 z], boxI X [.int .i64 3, .int .i64 x, .int .i64 y, .int .i64 z, .int .i64 d, .int .u64 a, .int .i64 oi, .bool os, .int .u64 vw, .int .i64 vi, .bool vs], boxI u (uv9 v1 v2 v3), rowO v1 lc, rowO v2 li, intsI v3 l, boxI g (iv c mp2 so), leadsI mp2 (upd h O vi) (m + 1), soulI so S l, cellI c G (upd f O vw) (swq q true) (n + 1)] w']) (by kernel_rfl) (by kernel_rfl) (by kernel_rfl) ⟨hE.drew.get 0 rfl, hE.drew.get 3 rfl⟩ ⟨_, rfl, hE.drew⟩ (fun hT => ?_)
      have hT9 := Lib.hid hT
      clear hT
      repeat (first
        | (refine Ord.ch_value (v := ?_) hT9.out (by decide) (by rfl) ?_ ?_; rotate_left; (focus (intro w5 hS; have r0 := hS.1.rule; have r1 := hS.2.rule; go_simp <;> with_reducible rfl)); (try simp only [Act.put, List.setIfInBounds_toArray, List.set_cons_zero, List.set_cons_succ]))
        | (refine Ord.ch_off hT9.out (by decide) (by rfl) ?_; (try simp only [Act.put, List.setIfInBounds_toArray, List.set_cons_zero, List.set_cons_succ])))
      refine Ord.ch_turn (v := .bool true) 0 hT9.out rfl (by decide) (Or.inl rfl) (by rfl) ?_ ?_
      · rintro w5 hC5 ⟨P5, hP5, hA5⟩
        cases hP5
        skip
        go_simp
        simp only [Ord.LandsIn]
        refine (swap_o x y z d a oi vw vi os vs HX.out HD.out HV.out HI.out HNM.out HMM.out 8 hA5 rfl rfl rfl _ HO.out).mono ?_
        rintro e6 w6 ⟨rfl, mp2, G, hE6⟩; rw [if_pos HA.out, swf_yes HA.out, (show decide (f O = a) = true by simpa using HA.out)] at hE6; rw [(show decide (f O = a) = true by simpa using HA.out)]; simp only [List.set_cons_succ, List.set_cons_zero] at hE6; exact ⟨rfl, ⟨hE6.get 0 rfl, hE6.get 3 rfl⟩, _, rfl, mp2, G, hE6⟩
      (try simp only [Act.put, List.setIfInBounds_toArray, List.set_cons_zero, List.set_cons_succ])
      repeat (first
        | (refine Ord.ch_value (v := ?_) hT9.out (by decide) (by rfl) ?_ ?_; rotate_left; (focus (intro w5 hS; have r0 := hS.1.rule; have r1 := hS.2.rule; go_simp <;> with_reducible rfl)); (try simp only [Act.put, List.setIfInBounds_toArray, List.set_cons_zero, List.set_cons_succ]))
        | (refine Ord.ch_off hT9.out (by decide) (by rfl) ?_; (try simp only [Act.put, List.setIfInBounds_toArray, List.set_cons_zero, List.set_cons_succ])))
      refine Ord.InText.nil fun w5 hS => ?_
      clear hT9
      obtain ⟨hC9, hA9⟩ := Ord.chain_end hS
      clear hS
      obtain ⟨P9, hP9, hA9⟩ := hA9
      cases hP9
      obtain ⟨mp2, G, hE⟩ := hA9
      clear hC9
      have rV := hE.rule 0 rfl
      have rP := hE.rule 2 rfl
      have rX := hE.rule 3 rfl
      go_wp2_with fail
      refine (set9_u x y z d vw vi t1 t2 t3 H9.out HW.out hc6 hi6 4 hE rfl rfl rfl).mono ?_
      rintro e w7 ⟨rfl, a1, a2, hE⟩
      rw [HWU.out] at hE
      simp only [setL9, List.set_cons_succ, List.set_cons_zero] at hE
      clear rV rP rX
      go_wp2_with fail
      go_ret
      refine ⟨rfl, ?_⟩
      exact ⟨a1, a2, v3, setL lc (t1, t2, t3) vw, setL li (t1, t2, t3) vi, l, mp2, _, m + 1, S, G, _, _, n + 1, HSL.out _, HSI.out _, by omega, by omega, by omega, HFS.out vw, HHS.out vi, EC.out ▸ HQ.out.swap true (by omega), hE.sub (.cons _ (.cons _ (.cons _ (.cons _ (List.Sublist.refl _)))))⟩
    · have HNE := Lib.hid hw
      have hbn : (ow == a) = false := by rw [beq_eq_false_iff_ne]; exact fun e => hw e.symm
      have HNF : Hid (¬ f O = ow) := Lib.hid (by rw [HA.out]; exact hw)
      clear hw
      have rX := hE.rule 2 rfl
      replace hE := hE.box w4.heap.size rfl [.int .u64 ow, .int .i64 oi, .bool os] 37
      go_upto_region 14 with fail
      clear rX
      generalize w4.alloc _ = w6 at *
      generalize w4.heap.size = V at *
      have rX := hE.rule 3 rfl
      go_upto_region 16 with fail
      clear rX
      refine Ord.wp_chain [6] (fun w' => Blk 0 w' V [.int .u64 ow, .int .i64 oi, .bool os] ∧ Blk 0 w' X [.int .i64 3, .int .i64 x, .int .i64 y, .int .i64 z, .int .i64 d, .int .u64 ow, .int .i64 oi, .bool os, .int .u64 vw, .int .i64 vi, .bool vs]) (Stage [Env w0 [boxI V [.int .u64 ow, .int .i64 oi, .bool os], boxI T [.int .i64 t1, .int .i64 t2, .int .i64 t3], boxI P [.int .i64 x, .int .i64 y, .int .i64 z], boxI X [.int .i64 3, .int .i64 x, .int .i64 y, .int .i64 z, .int .i64 d, .int .u64 ow, .int .i64 oi, .bool os, .int .u64 vw, .int .i64 vi, .bool vs], boxI u (uv9 v1 v2 v3), rowO v1 lc, rowO v2 li, intsI v3 l, boxI g (iv c mp so), leadsI mp h m, soulI so S l, cellI c F f q n], fun w' => ∃ mp2 G, Env w0 [boxI V [.int .u64 ow, .int .i64 oi, .bool os], boxI T [.int .i64 t1, .int .i64 t2, .int .i64 t3], boxI P [.int .i64 x, .int .i64 y, .int .i64 z], boxI X [.int .i64 3, .int .i64 x, .int .i64 y, .int .i64 z, .int .i64 d, .int .u64 ow, .int .i64 oi, .bool os, .int .u64 vw, .int .i64 vi, .bool vs], boxI u (uv9 v1 v2 v3), rowO v1 lc, rowO v2 li, intsI v3 l, boxI g (iv c mp2 so), leadsI mp2 h (m + 1), soulI so S l, cellI c G f (swq q false) (n + 1)] w']) (by kernel_rfl) (by kernel_rfl) (by kernel_rfl) ⟨hE.drew.get 0 rfl, hE.drew.get 3 rfl⟩ ⟨_, rfl, hE.drew⟩ (fun hT => ?_)
      have hT9 := Lib.hid hT
      clear hT
      repeat (first
        | (refine Ord.ch_value (v := ?_) hT9.out (by decide) (by rfl) ?_ ?_; rotate_left; (focus (intro w5 hS; have r0 := hS.1.rule; have r1 := hS.2.rule; go_simp <;> with_reducible rfl)); (try simp only [Act.put, List.setIfInBounds_toArray, List.set_cons_zero, List.set_cons_succ]))
        | (refine Ord.ch_off hT9.out (by decide) (by rfl) ?_; (try simp only [Act.put, List.setIfInBounds_toArray, List.set_cons_zero, List.set_cons_succ])))
      refine Ord.ch_turn (v := .bool false) 0 hT9.out rfl (by decide) (Or.inl rfl) (by rfl) ?_ ?_
      · rintro w5 hC5 ⟨P5, hP5, hA5⟩
        cases hP5
        skip
        go_simp
        simp only [Ord.LandsIn]
        refine (swap_o x y z d ow oi vw vi os vs HX.out HD.out HV.out HI.out HNM.out HMM.out 8 hA5 rfl rfl rfl _ HO.out).mono ?_
        rintro e6 w6 ⟨rfl, mp2, G, hE6⟩; rw [if_neg HNF.out, swf_no HNF.out, (show decide (f O = ow) = false by have := HA.out; have := HNE.out; simp_all)] at hE6; rw [(show decide (f O = ow) = false by have := HA.out; have := HNE.out; simp_all)]; simp only [List.set_cons_succ, List.set_cons_zero] at hE6; exact ⟨rfl, ⟨hE6.get 0 rfl, hE6.get 3 rfl⟩, _, rfl, mp2, G, hE6⟩
      (try simp only [Act.put, List.setIfInBounds_toArray, List.set_cons_zero, List.set_cons_succ])
      repeat (first
        | (refine Ord.ch_value (v := ?_) hT9.out (by decide) (by rfl) ?_ ?_; rotate_left; (focus (intro w5 hS; have r0 := hS.1.rule; have r1 := hS.2.rule; go_simp <;> with_reducible rfl)); (try simp only [Act.put, List.setIfInBounds_toArray, List.set_cons_zero, List.set_cons_succ]))
        | (refine Ord.ch_off hT9.out (by decide) (by rfl) ?_; (try simp only [Act.put, List.setIfInBounds_toArray, List.set_cons_zero, List.set_cons_succ])))
      refine Ord.InText.nil fun w5 hS => ?_
      clear hT9
      obtain ⟨hC9, hA9⟩ := Ord.chain_end hS
      clear hS
      obtain ⟨P9, hP9, hA9⟩ := hA9
      cases hP9
      obtain ⟨mp2, G, hE⟩ := hA9
      clear hC9
      have rV := hE.rule 0 rfl
      go_wp2_with fail
      go_ret
      refine ⟨rfl, ?_⟩
      exact ⟨v1, v2, v3, lc, li, l, mp2, h, m + 1, S, G, f, _, n + 1, by omega, by omega, by omega, by omega, by omega, HF.out, HH.out, EC.out ▸ HQ.out.swap false (by omega), hE.sub (.cons _ (.cons _ (.cons _ (.cons _ (List.Sublist.refl _)))))⟩
  by_cases h4 : kd = 4
  · subst h4
    have ec : cnt + 1 = cn := by have := HCN.out; simpa using this
    have EC := Lib.hid ec
    clear ec HCN
    have rX := hE.rule 2 rfl
    replace hE := hE.box w4.heap.size rfl [.int .u64 ow, .int .i64 oi, .bool os] 37
    go_upto_region 14 with fail
    clear rX
    generalize w4.alloc _ = w6 at *
    generalize w4.heap.size = V at *
    have rV := hE.rule 0 rfl
    have z0 := hE.thaw 0 rfl 0 (by simp)
    have rX := hE.rule 3 rfl
    go_upto_region 16 with fail
    replace hE := hE.put 0 rfl (j := 0) (by simp) (.int .u64 a)
    simp only [List.set_cons_succ, List.set_cons_zero] at hE
    clear rV rX z0
    generalize World.setCell _ _ _ = w7 at *
    have rX := hE.rule 3 rfl
    skip
    clear rX
    refine Ord.wp_chain [6] (fun w' => Blk 0 w' V [.int .u64 a, .int .i64 oi, .bool os] ∧ Blk 0 w' X [.int .i64 4, .int .i64 x, .int .i64 y, .int .i64 z, .int .i64 d, .int .u64 ow, .int .i64 oi, .bool os, .int .u64 vw, .int .i64 vi, .bool vs]) (Stage [Env w0 [boxI V [.int .u64 a, .int .i64 oi, .bool os], boxI T [.int .i64 t1, .int .i64 t2, .int .i64 t3], boxI P [.int .i64 x, .int .i64 y, .int .i64 z], boxI X [.int .i64 4, .int .i64 x, .int .i64 y, .int .i64 z, .int .i64 d, .int .u64 ow, .int .i64 oi, .bool os, .int .u64 vw, .int .i64 vi, .bool vs], boxI u (uv9 v1 v2 v3), rowO v1 lc, rowO v2 li, intsI v3 l, boxI g (iv c mp so), leadsI mp h m, soulI so S l, cellI c F f q n], fun w' => ∃ mp2 G, Env w0 [boxI V [.int .u64 a, .int .i64 oi, .bool os], boxI T [.int .i64 t1, .int .i64 t2, .int .i64 t3], boxI P [.int .i64 x, .int .i64 y, .int .i64 z], boxI X [.int .i64 4, .int .i64 x, .int .i64 y, .int .i64 z, .int .i64 d, .int .u64 ow, .int .i64 oi, .bool os, .int .u64 vw, .int .i64 vi, .bool vs], boxI u (uv9 v1 v2 v3), rowO v1 lc, rowO v2 li, intsI v3 l, boxI g (iv c mp2 so), leadsI mp2 (upd h O vi) (m + 1), soulI so S l, cellI c G (upd f O vw) (swq q true) (n + 1)] w']) (by kernel_rfl) (by kernel_rfl) (by kernel_rfl) ⟨hE.drew.get 0 rfl, hE.drew.get 3 rfl⟩ ⟨_, rfl, hE.drew⟩ (fun hT => ?_)
    have hT9 := Lib.hid hT
    clear hT
    repeat (first
      | (refine Ord.ch_value (v := ?_) hT9.out (by decide) (by rfl) ?_ ?_; rotate_left; (focus (intro w5 hS; have r0 := hS.1.rule; have r1 := hS.2.rule; go_simp <;> with_reducible rfl)); (try simp only [Act.put, List.setIfInBounds_toArray, List.set_cons_zero, List.set_cons_succ]))
      | (refine Ord.ch_off hT9.out (by decide) (by rfl) ?_; (try simp only [Act.put, List.setIfInBounds_toArray, List.set_cons_zero, List.set_cons_succ])))
    refine Ord.ch_turn (v := .bool true) 0 hT9.out rfl (by decide) (Or.inl rfl) (by rfl) ?_ ?_
    · rintro w5 hC5 ⟨P5, hP5, hA5⟩
      cases hP5
      skip
      go_simp
      simp only [Ord.LandsIn]
      refine (swap_o x y z d a oi vw vi os vs HX.out HD.out HV.out HI.out HNM.out HMM.out 8 hA5 rfl rfl rfl _ HO.out).mono ?_
      rintro e6 w6 ⟨rfl, mp2, G, hE6⟩; rw [if_pos HA.out, swf_yes HA.out, (show decide (f O = a) = true by simpa using HA.out)] at hE6; rw [(show decide (f O = a) = true by simpa using HA.out)]; simp only [List.set_cons_succ, List.set_cons_zero] at hE6; exact ⟨rfl, ⟨hE6.get 0 rfl, hE6.get 3 rfl⟩, _, rfl, mp2, G, hE6⟩
    (try simp only [Act.put, List.setIfInBounds_toArray, List.set_cons_zero, List.set_cons_succ])
    repeat (first
      | (refine Ord.ch_value (v := ?_) hT9.out (by decide) (by rfl) ?_ ?_; rotate_left; (focus (intro w5 hS; have r0 := hS.1.rule; have r1 := hS.2.rule; go_simp <;> with_reducible rfl)); (try simp only [Act.put, List.setIfInBounds_toArray, List.set_cons_zero, List.set_cons_succ]))
      | (refine Ord.ch_off hT9.out (by decide) (by rfl) ?_; (try simp only [Act.put, List.setIfInBounds_toArray, List.set_cons_zero, List.set_cons_succ])))
    refine Ord.InText.nil fun w5 hS => ?_
    clear hT9
    obtain ⟨hC9, hA9⟩ := Ord.chain_end hS
    clear hS
    obtain ⟨P9, hP9, hA9⟩ := hA9
    cases hP9
    obtain ⟨mp2, G, hE⟩ := hA9
    clear hC9
    have rV := hE.rule 0 rfl
    have rP := hE.rule 2 rfl
    have rX := hE.rule 3 rfl
    go_wp2_with fail
    refine (set9_u x y z d vw vi t1 t2 t3 H9.out HW.out hc6 hi6 4 hE rfl rfl rfl).mono ?_
    rintro e w7 ⟨rfl, a1, a2, hE⟩
    rw [HWU.out] at hE
    simp only [setL9, List.set_cons_succ, List.set_cons_zero] at hE
    clear rV rP rX
    go_wp2_with fail
    go_ret
    refine ⟨rfl, ?_⟩
    exact ⟨a1, a2, v3, setL lc (t1, t2, t3) vw, setL li (t1, t2, t3) vi, l, mp2, _, m + 1, S, G, _, _, n + 1, HSL.out _, HSI.out _, by omega, by omega, by omega, HFS.out vw, HHS.out vi, EC.out ▸ HQ.out.swap true (by omega), hE.sub (.cons _ (.cons _ (.cons _ (.cons _ (List.Sublist.refl _)))))⟩
  by_cases h5 : kd = 5
  · subst h5
    have ec : cnt + 1 = cn := by have := HCN.out; simpa using this
    have EC := Lib.hid ec
    clear ec HCN
    have rX := hE.rule 2 rfl
    go_wp2_with fail
    clear rX
    refine Ord.wp_chain [9] (fun w' => Blk 0 w' T [.int .i64 t1, .int .i64 t2, .int .i64 t3] ∧ Blk 0 w' X [.int .i64 5, .int .i64 x, .int .i64 y, .int .i64 z, .int .i64 d, .int .u64 ow, .int .i64 oi, .bool os, .int .u64 vw, .int .i64 vi, .bool vs]) (Stage [Env w0 [boxI T [.int .i64 t1, .int .i64 t2, .int .i64 t3], boxI P [.int .i64 x, .int .i64 y, .int .i64 z], boxI X [.int .i64 5, .int .i64 x, .int .i64 y, .int .i64 z, .int .i64 d, .int .u64 ow, .int .i64 oi, .bool os, .int .u64 vw, .int .i64 vi, .bool vs], boxI u (uv9 v1 v2 v3), rowO v1 lc, rowO v2 li, intsI v3 l, boxI g (iv c mp so), leadsI mp h m, soulI so S l, cellI c F f q n], fun w' => ∃ v6, Env w0 [boxI T [.int .i64 t1, .int .i64 t2, .int .i64 t3], boxI P [.int .i64 x, .int .i64 y, .int .i64 z], boxI X [.int .i64 5, .int .i64 x, .int .i64 y, .int .i64 z, .int .i64 d, .int .u64 ow, .int .i64 oi, .bool os, .int .u64 vw, .int .i64 vi, .bool vs], boxI u (uv9 v6 v2 v3), rowO v6 (setL lc (t1, t2, t3) (IntKind.u64.wrap (a + vw))), rowO v2 li, intsI v3 l, boxI g (iv c mp so), leadsI mp h m, soulI so S l, cellI c F f q n] w']) (by kernel_rfl) (by kernel_rfl) (by kernel_rfl) ⟨hE.drew.get 0 rfl, hE.drew.get 2 rfl⟩ ⟨_, rfl, hE.drew⟩ (fun hT => ?_)
    have hT9 := Lib.hid hT
    clear hT
    repeat (first
      | (refine Ord.ch_value (v := ?_) hT9.out (by decide) (by rfl) ?_ ?_; rotate_left; (focus (intro w5 hS; have r0 := hS.1.rule; have r1 := hS.2.rule; go_simp <;> with_reducible rfl)); (try simp only [Act.put, List.setIfInBounds_toArray, List.set_cons_zero, List.set_cons_succ]))
      | (refine Ord.ch_off hT9.out (by decide) (by rfl) ?_; (try simp only [Act.put, List.setIfInBounds_toArray, List.set_cons_zero, List.set_cons_succ])))
    refine Ord.ch_turn (v := .tuple #[]) 0 hT9.out rfl (by decide) (Or.inl rfl) (by rfl) ?_ ?_
    · rintro w5 hC5 ⟨P5, hP5, hA5⟩
      cases hP5
      skip
      go_simp
      simp only [Ord.LandsIn]
      refine (set_u t1 t2 t3 (IntKind.u64.wrap (a + vw)) hc6 0 3 4 (by decide) hA5 rfl rfl rfl).mono ?_
      rintro e6 w6 ⟨rfl, v6, hE6⟩; simp only [List.set_cons_succ, List.set_cons_zero] at hE6; exact ⟨rfl, ⟨hE6.get 0 rfl, hE6.get 2 rfl⟩, _, rfl, v6, hE6⟩
    (try simp only [Act.put, List.setIfInBounds_toArray, List.set_cons_zero, List.set_cons_succ])
    refine Ord.InText.nil fun w5 hS => ?_
    clear hT9
    obtain ⟨hC9, hA9⟩ := Ord.chain_end hS
    clear hS
    obtain ⟨P9, hP9, hA9⟩ := hA9
    cases hP9
    obtain ⟨v6, hE⟩ := hA9
    clear hC9
    have rX := hE.rule 2 rfl
    go_wp2_with fail
    refine (add_o x y z d vw HX.out HD.out HNM.out 7 hE rfl rfl _ HO.out).mono ?_
    rintro e w7 ⟨rfl, F7, hE⟩
    rw [HA.out] at hE ⊢
    simp only [List.set_cons_succ, List.set_cons_zero] at hE
    clear rX
    go_wp2_with fail
    go_ret
    refine ⟨by simp, ?_⟩
    exact ⟨v6, v2, v3, setL lc (t1, t2, t3) (IntKind.u64.wrap (a + vw)), li, l, mp, h, m, S, F7, _, _, n + 1, HSL.out _, by omega, by omega, by omega, by omega, HFS.out _, HH.out, EC.out ▸ HQ.out.add (by omega), hE.sub (.cons _ (.cons _ (.cons _ (List.Sublist.refl _))))⟩
  by_cases h6 : kd = 6
  · have ec : cnt = cn := by have := HCN.out; rwa [if_neg (by omega), Int.add_zero] at this
    have EC := Lib.hid ec
    clear ec HCN
    subst h6
    have rX := hE.rule 2 rfl
    go_wp2_with fail
    clear rX
    refine Ord.wp_chain [3, 9] (fun w' => Blk 0 w' P [.int .i64 x, .int .i64 y, .int .i64 z]) (Stage [Env w0 [boxI T [.int .i64 t1, .int .i64 t2, .int .i64 t3], boxI P [.int .i64 x, .int .i64 y, .int .i64 z], boxI X [.int .i64 6, .int .i64 x, .int .i64 y, .int .i64 z, .int .i64 d, .int .u64 ow, .int .i64 oi, .bool os, .int .u64 vw, .int .i64 vi, .bool vs], boxI u (uv9 v1 v2 v3), rowO v1 lc, rowO v2 li, intsI v3 l, boxI g (iv c mp so), leadsI mp h m, soulI so S l, cellI c F f q n], fun w' => ∃ S2, Env w0 [boxI T [.int .i64 t1, .int .i64 t2, .int .i64 t3], boxI P [.int .i64 x, .int .i64 y, .int .i64 z], boxI X [.int .i64 6, .int .i64 x, .int .i64 y, .int .i64 z, .int .i64 d, .int .u64 ow, .int .i64 oi, .bool os, .int .u64 vw, .int .i64 vi, .bool vs], boxI u (uv9 v1 v2 v3), rowO v1 lc, rowO v2 li, intsI v3 l, boxI g (iv c mp so), leadsI mp h m, soulI so S2 (bornL l y), cellI c F f q n] w', fun w' => ∃ S2 a3, Env w0 [boxI T [.int .i64 t1, .int .i64 t2, .int .i64 t3], boxI P [.int .i64 x, .int .i64 y, .int .i64 z], boxI X [.int .i64 6, .int .i64 x, .int .i64 y, .int .i64 z, .int .i64 d, .int .u64 ow, .int .i64 oi, .bool os, .int .u64 vw, .int .i64 vi, .bool vs], boxI u (uv9 v1 v2 a3), rowO v1 lc, rowO v2 li, intsI a3 (bornL l y), boxI g (iv c mp so), leadsI mp h m, soulI so S2 (bornL l y), cellI c F f q n] w']) (by kernel_rfl) (by kernel_rfl) (by kernel_rfl) (hE.drew.get 1 rfl) ⟨_, rfl, hE.drew⟩ (fun hT => ?_)
    have hT9 := Lib.hid hT
    clear hT
    repeat (first
      | (refine Ord.ch_value (v := ?_) hT9.out (by decide) (by rfl) ?_ ?_; rotate_left; (focus (intro w5 hS; have r0 := hS.rule; go_simp <;> with_reducible rfl)); (try simp only [Act.put, List.setIfInBounds_toArray, List.set_cons_zero, List.set_cons_succ]))
      | (refine Ord.ch_off hT9.out (by decide) (by rfl) ?_; (try simp only [Act.put, List.setIfInBounds_toArray, List.set_cons_zero, List.set_cons_succ])))
    refine Ord.ch_turn (v := .int .i64 (bornV l y)) 0 hT9.out rfl (by decide) (Or.inl rfl) (by rfl) ?_ ?_
    · rintro w5 hC5 ⟨P5, hP5, hA5⟩
      cases hP5
      skip
      go_simp
      simp only [Ord.LandsIn]
      refine (born_i y HX.out.2.1 hl5 7 hA5 rfl rfl).mono ?_
      rintro e6 w6 ⟨rfl, S2, hE6⟩; simp only [List.set_cons_succ, List.set_cons_zero] at hE6; exact ⟨rfl, hE6.get 1 rfl, _, rfl, S2, hE6⟩
    (try simp only [Act.put, List.setIfInBounds_toArray, List.set_cons_zero, List.set_cons_succ])
    repeat (first
      | (refine Ord.ch_value (v := ?_) hT9.out (by decide) (by rfl) ?_ ?_; rotate_left; (focus (intro w5 hS; have r0 := hS.rule; go_simp <;> with_reducible rfl)); (try simp only [Act.put, List.setIfInBounds_toArray, List.set_cons_zero, List.set_cons_succ]))
      | (refine Ord.ch_off hT9.out (by decide) (by rfl) ?_; (try simp only [Act.put, List.setIfInBounds_toArray, List.set_cons_zero, List.set_cons_succ])))
    refine Ord.ch_turn (v := .int .i64 (bornV l y)) 1 hT9.out rfl (by decide) (Or.inr ⟨_, rfl, by kernel_rfl⟩) (by rfl) ?_ ?_
    · rintro w5 hC5 ⟨P5, hP5, hA5⟩
      cases hP5
      obtain ⟨S2, hA5⟩ := hA5
      go_simp
      simp only [Ord.LandsIn]
      refine (born_u y hl5 2 3 6 (by decide) hA5 rfl rfl rfl).mono ?_
      rintro e6 w6 ⟨rfl, a3, hE6⟩; simp only [List.set_cons_succ, List.set_cons_zero] at hE6; exact ⟨rfl, hE6.get 1 rfl, _, rfl, S2, a3, hE6⟩
    (try simp only [Act.put, List.setIfInBounds_toArray, List.set_cons_zero, List.set_cons_succ])
    repeat (first
      | (refine Ord.ch_value (v := ?_) hT9.out (by decide) (by rfl) ?_ ?_; rotate_left; (focus (intro w5 hS; have r0 := hS.rule; go_simp <;> with_reducible rfl)); (try simp only [Act.put, List.setIfInBounds_toArray, List.set_cons_zero, List.set_cons_succ]))
      | (refine Ord.ch_off hT9.out (by decide) (by rfl) ?_; (try simp only [Act.put, List.setIfInBounds_toArray, List.set_cons_zero, List.set_cons_succ])))
    refine Ord.InText.nil fun w5 hS => ?_
    clear hT9
    obtain ⟨hC9, hA9⟩ := Ord.chain_end hS
    clear hS
    clear hC9
    obtain ⟨P9, hP9, hA9⟩ := hA9
    cases hP9
    obtain ⟨S2, a3, hA9⟩ := hA9
    go_wp2_with fail
    go_ret
    refine ⟨by simp, ?_⟩
    exact ⟨v1, v2, a3, lc, li, (bornL l y), mp, h, m, S2, F, f, q, n, by omega, by omega, by omega, by omega, by omega, HF.out, HH.out, EC.out ▸ HQ.out, hA9.sub (.cons _ (.cons _ (.cons _ (List.Sublist.refl _))))⟩
  by_cases h7 : kd = 7
  · have ec : cnt = cn := by have := HCN.out; rwa [if_neg (by omega), Int.add_zero] at this
    have EC := Lib.hid ec
    clear ec HCN
    subst h7
    have h9' := H9.out
    obtain ⟨O7, ho7⟩ : ∃ O7, ownP x y z (nowL l y) = O7 := ⟨_, rfl⟩
    have h97 : ¬ O7.1 = 9 := ho7 ▸ ownP_9 h9'
    obtain ⟨⟨s1, s2, s3⟩, hs7⟩ : ∃ s, phi O7 = s := ⟨_, rfl⟩
    have hw7 : whP x y z (nowL l y) = (s1, s2, s3) := by rw [whP_phi, ho7, hs7]
    obtain ⟨a7, ha7⟩ : ∃ a7, f O7 = a7 := ⟨_, rfl⟩
    have hg7 : getL lc (s1, s2, s3) = a7 := by rw [← hs7, ← HF.out O7 h97, ha7]
    have HO7 := Lib.hid ho7
    have HW7 := Lib.hid hw7
    have HA7 := Lib.hid ha7
    have HG7 := Lib.hid hg7
    clear h9' h97 hs7 ho7 hw7 ha7 hg7
    have rX := hE.rule 2 rfl
    go_wp2_with fail
    clear rX
    refine Ord.wp_chain [] (fun w' => Env w0 [boxI T [.int .i64 t1, .int .i64 t2, .int .i64 t3], boxI P [.int .i64 x, .int .i64 y, .int .i64 z], boxI X [.int .i64 7, .int .i64 x, .int .i64 y, .int .i64 z, .int .i64 d, .int .u64 ow, .int .i64 oi, .bool os, .int .u64 vw, .int .i64 vi, .bool vs], boxI u (uv9 v1 v2 v3), rowO v1 lc, rowO v2 li, intsI v3 l, boxI g (iv c mp so), leadsI mp h m, soulI so S l, cellI c F f q n] w') (fun _ _ => True) (by kernel_rfl) (by kernel_rfl) (by kernel_rfl) hE.drew trivial (fun hT => ?_)
    have hT9 := Lib.hid hT
    clear hT
    repeat (first
      | (refine Ord.ch_value (v := ?_) hT9.out (by decide) (by rfl) ?_ ?_; rotate_left; (focus (intro w5 hS; have r0 := hS.rule 1 rfl; go_simp <;> with_reducible rfl)); (try simp only [Act.put, List.setIfInBounds_toArray, List.set_cons_zero, List.set_cons_succ]))
      | (refine Ord.ch_off hT9.out (by decide) (by rfl) ?_; (try simp only [Act.put, List.setIfInBounds_toArray, List.set_cons_zero, List.set_cons_succ]))
      | (refine Ord.ch_call (v := ?_) (f := ?_) (args := ?_) hT9.out (by decide) (by rfl) ?_ ?_ ?_; rotate_left 3; (focus (intro w5 hS; have r0 := hS.rule 1 rfl; go_simp; constructor <;> with_reducible rfl)); (focus (intro w5 hS; (first | (with_reducible refine (peek_o x y z HX.out hl6 7 hS rfl rfl rfl _ HO7.out).mono ?_; rintro e w6 ⟨rfl, hb6⟩; rw [HA7.out]; constructor; with_reducible rfl; exact ⟨hS.over hb6, fun _ h => h⟩) | (with_reducible refine (now_u y hl5 2 3 6 hS rfl rfl rfl).mono ?_; rintro e w6 ⟨rfl, hb6⟩; constructor; with_reducible rfl; exact ⟨hS.over hb6, fun _ h => h⟩) | (with_reducible refine (where_any x y z (nowL l y) s1 s2 s3 H9.out HW7.out _).mono ?_; rintro e w6 ⟨rfl, hb6⟩; constructor; with_reducible rfl; exact ⟨hS.over hb6, fun _ h => h⟩) | (with_reducible refine (get_e s1 s2 s3 a7 HG7.out hc6 0 3 4 hS rfl rfl rfl).mono ?_; rintro e w6 ⟨rfl, hb6⟩; constructor; with_reducible rfl; exact ⟨hS.over hb6, fun _ h => h⟩)))); (try simp only [Act.put, List.setIfInBounds_toArray, List.set_cons_zero, List.set_cons_succ])))
    refine Ord.InText.nil fun w5 hS => ?_
    clear hT9
    obtain ⟨hC9, hA9⟩ := Ord.chain_end hS
    clear hS
    clear hA9
    go_wp2_with fail
    go_ret
    refine ⟨by simp, ?_⟩
    exact ⟨v1, v2, v3, lc, li, l, mp, h, m, S, F, f, q, n, by omega, by omega, by omega, by omega, by omega, HF.out, HH.out, EC.out ▸ HQ.out, hC9.sub (.cons _ (.cons _ (.cons _ (List.Sublist.refl _))))⟩
  have ec : cnt = cn := by have := HCN.out; rwa [if_neg (by omega), Int.add_zero] at this
  have EC := Lib.hid ec
  clear ec HCN
  have rX := hE.rule 2 rfl
  have rP := hE.rule 1 rfl
  go_wp2_with fail
  refine (placeOf_any 1 z _).mono ?_
  rintro e w6 ⟨rfl, hb⟩
  replace hE := (hE.over hb).box w6.heap.size rfl [.int .i64 5, .int .i64 1, .int .i64 z] 39
  clear rX rP hb
  go_upto_region 29 with fail
  generalize w6.alloc _ = w7 at *
  generalize w6.heap.size = Q at *
  have rQ := hE.rule 0 rfl
  go_wp2_with fail
  refine (isContent_any 5 1 z _).mono ?_
  rintro e w8 ⟨rfl, hb⟩
  replace hE := hE.over hb
  clear rQ hb
  generalize hcb : contB 5 z = t at *
  have HCB := Lib.hid hcb
  clear hcb
  cases t
  · have rX := hE.rule 3 rfl
    have rP := hE.rule 2 rfl
    go_wp2_with fail
    refine (content_i d z HD.out HX.out.2.2 8 hE rfl rfl).mono ?_
    rintro e w9 ⟨rfl, hb⟩
    rw [if_neg (by rw [HCB.out]; decide)]
    replace hE := hE.over hb
    clear rX rP hb
    go_wp2_with fail
    go_ret
    refine ⟨rfl, ?_⟩
    exact ⟨v1, v2, v3, lc, li, l, mp, h, m, S, F, f, q, n, by omega, by omega, by omega, by omega, by omega, HF.out, HH.out, EC.out ▸ HQ.out, hE.sub (.cons _ (.cons _ (.cons _ (.cons _ (List.Sublist.refl _)))))⟩
  · have hw8 : whP 5 1 z d = (9, d, z) := if_pos HCB.out
    obtain ⟨a8, ha8⟩ : ∃ a8, f (5, d, z) = a8 := ⟨_, rfl⟩
    have hg8 : getL lc (9, d, z) = a8 := by
      have e8 : phi (5, d, z) = (9, d, z) := if_pos HCB.out
      rw [← e8, ← HF.out (5, d, z) (by simp), ha8]
    have HZ9 : Hid (In64 z) := Lib.hid HX.out.2.2
    have HW8 := Lib.hid hw8
    have HA8 := Lib.hid ha8
    have HG8 := Lib.hid hg8
    clear hw8 ha8 hg8
    go_wp2_with fail
    refine Ord.wp_chain [] (fun w' => Env w0 [boxI Q [.int .i64 5, .int .i64 1, .int .i64 z], boxI T [.int .i64 t1, .int .i64 t2, .int .i64 t3], boxI P [.int .i64 x, .int .i64 y, .int .i64 z], boxI X [.int .i64 kd, .int .i64 x, .int .i64 y, .int .i64 z, .int .i64 d, .int .u64 ow, .int .i64 oi, .bool os, .int .u64 vw, .int .i64 vi, .bool vs], boxI u (uv9 v1 v2 v3), rowO v1 lc, rowO v2 li, intsI v3 l, boxI g (iv c mp so), leadsI mp h m, soulI so S l, cellI c F f q n] w') (fun _ _ => True) (by kernel_rfl) (by kernel_rfl) (by kernel_rfl) hE.drew trivial (fun hT => ?_)
    have hT9 := Lib.hid hT
    clear hT
    repeat (first
      | (refine Ord.ch_value (v := ?_) hT9.out (by decide) (by rfl) ?_ ?_; rotate_left; (focus (intro w5 hS; have r0 := hS.rule 0 rfl; have r1 := hS.rule 2 rfl; have r2 := hS.rule 3 rfl; go_simp <;> with_reducible rfl)); (try simp only [Act.put, List.setIfInBounds_toArray, List.set_cons_zero, List.set_cons_succ]))
      | (refine Ord.ch_off hT9.out (by decide) (by rfl) ?_; (try simp only [Act.put, List.setIfInBounds_toArray, List.set_cons_zero, List.set_cons_succ]))
      | (refine Ord.ch_call (v := ?_) (f := ?_) (args := ?_) hT9.out (by decide) (by rfl) ?_ ?_ ?_; rotate_left 3; (focus (intro w5 hS; have r0 := hS.rule 0 rfl; have r1 := hS.rule 2 rfl; have r2 := hS.rule 3 rfl; go_simp; constructor <;> with_reducible rfl)); (focus (intro w5 hS; (first | (with_reducible refine (content_i d z HD.out HZ9.out 8 hS rfl rfl).mono ?_; rintro e w6 ⟨rfl, hb6⟩; rw [if_pos HCB.out, HA8.out]; constructor; with_reducible rfl; exact ⟨hS.over hb6, fun _ h => h⟩) | (with_reducible refine (where_any 5 1 z d 9 d z (by decide) HW8.out _).mono ?_; rintro e w6 ⟨rfl, hb6⟩; constructor; with_reducible rfl; exact ⟨hS.over hb6, fun _ h => h⟩) | (with_reducible refine (get_e 9 d z a8 HG8.out hc6 0 4 5 hS rfl rfl rfl).mono ?_; rintro e w6 ⟨rfl, hb6⟩; constructor; with_reducible rfl; exact ⟨hS.over hb6, fun _ h => h⟩)))); (try simp only [Act.put, List.setIfInBounds_toArray, List.set_cons_zero, List.set_cons_succ])))
    refine Ord.InText.nil fun w5 hS => ?_
    clear hT9
    obtain ⟨hC9, hA9⟩ := Ord.chain_end hS
    clear hS
    clear hA9
    go_wp2_with fail
    go_ret
    refine ⟨by simp, ?_⟩
    exact ⟨v1, v2, v3, lc, li, l, mp, h, m, S, F, f, q, n, by omega, by omega, by omega, by omega, by omega, HF.out, HH.out, EC.out ▸ HQ.out, hC9.sub (.cons _ (.cons _ (.cons _ (.cons _ (List.Sublist.refl _)))))⟩
end Go.Proofs.Ytnlepgbmbdmjbaa
