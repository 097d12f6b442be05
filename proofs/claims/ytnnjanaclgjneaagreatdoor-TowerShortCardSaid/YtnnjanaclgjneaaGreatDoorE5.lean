/- What is proved on the way to the statement, part 5 of 10: contracts of the functions, among other things in memory. -/
import Derived.Test.YtnnjanaclgjneaaGreatDoorE4
import Derived.WalkKit
import Derived.Orders

/- A drawn region whose operations each come to one value, whatever the order: walked once, in the order of the text. S says what every world on the way keeps (cells that are read, what has not turned); loads, arithmetic and calls (of functions that may make memory) go by it. -/
namespace Go.Proofs.YtnnjanaclgjneaaGreatDoor
open Go
set_option maxRecDepth 100000

section
variable {P : Program} {ops : Array Oper} {Q : Exit → Act → World → Prop} {md : Region.Mode} {S : World → Prop}

/-- What a run comes to: the value v, or a call that comes to v; S is kept. -/
def LandsIn (P : Program) (S : World → Prop) (v : Value) : Result Next → Prop
  | .ok (.value u) w' => u = v ∧ S w'
  | .ok .skip w' => v = undef ∧ S w'
  | .ok (.enter f args) w' => Calls P f args w' fun e w'' => e = .returned v ∧ S w''
  | _ => False

/-- In frame a the operation comes to v from every world that meets S. -/
def Settles (P : Program) (ops : Array Oper) (S : World → Prop) (o : Oper) (v : Value) (a : Act) : Prop :=
  (Region.wanted o (yielded ops a.tmps) = true ∧ ∀ w, S w → LandsIn P S v ((execOp a.eval o).run P w)) ∨ (Region.wanted o (yielded ops a.tmps) = false ∧ v = undef)

theorem Settles.of_same {o : Oper} {v : Value} {a a' : Act} (h : Settles P ops S o v a) (he : execOp a'.eval o = execOp a.eval o)
    (hw : Region.wanted o (yielded ops a'.tmps) = Region.wanted o (yielded ops a.tmps)) : Settles P ops S o v a' := by
  unfold Settles at *
  rw [he, hw]
  exact h

theorem Settles.wpOp {i : Nat} {o : Oper} {v : Value} {a : Act} (hi : ops[i]? = some o) (h : Settles P ops S o v a) {K : Act → World → Prop} {w : World} (hS : S w)
    (hK : ∀ w', S w' → K (a.put o.dst v) w') : wpOp P ops Q i K a w := by
  unfold Go.wpOp
  simp only [hi]
  rcases h with ⟨hw, hv⟩ | ⟨hw, rfl⟩
  · simp only [hw, if_true]
    have := hv w hS
    refine .inl ?_
    unfold Oper.wp
    generalize (execOp a.eval o).run P w = r at *
    cases r with
    | ok n w' =>
      cases n <;> simp only [LandsIn] at this <;> simp only [Oper.upon]
      case value u => obtain ⟨rfl, h2⟩ := this; exact hK _ h2
      case skip => obtain ⟨rfl, h2⟩ := this; exact hK _ h2
      case enter f args =>
        refine Calls.mono this fun e w'' he => ?_
        obtain ⟨rfl, h2⟩ := he
        exact hK _ h2
    | halt x w' => simp only [LandsIn] at this
  · simp only [hw, Bool.false_eq_true, if_false]
    exact hK _ hS

/-- Whatever order is picked: each operation comes to a value that hangs on the frame alone. -/
def Every (P : Program) (md : Region.Mode) (ops : Array Oper) (Q : Exit → Act → World → Prop) (S : World → Prop) : Nat → Array Bool → Act → Prop
  | 0, listed, a => Region.ready md ops listed = [] ∧ ∀ w, S w → Q .normal a w
  | fuel + 1, listed, a => (Region.ready md ops listed = [] → ∀ w, S w → Q .normal a w) ∧
    ∀ i ∈ Region.ready md ops listed, ∃ o v, ops[i]? = some o ∧ Settles P ops S o v a ∧ Every P md ops Q S fuel (listed.setIfInBounds i true) (a.put o.dst v)

theorem Every.sound : ∀ (fuel : Nat) (listed : Array Bool) (a : Act), Every P md ops Q S fuel listed a → ∀ w, S w → wpAny P md ops Q fuel listed a w
  | 0, _, _, h, w, hS => ⟨h.1, h.2 w hS⟩
  | fuel + 1, listed, a, h, w, hS => ⟨fun h0 => h.1 h0 w hS, fun i hi => by
      obtain ⟨o, v, ho, hs, hE⟩ := h.2 i hi
      exact hs.wpOp ho hS fun w' hS' => Every.sound fuel _ _ hE w' hS'⟩

theorem Every.first {i : Nat} {oi : Oper} {v : Value} (hi : ops[i]? = some oi) (hsel : ∀ (j : Nat) (o : Oper) cs b, ops[j]? = some o → o.op ≠ .select cs b) :
    ∀ (fuel : Nat) (listed : Array Bool) (a : Act),
      (∀ j oj, ops[j]? = some oj → j ≠ i → listed.getD j true = false → (∀ e ∈ oj.after, Region.binds md e = true → e.on ≠ i) → oi.apart ops oj = true) →
      i ∈ Region.ready md ops listed → Settles P ops S oi v a →
      Every P md ops Q S fuel (listed.setIfInBounds i true) (a.put oi.dst v) → Every P md ops Q S (fuel + 1) listed a := by
  intro fuel
  induction fuel with
  | zero =>
    intro listed a _ hr hy H
    refine ⟨fun h => (by rw [h] at hr; cases hr), fun j hj => ?_⟩
    by_cases hji : j = i
    · subst hji; exact ⟨oi, v, hi, hy, H⟩
    · have := ready_mono hj hji
      rw [H.1] at this
      cases this
  | succ fuel ih =>
    intro listed a hfree hr hy H
    refine ⟨fun h => (by rw [h] at hr; cases hr), fun j hj => ?_⟩
    by_cases hji : j = i
    · subst hji; exact ⟨oi, v, hi, hy, H⟩
    · obtain ⟨oj, u, hoj, hsj, hE⟩ := H.2 j (ready_mono hj hji)
      obtain ⟨hjun, oj', hoj', hall⟩ := mem_ready.1 hj
      obtain rfl : oj = oj' := Option.some.inj (hoj.symm.trans hoj')
      have hnot : ∀ e ∈ oj.after, Region.binds md e = true → e.on ≠ i := fun e he hb heq => by
        have h1 := hall e he hb
        have h0 := (mem_ready.1 hr).1
        rw [heq] at h1
        rcases Nat.lt_or_ge i listed.size with h' | h'
        · simp [h'] at h0 h1; rw [h0] at h1; cases h1
        · simp [Array.getElem?_eq_none h'] at h1
      have hap := hfree j oj hoj hji hjun hnot
      obtain ⟨p1, p2, p3⟩ := Oper.apart_spec hap
      have hfree' : ∀ k ok, ops[k]? = some ok → k ≠ i → (listed.setIfInBounds j true).getD k true = false →
          (∀ e ∈ ok.after, Region.binds md e = true → e.on ≠ i) → oi.apart ops ok = true := fun k ok hk hki hun hno => by
        refine hfree k ok hk hki ?_ hno
        by_cases hjk : j = k
        · subst hjk; exact hjun
        · rw [getD_set_ne true hjk] at hun; exact hun
      refine ⟨oj, u, hoj, hsj.of_same (execOp_put oj (fun cs b => hsel j oj cs b hoj) a oi.dst v p1).symm (wanted_put oj a oi.dst v p1).symm, ?_⟩
      refine ih (listed.setIfInBounds j true) (a.put oj.dst u) hfree' (ready_mono hr (Ne.symm hji)) (hy.of_same (execOp_put oi (fun cs b => hsel i oi cs b hi) a oj.dst u p3) (wanted_put oi a oj.dst u p3)) ?_
      rw [Array.setIfInBounds_comm _ _ hji, ← Act.put_comm a v u p2]
      exact hE

/-- The operations of the text from k on, in its order. -/
def firstK (n k : Nat) : Array Bool := Array.ofFn (n := n) fun i => decide (i.1 < k)
def textFits (md : Region.Mode) (ops : Array Oper) : Bool :=
  Region.noSelect ops && (List.range ops.size).all fun k => Region.free md ops (firstK ops.size k) k && (Region.ready md ops (firstK ops.size k)).contains k
def InText (P : Program) (md : Region.Mode) (ops : Array Oper) (Q : Exit → Act → World → Prop) (S : World → Prop) (rest : List Oper) (a : Act) : Prop :=
  ∀ k, k + rest.length = ops.size → ops.toList.drop k = rest → Every P md ops Q S rest.length (firstK ops.size k) a

theorem firstK_succ (n k : Nat) : (firstK n k).setIfInBounds k true = firstK n (k + 1) := by
  apply Array.ext
  · simp [firstK]
  · intro i h1 h2
    by_cases hik : i = k
    · subst hik
      simp [firstK]
    · have e := Array.getElem_setIfInBounds_ne (xs := firstK n k) (i := k) (j := i) (a := true) (by simpa using h1) (by omega)
      rw [e]
      simp only [firstK, Array.getElem_ofFn]
      congr 1
      apply propext
      omega

theorem InText.nil {a : Act} (h : ∀ w, S w → Q .normal a w) : InText P md ops Q S [] a := fun k hk _ => by
  refine ⟨?_, h⟩
  have hk' : k = ops.size := by simpa using hk
  subst hk'
  unfold Region.ready
  rw [List.filter_eq_nil_iff]
  intro i hi
  have : i < ops.size := by simpa using hi
  simp [firstK, this]

theorem InText.cons {o : Oper} {rest : List Oper} {a : Act} {v : Value} (hf : textFits md ops = true) (hs : Settles P ops S o v a) (h : InText P md ops Q S rest (a.put o.dst v)) : InText P md ops Q S (o :: rest) a := fun k hk hd => by
  unfold textFits at hf
  rw [Bool.and_eq_true, List.all_eq_true] at hf
  have hlt : k < ops.size := by simp at hk; omega
  have hf2 := hf.2 k (by simpa using hlt)
  rw [Bool.and_eq_true] at hf2
  have ho : ops[k]? = some o := by
    have h0 : (ops.toList.drop k)[0]? = some o := by rw [hd]; rfl
    simpa using h0
  have hsel : ∀ (j : Nat) (o : Oper) cs b, ops[j]? = some o → o.op ≠ .select cs b := Region.noSelect_spec hf.1
  refine Every.first ho hsel rest.length (firstK ops.size k) a (Region.free_spec ho hf2.1) (by simpa using hf2.2) hs ?_
  rw [firstK_succ]
  refine h (k + 1) (by simp at hk; omega) ?_
  rw [← List.drop_drop, hd]
  rfl

/-- The start. -/
theorem wp_text {id : Nat} {a : Act} {w : World} (hm : P.follows .mixedOrders = true) (hf : textFits .any ops = true) (hS : S w.drew) (h : textFits .any ops = true → InText P .any ops Q S ops.toList a) : (Code.region id ops true).wp P Q a w :=
  wp_region_any hm (by
    have h0 := h hf 0 (by simp) rfl
    have e : firstK ops.size 0 = Array.replicate ops.size false := by
      apply Array.ext
      · simp [firstK]
      · intro i h1 h2; simp [firstK]
    rw [e] at h0
    simpa using Every.sound _ _ _ h0 _ hS)

/-- One step each: a value (arithmetic, a load, a move). -/
theorem text_value {o : Oper} {rest : List Oper} {a : Act} {v : Value} (hf : textFits md ops = true) (hw : Region.wanted o (yielded ops a.tmps) = true) (hv : ∀ w, S w → (execOp a.eval o).run P w = .ok (.value v) w)
    (h : InText P md ops Q S rest (a.put o.dst v)) : InText P md ops Q S (o :: rest) a :=
  InText.cons hf (Or.inl ⟨hw, fun w hS => by rw [hv w hS]; exact ⟨rfl, hS⟩⟩) h
/-- .. an operation that is not wanted .. -/
theorem text_off {o : Oper} {rest : List Oper} {a : Act} (hf : textFits md ops = true) (hw : Region.wanted o (yielded ops a.tmps) = false) (h : InText P md ops Q S rest (a.put o.dst undef)) : InText P md ops Q S (o :: rest) a :=
  InText.cons hf (Or.inr ⟨hw, rfl⟩) h
/-- .. a call. -/
theorem text_call {o : Oper} {rest : List Oper} {a : Act} {v : Value} {f : FuncId} {args : Array Value} (hf : textFits md ops = true) (hw : Region.wanted o (yielded ops a.tmps) = true) (hr : ∀ w, S w → (execOp a.eval o).run P w = .ok (.enter f args) w)
    (hc : ∀ w, S w → Calls P f args w fun e w' => e = .returned v ∧ S w') (h : InText P md ops Q S rest (a.put o.dst v)) : InText P md ops Q S (o :: rest) a :=
  InText.cons hf (Or.inl ⟨hw, fun w hS => by rw [hr w hS]; exact hc w hS⟩) h
end
end Go.Proofs.YtnnjanaclgjneaaGreatDoor

/- Lanes: contracts of what stands behind a validate, and of cut. -/
namespace Go.Proofs.YtnnjanaclgjneaaGreatDoor
open Go.RowKit Go.Maps
set_option maxRecDepth 100000

/-- The state behind coming to a link. -/
def cS (v : Int) : Int := if slotI v = 0 then 1 else 0
section
variable {w0 w : World} {L : List Item} {a c : Nat} {lv key : Int} {vs : Bool} {nx : Value} {x y z W C X wd : Int} {pf : Bool} {pv : Int}

theorem come_l (v : Int) (hv : InU v) (hg : Glo w0) (hE : Env w0 (boxI a (laneC c lv key vs nx 0 x y z W C X wd pf pv) :: L) w) :
    Calls Tryz.prog 263 #[.pointer (some ⟨a, 0, none⟩), .agg #[.int .u64 v, .int .i64 0, .bool false]] w fun o w' => o = .returned (.int .i64 (cS v)) ∧ ∃ nx, (slotI v ≠ 0 → nx = mvL 272 a) ∧ Env w0 (boxI a (laneC c lv key vs nx (cS v) x y z v (slotI v) 0 wd pf pv) :: L) w' := by
  by_cases hs : slotI v = 0
  · refine (come0_l v hs hv hg hE).mono ?_
    rintro o w1 ⟨rfl, nx, hE1⟩
    have hc : cS v = 1 := if_pos hs
    rw [hc, hs]
    exact ⟨rfl, nx, fun h => absurd rfl h, hE1⟩
  · refine (comeY_l v hs hv hg hE).mono ?_
    rintro o w1 ⟨rfl, hE1⟩
    have hc : cS v = 0 := if_neg hs
    rw [hc]
    exact ⟨rfl, _, fun _ => rfl, hE1⟩
set_option maxHeartbeats 1600000 in
theorem intoMark_l (hm : markB W = true) (hv : InU W) (hg : Glo w0) (hE : Env w0 (boxI a (laneC c lv key vs nx 0 x y z W C X wd pf pv) :: L) w) :
    Calls Tryz.prog 243 #[.pointer (some ⟨a, 0, none⟩)] w fun o w' => o = .returned (.int .i64 2) ∧ ∃ nx, Env w0 (boxI a (laneC c lv key vs nx 2 x y z W C X wd pf pv) :: L) w' := by
  have r := hE.rule 0 rfl
  unfold laneC at r
  have h1 := isMarked_any W w (hg.keep' hE.below) hv.1 hv.2
  rw [hm] at h1
  clear hm hv hg
  go_enter Tryz.func243, Tryz.ntmps243
  go_wp2_with fail
  refine h1.mono ?_
  rintro o w1 ⟨rfl, hb⟩
  replace hE := hE.over hb
  clear hb r
  go_wp2_with fail
  refine (end_l 0 2 (by simp [laneC]) hE rfl).mono ?_
  rintro o w6 ⟨rfl, nx, hE6⟩
  go_wp2_with fail
  go_ret
  exact ⟨rfl, nx, hE6⟩
set_option maxHeartbeats 1600000 in
theorem intoCome_l (hm : markB W = false) (hv : InU W) (hg : Glo w0) (hE : Env w0 (boxI a (laneC c lv key vs nx 0 x y z W C X wd pf pv) :: L) w) :
    Calls Tryz.prog 243 #[.pointer (some ⟨a, 0, none⟩)] w fun o w' => o = .returned (.int .i64 (cS W)) ∧ ∃ nx, (slotI W ≠ 0 → nx = mvL 272 a) ∧ Env w0 (boxI a (laneC c lv key vs nx (cS W) x y z W (slotI W) 0 wd pf pv) :: L) w' := by
  have r := hE.rule 0 rfl
  unfold laneC at r
  have h1 := isMarked_any W w (hg.keep' hE.below) hv.1 hv.2
  rw [hm] at h1
  have HV := Lib.hid hv
  have HG := Lib.hid hg
  clear hm hv hg
  go_enter Tryz.func243, Tryz.ntmps243
  go_wp2_with fail
  refine h1.mono ?_
  rintro o w1 ⟨rfl, hb⟩
  replace hE := hE.over hb
  clear hb r
  have r := hE.rule 0 rfl
  unfold laneC at r
  go_wp2_with fail
  refine (come_l W HV.out HG.out hE).mono ?_
  rintro o w6 ⟨rfl, nx, hnx, hE6⟩
  go_wp2_with fail
  go_ret
  exact ⟨rfl, nx, hnx, hE6⟩
set_option maxHeartbeats 1600000 in
theorem out_l (hv : InU X) (hg : Glo w0) (hE : Env w0 (boxI a (laneC c lv key vs nx 0 x y z W C X wd pf pv) :: L) w) :
    Calls Tryz.prog 282 #[.pointer (some ⟨a, 0, none⟩)] w fun o w' => o = .returned (.int .i64 0) ∧ Env w0 (boxI a (laneC c lv key vs (mvL (if markB X then 293 else 294) a) 0 x y z W C X wd pf pv) :: L) w' := by
  have hmf := makeF
  have r := hE.rule 0 rfl
  unfold laneC at r
  have h1 := isMarked_any X w (hg.keep' hE.below) hv.1 hv.2
  obtain ⟨b, hb9⟩ : ∃ b, markB X = b := ⟨_, rfl⟩
  rw [hb9] at h1 ⊢
  clear hb9 hv hg
  go_enter Tryz.func282, Tryz.ntmps282
  go_wp2_with fail
  refine h1.mono ?_
  rintro o w1 ⟨rfl, hb⟩
  replace hE := hE.over hb
  clear hb r
  cases b
  · go_wp2_with fail
    refine (goOn_l 0 _ _ _ (by simp [laneC]) hE rfl).mono ?_
    rintro o w6 ⟨rfl, hE6⟩
    go_wp2_with fail
    go_ret
    exact ⟨rfl, hE6⟩
  · go_wp2_with fail
    refine (goOn_l 0 _ _ _ (by simp [laneC]) hE rfl).mono ?_
    rintro o w6 ⟨rfl, hE6⟩
    go_wp2_with fail
    go_ret
    exact ⟨rfl, hE6⟩
set_option maxHeartbeats 1600000 in
theorem val_l (hE : Env w0 (boxI a (laneC c lv key vs nx 0 x y z W C X wd pf pv) :: L) w) :
    Calls Tryz.prog 304 #[.pointer (some ⟨a, 0, none⟩)] w fun o w' => o = .returned (.int .i64 1) ∧ ∃ nx, Env w0 (boxI a (laneC c lv key vs nx 1 x y z W C X wd true wd) :: L) w' := by
  have r := hE.rule 0 rfl
  unfold laneC at r
  have g0 := hE.thaw 0 rfl 19 (by simp [laneC])
  have g1 := hE.thaw 0 rfl 20 (by simp [laneC])
  have hP := (hE.put 0 rfl (j := 19) (by simp [laneC]) (.bool true)).put 0 rfl (j := 20) (by simp [laneC]) (.int .u64 wd)
  replace hP : Env w0 (boxI a (laneC c lv key vs nx 0 x y z W C X wd true wd) :: L) _ := hP
  go_enter Tryz.func304, Tryz.ntmps304
  go_wp2_with fail
  refine (end_l 0 1 (by simp [laneC]) hP rfl).mono ?_
  rintro o w6 ⟨rfl, nx, hE6⟩
  go_wp2_with fail
  go_ret
  exact ⟨rfl, nx, hE6⟩

set_option maxHeartbeats 3200000 in
theorem keyLess_l (hk : wd < key) (hlv : 0 ≤ lv ∧ lv ≤ 1000000) (hv : InU X) (hg : Glo w0) (hE : Env w0 (boxI a (laneC c lv key vs nx 0 x y z W C X wd pf pv) :: L) w) :
    Calls Tryz.prog 298 #[.pointer (some ⟨a, 0, none⟩)] w fun o w' => o = .returned (.int .i64 (cS X)) ∧ ∃ nx, (slotI X ≠ 0 → nx = mvL 272 a) ∧ Env w0 (boxI a (laneC c lv key vs nx (cS X) 5 C (7 + lv) X (slotI X) 0 wd pf pv) :: L) w' := by
  have hkb : decide (wd < key) = true := by simpa using hk
  have HV := Lib.hid hv
  have HG := Lib.hid hg
  clear hk hv hg
  go_enter Tryz.func298, Tryz.ntmps298
  go_wp2_with fail
  refine wp_text (S := (Env w0 (boxI a (laneC c lv key vs nx 0 x y z W C X wd pf pv) :: L))) (by kernel_rfl) (by kernel_rfl) hE.drew (fun hT => ?_)
  have hT9 := Lib.hid hT
  clear hT
  repeat (first
    | (refine text_value (v := ?_) hT9.out (by rfl) ?_ ?_; rotate_left; (focus (intro w5 hS; have r := hS.rule 0 rfl; unfold laneC at r; go_simp <;> with_reducible rfl)); (try simp only [Act.put, List.setIfInBounds_toArray, List.set_cons_zero, List.set_cons_succ]))
    | (refine text_off hT9.out (by rfl) ?_; (try simp only [Act.put, List.setIfInBounds_toArray, List.set_cons_zero, List.set_cons_succ]))
    | (refine text_call (v := ?_) (f := ?_) (args := ?_) hT9.out (by rfl) ?_ ?_ ?_; rotate_left 3; (focus (intro w5 hS; have r := hS.rule 0 rfl; unfold laneC at r; go_simp; constructor <;> with_reducible rfl)); (focus (intro w5 hS; (first | fail))); (try simp only [Act.put, List.setIfInBounds_toArray, List.set_cons_zero, List.set_cons_succ])))
  refine InText.nil fun w5 hS5 => ?_
  clear hT9
  clear hE
  go_wp2_with fail
  refine (nextLink_l hlv (hS5.get 0 rfl)).mono ?_
  rintro o w6 ⟨rfl, hb⟩
  have hE := hS5.over hb
  clear hS5 hb
  have r := hE.rule 0 rfl
  unfold laneC at r
  have g0 := hE.thaw 0 rfl 6 (by simp [laneC])
  have g1 := hE.thaw 0 rfl 7 (by simp [laneC])
  have g2 := hE.thaw 0 rfl 8 (by simp [laneC])
  have g3 := hE.thaw 0 rfl 9 (by simp [laneC])
  have hP := (((hE.put 0 rfl (j := 6) (by simp [laneC]) (.int .i64 5)).put 0 rfl (j := 7) (by simp [laneC]) (.int .i64 C)).put 0 rfl (j := 8) (by simp [laneC]) (.int .i64 (7 + lv))).put 0 rfl (j := 9) (by simp [laneC]) (.int .i64 0)
  replace hP : Env w0 (boxI a (laneC c lv key vs nx 0 5 C (7 + lv) W C X wd pf pv) :: L) _ := hP
  clear hE
  have r9 := hP.rule 0 rfl
  unfold laneC at r9
  go_wp2_with fail
  refine (come_l X HV.out HG.out hP).mono ?_
  rintro o w7 ⟨rfl, nx, hnx, hE6⟩
  go_wp2_with fail
  go_ret
  exact ⟨rfl, nx, hnx, hE6⟩

set_option maxHeartbeats 3200000 in
theorem keyVal_l (hk : wd = key) (hE : Env w0 (boxI a (laneC c lv key true nx 0 x y z W C X wd pf pv) :: L) w) :
    Calls Tryz.prog 298 #[.pointer (some ⟨a, 0, none⟩)] w fun o w' => o = .returned (.int .i64 0) ∧ Env w0 (boxI a (laneC c lv key true (mvL 301 a) 0 x y z W C X wd pf pv) :: L) w' := by
  have hmf := makeF
  subst hk
  have hlt : decide (wd < wd) = false := by simp
  have heq : (wd == wd) = true := by simp
  go_enter Tryz.func298, Tryz.ntmps298
  go_wp2_with fail
  refine wp_text (S := (Env w0 (boxI a (laneC c lv wd true nx 0 x y z W C X wd pf pv) :: L))) (by kernel_rfl) (by kernel_rfl) hE.drew (fun hT => ?_)
  have hT9 := Lib.hid hT
  clear hT
  repeat (first
    | (refine text_value (v := ?_) hT9.out (by rfl) ?_ ?_; rotate_left; (focus (intro w5 hS; have r := hS.rule 0 rfl; unfold laneC at r; go_simp <;> with_reducible rfl)); (try simp only [Act.put, List.setIfInBounds_toArray, List.set_cons_zero, List.set_cons_succ]))
    | (refine text_off hT9.out (by rfl) ?_; (try simp only [Act.put, List.setIfInBounds_toArray, List.set_cons_zero, List.set_cons_succ]))
    | (refine text_call (v := ?_) (f := ?_) (args := ?_) hT9.out (by rfl) ?_ ?_ ?_; rotate_left 3; (focus (intro w5 hS; have r := hS.rule 0 rfl; unfold laneC at r; go_simp; constructor <;> with_reducible rfl)); (focus (intro w5 hS; (first | fail))); (try simp only [Act.put, List.setIfInBounds_toArray, List.set_cons_zero, List.set_cons_succ])))
  refine InText.nil fun w5 hS5 => ?_
  clear hT9
  clear hE
  go_wp2_with fail
  have hE := hS5
  clear hS5
  refine wp_text (S := (Env w0 (boxI a (laneC c lv wd true nx 0 x y z W C X wd pf pv) :: L))) (by kernel_rfl) (by kernel_rfl) hE.drew (fun hT => ?_)
  have hT9 := Lib.hid hT
  clear hT
  repeat (first
    | (refine text_value (v := ?_) hT9.out (by rfl) ?_ ?_; rotate_left; (focus (intro w5 hS; have r := hS.rule 0 rfl; unfold laneC at r; go_simp <;> with_reducible rfl)); (try simp only [Act.put, List.setIfInBounds_toArray, List.set_cons_zero, List.set_cons_succ]))
    | (refine text_off hT9.out (by rfl) ?_; (try simp only [Act.put, List.setIfInBounds_toArray, List.set_cons_zero, List.set_cons_succ]))
    | (refine text_call (v := ?_) (f := ?_) (args := ?_) hT9.out (by rfl) ?_ ?_ ?_; rotate_left 3; (focus (intro w5 hS; have r := hS.rule 0 rfl; unfold laneC at r; go_simp; constructor <;> with_reducible rfl)); (focus (intro w5 hS; (first | fail))); (try simp only [Act.put, List.setIfInBounds_toArray, List.set_cons_zero, List.set_cons_succ])))
  refine InText.nil fun w5 hS5 => ?_
  clear hT9
  clear hE
  go_wp2_with fail
  refine (goOn_l 0 _ _ _ (by simp [laneC]) hS5 rfl).mono ?_
  rintro o w6 ⟨rfl, hE6⟩
  go_wp2_with fail
  go_ret
  exact ⟨rfl, hE6⟩

set_option maxHeartbeats 3200000 in
theorem keyFound_l (hk : wd = key) (hE : Env w0 (boxI a (laneC c lv key false nx 0 x y z W C X wd pf pv) :: L) w) :
    Calls Tryz.prog 298 #[.pointer (some ⟨a, 0, none⟩)] w fun o w' => o = .returned (.int .i64 1) ∧ ∃ nx, Env w0 (boxI a (laneC c lv key false nx 1 x y z W C X wd true pv) :: L) w' := by
  have hmf := makeF
  subst hk
  have hlt : decide (wd < wd) = false := by simp
  have heq : (wd == wd) = true := by simp
  go_enter Tryz.func298, Tryz.ntmps298
  go_wp2_with fail
  refine wp_text (S := (Env w0 (boxI a (laneC c lv wd false nx 0 x y z W C X wd pf pv) :: L))) (by kernel_rfl) (by kernel_rfl) hE.drew (fun hT => ?_)
  have hT9 := Lib.hid hT
  clear hT
  repeat (first
    | (refine text_value (v := ?_) hT9.out (by rfl) ?_ ?_; rotate_left; (focus (intro w5 hS; have r := hS.rule 0 rfl; unfold laneC at r; go_simp <;> with_reducible rfl)); (try simp only [Act.put, List.setIfInBounds_toArray, List.set_cons_zero, List.set_cons_succ]))
    | (refine text_off hT9.out (by rfl) ?_; (try simp only [Act.put, List.setIfInBounds_toArray, List.set_cons_zero, List.set_cons_succ]))
    | (refine text_call (v := ?_) (f := ?_) (args := ?_) hT9.out (by rfl) ?_ ?_ ?_; rotate_left 3; (focus (intro w5 hS; have r := hS.rule 0 rfl; unfold laneC at r; go_simp; constructor <;> with_reducible rfl)); (focus (intro w5 hS; (first | fail))); (try simp only [Act.put, List.setIfInBounds_toArray, List.set_cons_zero, List.set_cons_succ])))
  refine InText.nil fun w5 hS5 => ?_
  clear hT9
  clear hE
  go_wp2_with fail
  have hE := hS5
  clear hS5
  refine wp_text (S := (Env w0 (boxI a (laneC c lv wd false nx 0 x y z W C X wd pf pv) :: L))) (by kernel_rfl) (by kernel_rfl) hE.drew (fun hT => ?_)
  have hT9 := Lib.hid hT
  clear hT
  repeat (first
    | (refine text_value (v := ?_) hT9.out (by rfl) ?_ ?_; rotate_left; (focus (intro w5 hS; have r := hS.rule 0 rfl; unfold laneC at r; go_simp <;> with_reducible rfl)); (try simp only [Act.put, List.setIfInBounds_toArray, List.set_cons_zero, List.set_cons_succ]))
    | (refine text_off hT9.out (by rfl) ?_; (try simp only [Act.put, List.setIfInBounds_toArray, List.set_cons_zero, List.set_cons_succ]))
    | (refine text_call (v := ?_) (f := ?_) (args := ?_) hT9.out (by rfl) ?_ ?_ ?_; rotate_left 3; (focus (intro w5 hS; have r := hS.rule 0 rfl; unfold laneC at r; go_simp; constructor <;> with_reducible rfl)); (focus (intro w5 hS; (first | fail))); (try simp only [Act.put, List.setIfInBounds_toArray, List.set_cons_zero, List.set_cons_succ])))
  refine InText.nil fun w5 hS5 => ?_
  clear hT9
  clear hE
  go_wp2_with fail
  have hE := hS5
  clear hS5
  refine Ord.wp_chain [12] (fun u => ∃ n8, Blk 0 u a (laneC c lv wd false nx 0 x y z W C X wd n8 pv)) (fun k w' => Env w0 (boxI a (if k = 0 then (laneC c lv wd false nx 0 x y z W C X wd pf pv) else (laneC c lv wd false nx 0 x y z W C X wd true pv)) :: L) w') (by kernel_rfl) (by kernel_rfl) (by kernel_rfl) ⟨pf, hE.drew.get 0 rfl⟩ hE.drew (fun hT => ?_)
  have hT9 := Lib.hid hT
  clear hT
  repeat (first
    | (refine Ord.ch_value (v := ?_) hT9.out (by decide) (by rfl) ?_ ?_; rotate_left; (focus (intro w5 hS; obtain ⟨n9, hS1⟩ := hS; have r := hS1.rule; unfold laneC at r; go_simp <;> with_reducible rfl)); (try simp only [Act.put, List.setIfInBounds_toArray, List.set_cons_zero, List.set_cons_succ]))
    | (refine Ord.ch_off hT9.out (by decide) (by rfl) ?_; (try simp only [Act.put, List.setIfInBounds_toArray, List.set_cons_zero, List.set_cons_succ])))
  refine Ord.ch_turn (v := undef) 0 hT9.out rfl (by decide) (Or.inl rfl) (by rfl) ?_ ?_
  · rintro w5 hC5 hA5
    simp only [if_true] at hA5
    have r := hA5.rule 0 rfl
    unfold laneC at r
    have g0 := hA5.thaw 0 rfl 19 (by simp [laneC])
    go_simp
    have h9 := hA5.put 0 rfl (j := 19) (by simp [laneC]) (.bool true)
    replace h9 : Env w0 (boxI a (laneC c lv wd false nx 0 x y z W C X wd true pv) :: L) _ := h9
    first | exact ⟨rfl, .inl (h9.get 0 rfl), h9⟩ | exact ⟨rfl, .inr (h9.get 0 rfl), h9⟩
  (try simp only [Act.put, List.setIfInBounds_toArray, List.set_cons_zero, List.set_cons_succ])
  repeat (first
    | (refine Ord.ch_value (v := ?_) hT9.out (by decide) (by rfl) ?_ ?_; rotate_left; (focus (intro w5 hS; skip; go_simp <;> with_reducible rfl)); (try simp only [Act.put, List.setIfInBounds_toArray, List.set_cons_zero, List.set_cons_succ]))
    | (refine Ord.ch_off hT9.out (by decide) (by rfl) ?_; (try simp only [Act.put, List.setIfInBounds_toArray, List.set_cons_zero, List.set_cons_succ])))
  refine Ord.InText.nil fun w5 hS => ?_
  clear hT9
  obtain ⟨hC9, hA9⟩ := Ord.chain_end hS
  clear hS
  replace hA9 : Env w0 (boxI a (laneC c lv wd false nx 0 x y z W C X wd true pv) :: L) w5 := hA9
  clear hE hC9
  go_wp2_with fail
  refine (end_l 0 1 (by simp [laneC]) hA9 rfl).mono ?_
  rintro o w6 ⟨rfl, nx, hE6⟩
  go_wp2_with fail
  go_ret
  exact ⟨rfl, nx, hE6⟩

set_option maxHeartbeats 3200000 in
theorem keyMore_l (hk : key < wd) (hE : Env w0 (boxI a (laneC c lv key vs nx 0 x y z W C X wd pf pv) :: L) w) :
    Calls Tryz.prog 298 #[.pointer (some ⟨a, 0, none⟩)] w fun o w' => o = .returned (.int .i64 1) ∧ ∃ nx, Env w0 (boxI a (laneC c lv key vs nx 1 x y z W C X wd false pv) :: L) w' := by
  have hmf := makeF
  have hlt : decide (wd < key) = false := by simp; omega
  have heq : (wd == key) = false := by simp; omega
  clear hk
  go_enter Tryz.func298, Tryz.ntmps298
  go_wp2_with fail
  refine wp_text (S := (Env w0 (boxI a (laneC c lv key vs nx 0 x y z W C X wd pf pv) :: L))) (by kernel_rfl) (by kernel_rfl) hE.drew (fun hT => ?_)
  have hT9 := Lib.hid hT
  clear hT
  repeat (first
    | (refine text_value (v := ?_) hT9.out (by rfl) ?_ ?_; rotate_left; (focus (intro w5 hS; have r := hS.rule 0 rfl; unfold laneC at r; go_simp <;> with_reducible rfl)); (try simp only [Act.put, List.setIfInBounds_toArray, List.set_cons_zero, List.set_cons_succ]))
    | (refine text_off hT9.out (by rfl) ?_; (try simp only [Act.put, List.setIfInBounds_toArray, List.set_cons_zero, List.set_cons_succ]))
    | (refine text_call (v := ?_) (f := ?_) (args := ?_) hT9.out (by rfl) ?_ ?_ ?_; rotate_left 3; (focus (intro w5 hS; have r := hS.rule 0 rfl; unfold laneC at r; go_simp; constructor <;> with_reducible rfl)); (focus (intro w5 hS; (first | fail))); (try simp only [Act.put, List.setIfInBounds_toArray, List.set_cons_zero, List.set_cons_succ])))
  refine InText.nil fun w5 hS5 => ?_
  clear hT9
  clear hE
  go_wp2_with fail
  have hE := hS5
  clear hS5
  refine wp_text (S := (Env w0 (boxI a (laneC c lv key vs nx 0 x y z W C X wd pf pv) :: L))) (by kernel_rfl) (by kernel_rfl) hE.drew (fun hT => ?_)
  have hT9 := Lib.hid hT
  clear hT
  repeat (first
    | (refine text_value (v := ?_) hT9.out (by rfl) ?_ ?_; rotate_left; (focus (intro w5 hS; have r := hS.rule 0 rfl; unfold laneC at r; go_simp <;> with_reducible rfl)); (try simp only [Act.put, List.setIfInBounds_toArray, List.set_cons_zero, List.set_cons_succ]))
    | (refine text_off hT9.out (by rfl) ?_; (try simp only [Act.put, List.setIfInBounds_toArray, List.set_cons_zero, List.set_cons_succ]))
    | (refine text_call (v := ?_) (f := ?_) (args := ?_) hT9.out (by rfl) ?_ ?_ ?_; rotate_left 3; (focus (intro w5 hS; have r := hS.rule 0 rfl; unfold laneC at r; go_simp; constructor <;> with_reducible rfl)); (focus (intro w5 hS; (first | fail))); (try simp only [Act.put, List.setIfInBounds_toArray, List.set_cons_zero, List.set_cons_succ])))
  refine InText.nil fun w5 hS5 => ?_
  clear hT9
  clear hE
  go_wp2_with fail
  have hE := hS5
  clear hS5
  refine Ord.wp_chain [12] (fun u => ∃ n8, Blk 0 u a (laneC c lv key vs nx 0 x y z W C X wd n8 pv)) (fun k w' => Env w0 (boxI a (if k = 0 then (laneC c lv key vs nx 0 x y z W C X wd pf pv) else (laneC c lv key vs nx 0 x y z W C X wd false pv)) :: L) w') (by kernel_rfl) (by kernel_rfl) (by kernel_rfl) ⟨pf, hE.drew.get 0 rfl⟩ hE.drew (fun hT => ?_)
  have hT9 := Lib.hid hT
  clear hT
  repeat (first
    | (refine Ord.ch_value (v := ?_) hT9.out (by decide) (by rfl) ?_ ?_; rotate_left; (focus (intro w5 hS; obtain ⟨n9, hS1⟩ := hS; have r := hS1.rule; unfold laneC at r; go_simp <;> with_reducible rfl)); (try simp only [Act.put, List.setIfInBounds_toArray, List.set_cons_zero, List.set_cons_succ]))
    | (refine Ord.ch_off hT9.out (by decide) (by rfl) ?_; (try simp only [Act.put, List.setIfInBounds_toArray, List.set_cons_zero, List.set_cons_succ])))
  refine Ord.ch_turn (v := undef) 0 hT9.out rfl (by decide) (Or.inl rfl) (by rfl) ?_ ?_
  · rintro w5 hC5 hA5
    simp only [if_true] at hA5
    have r := hA5.rule 0 rfl
    unfold laneC at r
    have g0 := hA5.thaw 0 rfl 19 (by simp [laneC])
    go_simp
    have h9 := hA5.put 0 rfl (j := 19) (by simp [laneC]) (.bool false)
    replace h9 : Env w0 (boxI a (laneC c lv key vs nx 0 x y z W C X wd false pv) :: L) _ := h9
    first | exact ⟨rfl, .inl (h9.get 0 rfl), h9⟩ | exact ⟨rfl, .inr (h9.get 0 rfl), h9⟩
  (try simp only [Act.put, List.setIfInBounds_toArray, List.set_cons_zero, List.set_cons_succ])
  repeat (first
    | (refine Ord.ch_value (v := ?_) hT9.out (by decide) (by rfl) ?_ ?_; rotate_left; (focus (intro w5 hS; skip; go_simp <;> with_reducible rfl)); (try simp only [Act.put, List.setIfInBounds_toArray, List.set_cons_zero, List.set_cons_succ]))
    | (refine Ord.ch_off hT9.out (by decide) (by rfl) ?_; (try simp only [Act.put, List.setIfInBounds_toArray, List.set_cons_zero, List.set_cons_succ])))
  refine Ord.InText.nil fun w5 hS => ?_
  clear hT9
  obtain ⟨hC9, hA9⟩ := Ord.chain_end hS
  clear hS
  replace hA9 : Env w0 (boxI a (laneC c lv key vs nx 0 x y z W C X wd false pv) :: L) w5 := hA9
  clear hE hC9
  go_wp2_with fail
  refine (end_l 0 1 (by simp [laneC]) hA9 rfl).mono ?_
  rintro o w6 ⟨rfl, nx, hE6⟩
  go_wp2_with fail
  go_ret
  exact ⟨rfl, nx, hE6⟩

end
end Go.Proofs.YtnnjanaclgjneaaGreatDoor

/- Lanes: the contract of cut. -/
namespace Go.Proofs.YtnnjanaclgjneaaGreatDoor
open Go.RowKit Go.Maps
set_option maxRecDepth 100000

section
variable {w0 w : World} {R : List Item} {a : Nat} {S : ST} {lv key : Int} {vs : Bool} {nx : Value} {x y z W C X wd : Int} {pf : Bool} {pv : Int}

set_option maxHeartbeats 3200000 in
theorem cutNo_l (heq : S.f (x, y, z) ≠ W) (hwf : Wf (x, y, z)) (hX : InU X) (hg : Glo w0) (hm : S.m < maxLen) (hE : Env w0 (boxI a (laneC S.c lv key vs nx 0 x y z W C X wd pf pv) :: LT S R) w) :
    Calls Tryz.prog 293 #[.pointer (some ⟨a, 0, none⟩), .iface 26 (.pointer (some ⟨S.p, 0, none⟩))] w fun o w' => o = .returned (.int .i64 2) ∧ ∃ nx G', Env w0 (boxI a (laneC S.c lv key vs nx 2 x y z W C X wd pf pv) :: LT { S with G := G', f := swf S.f (x, y, z) W (wordI false (slotI X) S.ce), qc := swq S.qc false, m := S.m + 1 } R) w' := by
  have hmf := makeF
  have hah := ahead_swap
  have HD : Hid (decide (S.f (x, y, z) = W) = false) := Lib.hid (by simpa using heq)
  have HG := Lib.hid hg
  have HWF := Lib.hid hwf
  have HLE := Lib.hid fun (v : World) (hv : Below w0.heap.size w0 v) => lead_c X 0 false v hX (hg.keep' hv)
  have hqi : InU (wordI false (slotI X) S.ce) := wordI_in _ _ _
  have hto := fun (v : World) (hv : Below w0.heap.size w0 v) (hb : Blk 0 v S.c (crv S.ck S.cs S.cb S.ch S.cl S.ce S.cr S.hs 0 S.q)) => to_c (slotI X) 0 (hg.keep' hv) hb
  obtain ⟨s, hs⟩ : ∃ s, slotI X = s := ⟨_, rfl⟩
  rw [hs] at hqi ⊢
  simp only [hs] at HLE hto
  clear hs
  obtain ⟨q, hq⟩ : ∃ q, wordI false s S.ce = q := ⟨_, rfl⟩
  rw [hq] at hqi ⊢
  simp only [hq] at hto
  have HQI := Lib.hid hqi
  have HTO := Lib.hid hto
  clear hq hqi hto heq hwf hX hg
  go_enter Tryz.func293, Tryz.ntmps293
  go_wp2_with fail
  refine OrdF.wp_float [?_, ?_, ?_, ?_, ?_, ?_, ?_, ?_, ?_, ?_, OrdF.Ptr, ?_] [11] 10 (fun v => Below w0.heap.size w0 v ∧ Blk 0 v a (laneC S.c lv key vs nx 0 x y z W C X wd pf pv) ∧ Blk 0 v S.c (crv S.ck S.cs S.cb S.ch S.cl S.ce S.cr S.hs 0 S.q)) (OrdF.AF w0 [.int .u64 0, .int .i64 0, .bool false] (OrdF.Sta [fun N zs => N = boxI a (laneC S.c lv key vs nx 0 x y z W C X wd pf pv) :: LT S R ∧ zs = [.int .u64 0, .int .i64 0, .bool false], fun N zs => N = boxI a (laneC S.c lv key vs nx 0 x y z W C X wd pf pv) :: LT S R ∧ zs = [.int .u64 q, .int .i64 0, .bool false]])) (by kernel_rfl) (by kernel_rfl) (by kernel_rfl) ⟨hE.drew.below, hE.drew.get 0 rfl, hE.drew.get 1 rfl⟩ ⟨_, _, ⟨_, rfl, rfl, rfl⟩, .inl ⟨rfl, rfl, hE.drew⟩⟩ (fun hT => ?_)
  rotate_left 11
  have hT9 := Lib.hid hT
  clear hT
  repeat (first
    | (focus (refine OrdF.in_value (v := ?_) hT9.out (by decide) (by decide) ?_ (by rfl) ?_ ?_; rotate_left 2; (focus (intro w5 hS; have r := hS.2.1.rule; unfold laneC at r; go_simp <;> with_reducible rfl)); rotate_right; (focus rfl); (try simp only [Act.put, List.setIfInBounds_toArray, List.set_cons_zero, List.set_cons_succ])))
    | (focus (refine OrdF.in_off hT9.out (by decide) (by decide) ?_ (by rfl) ?_; (focus rfl); (try simp only [Act.put, List.setIfInBounds_toArray, List.set_cons_zero, List.set_cons_succ]))))
  focus (refine OrdF.in_call (v := .agg #[.int .i64 s, .int .i64 0]) (f := ?_) (args := ?_) hT9.out (by decide) (by decide) ?_ (by rfl) ?_ ?_ ?_; rotate_left 2; (focus rfl); (focus (intro w5 hS; skip; go_simp; constructor <;> with_reducible rfl)); (focus (intro w5 hS; refine (HLE.out _ hS.1).mono ?_; rintro e w6 ⟨rfl, hb6⟩; exact ⟨rfl, ⟨hS.1.trans (hb6.mono hS.1.size), hS.2.1.under hb6, hS.2.2.under hb6⟩, fun _ _ h => AF_over h hb6⟩)); (try simp only [Act.put, List.setIfInBounds_toArray, List.set_cons_zero, List.set_cons_succ]))
  focus (refine OrdF.in_call (v := .agg #[.int .u64 q, .int .i64 0, .bool false]) (f := ?_) (args := ?_) hT9.out (by decide) (by decide) ?_ (by rfl) ?_ ?_ ?_; rotate_left 2; (focus rfl); (focus (intro w5 hS; skip; go_simp; constructor <;> with_reducible rfl)); (focus (intro w5 hS; refine (HTO.out _ hS.1 hS.2.2).mono ?_; rintro e w6 ⟨rfl, hb6⟩; exact ⟨rfl, ⟨hS.1.trans (hb6.mono hS.1.size), hS.2.1.under hb6, hS.2.2.under hb6⟩, fun _ _ h => AF_over h hb6⟩)); (try simp only [Act.put, List.setIfInBounds_toArray, List.set_cons_zero, List.set_cons_succ]))
  refine OrdF.in_float OrdF.Ptr (.pointer (some ⟨0, 0, none⟩)) ⟨0, rfl⟩ hT9.out rfl (by decide) ?_ (by rfl) ?_ ?_
  · rfl
  · intro w5 κs5 hC5 hA5
    go_simp
    simp only [Ord3.Lands]
    exact ⟨⟨_, rfl⟩, ⟨hC5.1.alloc hC5.1.size _, hC5.2.1.more _, hC5.2.2.more _⟩, hA5.up _⟩
  rintro _ ⟨V, rfl⟩
  (try simp only [Act.put, List.setIfInBounds_toArray, List.set_cons_zero, List.set_cons_succ])
  refine OrdF.in_turn_late (by kernel_rfl) (by decide) (by decide) (fun u => u = undef) (undef) rfl hT9.out rfl (by decide) (by rfl) ?_ (.inl rfl) (by rfl) ?_ ?_
  · rfl
  · rintro w5 hC5 ⟨M5, z5, ⟨P5, hP5, hM5⟩, ⟨hn5, _⟩ | ⟨n5, hn5, hE5⟩⟩
    · cases hn5
    cases hn5
    cases hP5
    obtain ⟨rfl, rfl⟩ := hM5
    have r := hE5.rule 0 rfl; have ff := hE5.thaw 0 rfl; have f0 := ff 0 (by simp); have f1 := ff 1 (by simp); have f2 := ff 2 (by simp); clear ff
    go_simp
    have hE6 := hE5.put3 0 rfl (.int .u64 q) (.int .i64 0) (.bool false); exact ⟨rfl, ⟨hE6.below, hE6.get 1 rfl, hE6.get 2 rfl⟩, _, _, ⟨_, rfl, rfl, rfl⟩, .inr ⟨_, rfl, hE6⟩⟩
  rintro _ rfl
  (try simp only [Act.put, List.setIfInBounds_toArray, List.set_cons_zero, List.set_cons_succ])
  refine OrdF.in_nil rfl (by decide) (by decide) ?_
  rintro w5 hC5 ⟨M5, z5, ⟨P5, hP5, hM5⟩, ⟨hn5, _⟩ | ⟨n5, hn5, hE5⟩⟩
  · cases hn5
  cases hn5
  cases hP5
  obtain ⟨rfl, rfl⟩ := hM5
  clear hT9
  clear HTO HLE hE
  go_wp2_with fail
  refine Ord.wp_chain [13] (fun v => Blk 0 v a (laneC S.c lv key vs nx 0 x y z W C X wd pf pv) ∧ Blk 0 v V [.int .u64 q, .int .i64 0, .bool false]) (fun k w' => ∃ G5, Env w0 (boxI V [.int .u64 q, .int .i64 0, .bool false] :: boxI a (laneC S.c lv key vs nx 0 x y z W C X wd pf pv) :: LT (if k = 0 then S else { S with G := G5, f := swf S.f (x, y, z) W q, qc := swq S.qc false, m := S.m + 1 }) R) w') (by kernel_rfl) (by kernel_rfl) (by kernel_rfl) ⟨hE5.drew.get 1 rfl, hE5.drew.get 0 rfl⟩ ⟨S.G, hE5.drew⟩ (fun hT => ?_)
  have hT9 := Lib.hid hT
  clear hT
  repeat (first
    | (refine Ord.ch_value (v := ?_) hT9.out (by decide) (by rfl) ?_ ?_; rotate_left; (focus (intro w5 hS; have r := hS.1.rule; have r1 := hS.2.rule; unfold laneC at r; go_simp <;> with_reducible rfl)); (try simp only [Act.put, List.setIfInBounds_toArray, List.set_cons_zero, List.set_cons_succ]))
    | (refine Ord.ch_off hT9.out (by decide) (by rfl) ?_; (try simp only [Act.put, List.setIfInBounds_toArray, List.set_cons_zero, List.set_cons_succ])))
  refine Ord.ch_turn (v := .bool false) 0 hT9.out rfl (by decide) (Or.inl rfl) (by rfl) ?_ ?_
  · rintro w5 hC5 ⟨G5, hA5⟩
    simp only [if_true] at hA5
    go_simp
    rw [method_swap]
    simp only [Result.andThen_ok]
    go_simp
    simp only [Ord.LandsIn]
    have hsw := swap_w x y z 0 W 0 q 0 false false HWF.out HQI.out hm 4 5 (by decide) hA5 rfl rfl
    rw [HD.out] at hsw
    refine hsw.mono ?_
    rintro e w6 ⟨rfl, G6, hE6⟩
    exact ⟨rfl, ⟨hE6.get 1 rfl, hE6.get 0 rfl⟩, G6, hE6⟩
  (try simp only [Act.put, List.setIfInBounds_toArray, List.set_cons_zero, List.set_cons_succ])
  repeat (first
    | (refine Ord.ch_value (v := ?_) hT9.out (by decide) (by rfl) ?_ ?_; rotate_left; (focus (intro w5 hS; skip; go_simp <;> with_reducible rfl)); (try simp only [Act.put, List.setIfInBounds_toArray, List.set_cons_zero, List.set_cons_succ]))
    | (refine Ord.ch_off hT9.out (by decide) (by rfl) ?_; (try simp only [Act.put, List.setIfInBounds_toArray, List.set_cons_zero, List.set_cons_succ])))
  refine Ord.InText.nil fun w5 hS => ?_
  clear hT9
  obtain ⟨hC9, hA9⟩ := Ord.chain_end hS
  clear hS
  obtain ⟨G9, hA9⟩ := hA9
  clear hC9 hE5
  simp only [List.length_cons, List.length_nil, Nat.zero_add, Nat.one_ne_zero, if_false] at hA9

  go_wp2_with fail
  refine (end_l 1 2 (by simp [laneC]) hA9 rfl).mono ?_
  rintro o w7 ⟨rfl, nx, hE7⟩
  go_wp2_with fail
  go_ret
  exact ⟨rfl, nx, G9, hE7.sub (.cons _ (List.Sublist.refl _))⟩

set_option maxHeartbeats 3200000 in
theorem cutYes_l (heq : S.f (x, y, z) = W) (hwf : Wf (x, y, z)) (hX : InU X) (hg : Glo w0) (hm : S.m < maxLen) (hE : Env w0 (boxI a (laneC S.c lv key vs nx 0 x y z W C X wd pf pv) :: LT S R) w) :
    Calls Tryz.prog 293 #[.pointer (some ⟨a, 0, none⟩), .iface 26 (.pointer (some ⟨S.p, 0, none⟩))] w fun o w' => o = .returned (.int .i64 (cS (wordI false (slotI X) S.ce))) ∧ ∃ nx G', (slotI (wordI false (slotI X) S.ce) ≠ 0 → nx = mvL 272 a) ∧ Env w0 (boxI a (laneC S.c lv key vs nx (cS (wordI false (slotI X) S.ce)) x y z (wordI false (slotI X) S.ce) (slotI (wordI false (slotI X) S.ce)) 0 wd pf pv) :: LT { S with G := G', f := swf S.f (x, y, z) W (wordI false (slotI X) S.ce), qc := swq S.qc true, m := S.m + 1 } R) w' := by
  have hmf := makeF
  have hah := ahead_swap
  have HD : Hid (decide (S.f (x, y, z) = W) = true) := Lib.hid (by simpa using heq)
  have HG := Lib.hid hg
  have HWF := Lib.hid hwf
  have HLE := Lib.hid fun (v : World) (hv : Below w0.heap.size w0 v) => lead_c X 0 false v hX (hg.keep' hv)
  have hqi : InU (wordI false (slotI X) S.ce) := wordI_in _ _ _
  have hto := fun (v : World) (hv : Below w0.heap.size w0 v) (hb : Blk 0 v S.c (crv S.ck S.cs S.cb S.ch S.cl S.ce S.cr S.hs 0 S.q)) => to_c (slotI X) 0 (hg.keep' hv) hb
  obtain ⟨s, hs⟩ : ∃ s, slotI X = s := ⟨_, rfl⟩
  rw [hs] at hqi ⊢
  simp only [hs] at HLE hto
  clear hs
  obtain ⟨q, hq⟩ : ∃ q, wordI false s S.ce = q := ⟨_, rfl⟩
  rw [hq] at hqi ⊢
  simp only [hq] at hto
  have HQI := Lib.hid hqi
  have HTO := Lib.hid hto
  clear hq hqi hto heq hwf hX hg
  go_enter Tryz.func293, Tryz.ntmps293
  go_wp2_with fail
  refine OrdF.wp_float [?_, ?_, ?_, ?_, ?_, ?_, ?_, ?_, ?_, ?_, OrdF.Ptr, ?_] [11] 10 (fun v => Below w0.heap.size w0 v ∧ Blk 0 v a (laneC S.c lv key vs nx 0 x y z W C X wd pf pv) ∧ Blk 0 v S.c (crv S.ck S.cs S.cb S.ch S.cl S.ce S.cr S.hs 0 S.q)) (OrdF.AF w0 [.int .u64 0, .int .i64 0, .bool false] (OrdF.Sta [fun N zs => N = boxI a (laneC S.c lv key vs nx 0 x y z W C X wd pf pv) :: LT S R ∧ zs = [.int .u64 0, .int .i64 0, .bool false], fun N zs => N = boxI a (laneC S.c lv key vs nx 0 x y z W C X wd pf pv) :: LT S R ∧ zs = [.int .u64 q, .int .i64 0, .bool false]])) (by kernel_rfl) (by kernel_rfl) (by kernel_rfl) ⟨hE.drew.below, hE.drew.get 0 rfl, hE.drew.get 1 rfl⟩ ⟨_, _, ⟨_, rfl, rfl, rfl⟩, .inl ⟨rfl, rfl, hE.drew⟩⟩ (fun hT => ?_)
  rotate_left 11
  have hT9 := Lib.hid hT
  clear hT
  repeat (first
    | (focus (refine OrdF.in_value (v := ?_) hT9.out (by decide) (by decide) ?_ (by rfl) ?_ ?_; rotate_left 2; (focus (intro w5 hS; have r := hS.2.1.rule; unfold laneC at r; go_simp <;> with_reducible rfl)); rotate_right; (focus rfl); (try simp only [Act.put, List.setIfInBounds_toArray, List.set_cons_zero, List.set_cons_succ])))
    | (focus (refine OrdF.in_off hT9.out (by decide) (by decide) ?_ (by rfl) ?_; (focus rfl); (try simp only [Act.put, List.setIfInBounds_toArray, List.set_cons_zero, List.set_cons_succ]))))
  focus (refine OrdF.in_call (v := .agg #[.int .i64 s, .int .i64 0]) (f := ?_) (args := ?_) hT9.out (by decide) (by decide) ?_ (by rfl) ?_ ?_ ?_; rotate_left 2; (focus rfl); (focus (intro w5 hS; skip; go_simp; constructor <;> with_reducible rfl)); (focus (intro w5 hS; refine (HLE.out _ hS.1).mono ?_; rintro e w6 ⟨rfl, hb6⟩; exact ⟨rfl, ⟨hS.1.trans (hb6.mono hS.1.size), hS.2.1.under hb6, hS.2.2.under hb6⟩, fun _ _ h => AF_over h hb6⟩)); (try simp only [Act.put, List.setIfInBounds_toArray, List.set_cons_zero, List.set_cons_succ]))
  focus (refine OrdF.in_call (v := .agg #[.int .u64 q, .int .i64 0, .bool false]) (f := ?_) (args := ?_) hT9.out (by decide) (by decide) ?_ (by rfl) ?_ ?_ ?_; rotate_left 2; (focus rfl); (focus (intro w5 hS; skip; go_simp; constructor <;> with_reducible rfl)); (focus (intro w5 hS; refine (HTO.out _ hS.1 hS.2.2).mono ?_; rintro e w6 ⟨rfl, hb6⟩; exact ⟨rfl, ⟨hS.1.trans (hb6.mono hS.1.size), hS.2.1.under hb6, hS.2.2.under hb6⟩, fun _ _ h => AF_over h hb6⟩)); (try simp only [Act.put, List.setIfInBounds_toArray, List.set_cons_zero, List.set_cons_succ]))
  refine OrdF.in_float OrdF.Ptr (.pointer (some ⟨0, 0, none⟩)) ⟨0, rfl⟩ hT9.out rfl (by decide) ?_ (by rfl) ?_ ?_
  · rfl
  · intro w5 κs5 hC5 hA5
    go_simp
    simp only [Ord3.Lands]
    exact ⟨⟨_, rfl⟩, ⟨hC5.1.alloc hC5.1.size _, hC5.2.1.more _, hC5.2.2.more _⟩, hA5.up _⟩
  rintro _ ⟨V, rfl⟩
  (try simp only [Act.put, List.setIfInBounds_toArray, List.set_cons_zero, List.set_cons_succ])
  refine OrdF.in_turn_late (by kernel_rfl) (by decide) (by decide) (fun u => u = undef) (undef) rfl hT9.out rfl (by decide) (by rfl) ?_ (.inl rfl) (by rfl) ?_ ?_
  · rfl
  · rintro w5 hC5 ⟨M5, z5, ⟨P5, hP5, hM5⟩, ⟨hn5, _⟩ | ⟨n5, hn5, hE5⟩⟩
    · cases hn5
    cases hn5
    cases hP5
    obtain ⟨rfl, rfl⟩ := hM5
    have r := hE5.rule 0 rfl; have ff := hE5.thaw 0 rfl; have f0 := ff 0 (by simp); have f1 := ff 1 (by simp); have f2 := ff 2 (by simp); clear ff
    go_simp
    have hE6 := hE5.put3 0 rfl (.int .u64 q) (.int .i64 0) (.bool false); exact ⟨rfl, ⟨hE6.below, hE6.get 1 rfl, hE6.get 2 rfl⟩, _, _, ⟨_, rfl, rfl, rfl⟩, .inr ⟨_, rfl, hE6⟩⟩
  rintro _ rfl
  (try simp only [Act.put, List.setIfInBounds_toArray, List.set_cons_zero, List.set_cons_succ])
  refine OrdF.in_nil rfl (by decide) (by decide) ?_
  rintro w5 hC5 ⟨M5, z5, ⟨P5, hP5, hM5⟩, ⟨hn5, _⟩ | ⟨n5, hn5, hE5⟩⟩
  · cases hn5
  cases hn5
  cases hP5
  obtain ⟨rfl, rfl⟩ := hM5
  clear hT9
  clear HTO HLE hE
  go_wp2_with fail
  refine Ord.wp_chain [13] (fun v => Blk 0 v a (laneC S.c lv key vs nx 0 x y z W C X wd pf pv) ∧ Blk 0 v V [.int .u64 q, .int .i64 0, .bool false]) (fun k w' => ∃ G5, Env w0 (boxI V [.int .u64 q, .int .i64 0, .bool false] :: boxI a (laneC S.c lv key vs nx 0 x y z W C X wd pf pv) :: LT (if k = 0 then S else { S with G := G5, f := swf S.f (x, y, z) W q, qc := swq S.qc true, m := S.m + 1 }) R) w') (by kernel_rfl) (by kernel_rfl) (by kernel_rfl) ⟨hE5.drew.get 1 rfl, hE5.drew.get 0 rfl⟩ ⟨S.G, hE5.drew⟩ (fun hT => ?_)
  have hT9 := Lib.hid hT
  clear hT
  repeat (first
    | (refine Ord.ch_value (v := ?_) hT9.out (by decide) (by rfl) ?_ ?_; rotate_left; (focus (intro w5 hS; have r := hS.1.rule; have r1 := hS.2.rule; unfold laneC at r; go_simp <;> with_reducible rfl)); (try simp only [Act.put, List.setIfInBounds_toArray, List.set_cons_zero, List.set_cons_succ]))
    | (refine Ord.ch_off hT9.out (by decide) (by rfl) ?_; (try simp only [Act.put, List.setIfInBounds_toArray, List.set_cons_zero, List.set_cons_succ])))
  refine Ord.ch_turn (v := .bool true) 0 hT9.out rfl (by decide) (Or.inl rfl) (by rfl) ?_ ?_
  · rintro w5 hC5 ⟨G5, hA5⟩
    simp only [if_true] at hA5
    go_simp
    rw [method_swap]
    simp only [Result.andThen_ok]
    go_simp
    simp only [Ord.LandsIn]
    have hsw := swap_w x y z 0 W 0 q 0 false false HWF.out HQI.out hm 4 5 (by decide) hA5 rfl rfl
    rw [HD.out] at hsw
    refine hsw.mono ?_
    rintro e w6 ⟨rfl, G6, hE6⟩
    exact ⟨rfl, ⟨hE6.get 1 rfl, hE6.get 0 rfl⟩, G6, hE6⟩
  (try simp only [Act.put, List.setIfInBounds_toArray, List.set_cons_zero, List.set_cons_succ])
  repeat (first
    | (refine Ord.ch_value (v := ?_) hT9.out (by decide) (by rfl) ?_ ?_; rotate_left; (focus (intro w5 hS; skip; go_simp <;> with_reducible rfl)); (try simp only [Act.put, List.setIfInBounds_toArray, List.set_cons_zero, List.set_cons_succ]))
    | (refine Ord.ch_off hT9.out (by decide) (by rfl) ?_; (try simp only [Act.put, List.setIfInBounds_toArray, List.set_cons_zero, List.set_cons_succ])))
  refine Ord.InText.nil fun w5 hS => ?_
  clear hT9
  obtain ⟨hC9, hA9⟩ := Ord.chain_end hS
  clear hS
  obtain ⟨G9, hA9⟩ := hA9
  clear hC9 hE5
  simp only [List.length_cons, List.length_nil, Nat.zero_add, Nat.one_ne_zero, if_false] at hA9

  have rV := hA9.rule 0 rfl
  go_wp2_with fail
  refine (come_l q HQI.out HG.out (hA9.sub (.cons _ (List.Sublist.refl _)))).mono ?_
  rintro o w7 ⟨rfl, nx, hnx, hE7⟩
  go_wp2_with fail
  go_ret
  exact ⟨rfl, nx, G9, hnx, hE7⟩

end
end Go.Proofs.YtnnjanaclgjneaaGreatDoor

/- Lanes: the contract of Step, over the model. -/
namespace Go.Proofs.YtnnjanaclgjneaaGreatDoor
open Go.RowKit Go.Maps
set_option maxRecDepth 100000

section
variable {w0 w : World} {R : List Item} {a b1 b2 : Nat} {S : ST} {lv key : Int} {vs : Bool} {nx : Value} {x y z W C X wd : Int} {pf : Bool} {pv : Int}
set_option maxHeartbeats 3200000 in
theorem val1No_l (T : Value) (hok : okB (S.f (1, 0, 0)) S.ce = false) (hE : Env w0 (boxI a (laneC S.c lv key vs nx 0 x y z W C X wd pf pv) :: boxI b1 [.pointer (some ⟨a, 0, none⟩)] :: boxI b2 [T] :: LT S R) w) :
    Calls Tryz.prog 261 #[.iface 26 (.pointer (some ⟨S.p, 0, none⟩)), .pointer (some ⟨b1, 0, none⟩), .pointer (some ⟨b2, 0, none⟩)] w fun o w' => o = .returned (.int .i64 2) ∧ ∃ nx, Env w0 (boxI a (laneC S.c lv key vs nx 2 x y z W C X wd pf pv) :: boxI b1 [.pointer (some ⟨a, 0, none⟩)] :: boxI b2 [T] :: LT { S with qc := { S.qc with l := wrap64 (S.qc.l + 1) }, cr := wrap64 (S.cr + 1) } R) w' := by
  have hv := valid_w _ (rfl : S.f (1, 0, 0) = S.f (1, 0, 0)) 3 5 6 (by decide) (by decide) hE rfl rfl rfl
  rw [hok] at hv
  simp only [List.set_cons_succ, List.set_cons_zero, Bool.false_eq_true, if_false] at hv
  have HV := Lib.hid hv
  clear hv hok
  have r0 := hE.rule 1 rfl
  have r := hE.rule 0 rfl
  unfold laneC at r
  go_enter Tryz.func261, Tryz.ntmps261
  go_wp2_with fail
  refine HV.out.mono ?_
  rintro o w1 ⟨rfl, hE1⟩
  replace hE1 : Env w0 (boxI a (laneC S.c lv key vs nx 0 x y z W C X wd pf pv) :: boxI b1 [.pointer (some ⟨a, 0, none⟩)] :: boxI b2 [T] :: LT { S with qc := { S.qc with l := wrap64 (S.qc.l + 1) }, cr := wrap64 (S.cr + 1) } R) w1 := hE1
  clear HV hE r0 r
  have r0 := hE1.rule 1 rfl
  go_wp2_with fail
  refine (end_l 0 2 (by simp [laneC]) hE1 rfl).mono ?_
  rintro o w6 ⟨rfl, nx, hE6⟩
  go_wp2_with fail
  go_ret
  exact ⟨rfl, nx, hE6⟩
set_option maxHeartbeats 3200000 in
theorem val1Yes_l (F : Nat) (hx : ∀ (ar : Array Value) (v : World), (callFunc F ar).run Tryz.prog v = .ok (.enter F ar) v) (hok : okB (S.f (1, 0, 0)) S.ce = true) (hE : Env w0 (boxI a (laneC S.c lv key vs nx 0 x y z W C X wd pf pv) :: boxI b1 [.pointer (some ⟨a, 0, none⟩)] :: boxI b2 [mvL F a] :: LT S R) w) (s : Int) (Y : World → Prop)
    (hc : ∀ v, Env w0 (boxI a (laneC S.c lv key vs nx 0 x y z W C X wd pf pv) :: boxI b1 [.pointer (some ⟨a, 0, none⟩)] :: boxI b2 [mvL F a] :: LT { S with qc := { S.qc with l := wrap64 (S.qc.l + 1) } } R) v → Calls Tryz.prog F #[.pointer (some ⟨a, 0, none⟩)] v fun o w' => o = .returned (.int .i64 s) ∧ Y w') :
    Calls Tryz.prog 261 #[.iface 26 (.pointer (some ⟨S.p, 0, none⟩)), .pointer (some ⟨b1, 0, none⟩), .pointer (some ⟨b2, 0, none⟩)] w fun o w' => o = .returned (.int .i64 s) ∧ Y w' := by
  have hv := valid_w _ (rfl : S.f (1, 0, 0) = S.f (1, 0, 0)) 3 5 6 (by decide) (by decide) hE rfl rfl rfl
  rw [hok] at hv
  simp only [List.set_cons_succ, List.set_cons_zero, if_true] at hv
  have HV := Lib.hid hv
  have HC := Lib.hid hc
  clear hv hok hc
  have r0 := hE.rule 1 rfl
  have r := hE.rule 0 rfl
  unfold laneC at r
  go_enter Tryz.func261, Tryz.ntmps261
  go_wp2_with fail
  refine HV.out.mono ?_
  rintro o w1 ⟨rfl, hE1⟩
  replace hE1 : Env w0 (boxI a (laneC S.c lv key vs nx 0 x y z W C X wd pf pv) :: boxI b1 [.pointer (some ⟨a, 0, none⟩)] :: boxI b2 [mvL F a] :: LT { S with qc := { S.qc with l := wrap64 (S.qc.l + 1) } } R) w1 := hE1
  clear HV hE r0 r
  have r0 := hE1.rule 2 rfl
  unfold mvL at r0
  go_wp2_with fail
  refine (HC.out _ hE1).mono ?_
  rintro o w6 ⟨rfl, hY⟩
  go_wp2_with fail
  go_ret
  exact ⟨rfl, hY⟩
end

/-- A lane's cells, by the model. -/
def laneV (c : Nat) (lv key : Int) (vs : Bool) (nx : Value) (st wd : Int) (pf : Bool) (pv : Int) (L : Lm) : List Value := laneC c lv key vs nx st L.p.1 L.p.2.1 L.p.2.2 L.W L.C L.X wd pf pv
/-- Which function is the next row, where it is no validate; which stands behind a validate. -/
def fnL (pc : Nat) : Nat := if pc = 0 then 216 else if pc = 3 then 272 else if pc = 5 then 293 else if pc = 6 then 294 else 301
def bhL (pc : Nat) : Nat := if pc = 2 then 243 else if pc = 4 then 282 else if pc = 7 then 298 else 304
theorem enters_fnL (pc : Nat) (ar : Array Value) (v : World) : (callFunc (fnL pc) ar).run Tryz.prog v = .ok (.enter (fnL pc) ar) v := by
  unfold fnL
  repeat' split
  all_goals kernel_rfl
theorem enters_bhL (pc : Nat) (ar : Array Value) (v : World) : (callFunc (bhL pc) ar).run Tryz.prog v = .ok (.enter (bhL pc) ar) v := by
  unfold bhL
  repeat' split
  all_goals kernel_rfl
/-- What is next. -/
def NxOk (a pc : Nat) (nx : Value) (B1 B2 : Item) : Prop := (isVal pc = false → nx = mvL (fnL pc) a) ∧ (isVal pc = true → ∃ b1 b2, nx = cvL b1 b2 ∧ B1 = boxI b1 [.pointer (some ⟨a, 0, none⟩)] ∧ B2 = boxI b2 [mvL (bhL pc) a])
def pfS (s : Int) (L : Lm) : Bool := if s = 1 then L.fd else false
def pvS (s : Int) (L : Lm) : Int := if s = 1 then L.V else 0
/-- How a lane stands, and all that it needs. -/
def LaneR (w0 : World) (R : List Item) (a : Nat) (lv key : Int) (vs : Bool) (S : ST) (s : Int) (L : Lm) (w : World) : Prop :=
  ∃ nx wd B1 B2, (s = 0 → NxOk a L.pc nx B1 B2 ∧ (L.pc = 7 → wd = L.K) ∧ (L.pc = 9 → wd = L.V)) ∧ Env w0 (boxI a (laneV S.c lv key vs nx s wd (pfS s L) (pvS s L) L) :: B1 :: B2 :: LT S R) w
/-- The world's counts behind a step. -/
def laneQ (L : Lm) (f : Plc → Int) (q : Cnt) : Cnt := if L.pc = 5 then swq q (decide (f L.p = L.W)) else { q with l := wrap64 (q.l + 1) }
/-- All of a thread and its world behind a lane's step. -/
def laneS (lv key : Int) (vs : Bool) (S : ST) (L : Lm) (G : Nat → Prop) : ST := { S with G := G, f := (laneM lv key vs S.ce L S.f).2.2, qc := laneQ L S.f S.qc, m := if L.pc = 5 then S.m + 1 else S.m, cr := rollM S.ce L S.f S.cr }

theorem wf_part {C n : Int} (h : 0 ≤ C ∧ C ≤ 8388607) (hn : 0 ≤ n ∧ n ≤ 2000000) : Wf (5, C, n) := by unfold Wf In64; simp; omega
theorem comeM_cS (L : Lm) (v : Int) : comeM L v = (cS v, { L with W := v, X := 0, C := slotI v, pc := 3 }) := rfl

section
variable {w0 w : World} {R : List Item} {a : Nat} {S : ST} {lv key : Int} {vs : Bool} {L : Lm}
/-- What stands behind a come. -/
theorem LaneR.came {nx : Value} {v wd : Int} {B1 B2 : Item} {L' : Lm} (hl : L' = { L with W := v, X := 0, C := slotI v, pc := 3 }) (hfd : L.fd = false) (hv : L.V = 0) (hnx : slotI v ≠ 0 → nx = mvL 272 a) (hE : Env w0 (boxI a (laneC S.c lv key vs nx (cS v) L.p.1 L.p.2.1 L.p.2.2 v (slotI v) 0 wd false 0) :: B1 :: B2 :: LT S R) w) : LaneR w0 R a lv key vs S (cS v) L' w := by
  subst hl
  refine ⟨nx, wd, B1, B2, fun hs => ⟨⟨fun _ => hnx ?_, fun h => absurd h (by simp [isVal])⟩, fun h => absurd h (by simp), fun h => absurd h (by simp)⟩, ?_⟩
  · intro h
    rw [cS, if_pos h] at hs
    exact absurd hs (by decide)
  · have h1 : pfS (cS v) { L with W := v, X := 0, C := slotI v, pc := 3 } = false := by unfold pfS; split; exact hfd; rfl
    have h2 : pvS (cS v) { L with W := v, X := 0, C := slotI v, pc := 3 } = 0 := by unfold pvS; split; exact hv; rfl
    rw [h1, h2]
    exact hE
end
end Go.Proofs.YtnnjanaclgjneaaGreatDoor

/- Lanes: Step over the model. -/
namespace Go.Proofs.YtnnjanaclgjneaaGreatDoor
open Go.RowKit Go.Maps
set_option maxRecDepth 100000

/-- Nothing, as a thing. -/
def noI : Item where
  F := fun _ => False
  says := fun _ => True
  loc := fun _ _ _ _ _ => trivial
section
variable {w0 w : World} {L : List Item} {x : Item}
theorem Env.none1 (h : Env w0 L w) : Env w0 (noI :: L) w := h.add noI (Below.refl _ _) trivial fun k hk => absurd hk (by simp [noI])
theorem Env.none2 (h : Env w0 (x :: L) w) : Env w0 (x :: noI :: noI :: L) w := h.none1.none1.perm (List.perm_middle (l₁ := [noI, noI]))
end

section
variable {w0 w : World} {R : List Item} {a : Nat} {S : ST} {lv key : Int} {vs : Bool} {L : Lm}

set_option maxHeartbeats 1600000 in
theorem lane_0 (hpc : L.pc = 0) (hL : LmOk L) (hlv : 0 ≤ lv ∧ lv ≤ 1000000) (hwf : Wf L.p) (hg : Glo w0) (hm : S.m < maxLen) (h : LaneR w0 R a lv key vs S 0 L w) :
    Calls Tryz.prog 181 #[.pointer (some ⟨a, 0, none⟩), .iface 26 (.pointer (some ⟨S.p, 0, none⟩))] w fun o w' => o = .returned (.int .i64 (laneM lv key vs S.ce L S.f).1) ∧ ∃ G', LaneR w0 R a lv key vs (laneS lv key vs S L G') (laneM lv key vs S.ce L S.f).1 (laneM lv key vs S.ce L S.f).2.1 w' := by
  obtain ⟨nx, wd, B1, B2, hn, hE⟩ := h
  obtain ⟨⟨hnx, -⟩, -, -⟩ := hn rfl
  have hnx := hnx (by rw [hpc]; rfl)
  rw [hpc] at hnx
  have hV : L.V = 0 := hL.v (by omega)
  have hM : laneM lv key vs S.ce L S.f = (0, { L with W := S.f L.p, pc := 2 }, S.f) := by simp [laneM, hpc]
  have hS : ∀ G, laneS lv key vs S L G = { S with G := G, qc := { S.qc with l := wrap64 (S.qc.l + 1) } } := fun G => by simp [laneS, laneQ, rollM, hM, hpc, isVal]
  rw [hM]
  have hn4 : w.cell? ⟨a, 4, none⟩ = some (mvL (fnL 0) a) := by rw [hE.rule 0 rfl 4, ← hnx]; rfl
  have hs5 : w.cell? ⟨a, 5, none⟩ = some (.int .i64 0) := hE.rule 0 rfl 5
  refine stepMv_l (fnL 0) (enters_fnL 0) _ _ hn4 hs5 ?_
  refine (loadInto_l (S.f L.p) rfl hwf (hE.sub (.cons_cons _ (.cons _ (.cons _ (List.Sublist.refl _)))))).mono ?_
  rintro o w1 ⟨rfl, b1, b2, hE1⟩
  refine ⟨0, rfl, rfl, S.G, ?_⟩
  rw [hS]
  exact ⟨cvL b1 b2, wd, _, _, fun _ => ⟨⟨fun h => absurd h (by simp [isVal]), fun _ => ⟨b1, b2, rfl, rfl, rfl⟩⟩, fun h => absurd h (by simp), fun h => absurd h (by simp)⟩, hE1⟩

set_option maxHeartbeats 1600000 in
theorem lane_3 (hpc : L.pc = 3) (hL : LmOk L) (hlv : 0 ≤ lv ∧ lv ≤ 1000000) (hwf : Wf L.p) (hg : Glo w0) (hm : S.m < maxLen) (h : LaneR w0 R a lv key vs S 0 L w) :
    Calls Tryz.prog 181 #[.pointer (some ⟨a, 0, none⟩), .iface 26 (.pointer (some ⟨S.p, 0, none⟩))] w fun o w' => o = .returned (.int .i64 (laneM lv key vs S.ce L S.f).1) ∧ ∃ G', LaneR w0 R a lv key vs (laneS lv key vs S L G') (laneM lv key vs S.ce L S.f).1 (laneM lv key vs S.ce L S.f).2.1 w' := by
  obtain ⟨nx, wd, B1, B2, hn, hE⟩ := h
  obtain ⟨⟨hnx, -⟩, -, -⟩ := hn rfl
  have hnx := hnx (by rw [hpc]; rfl)
  rw [hpc] at hnx
  have hV : L.V = 0 := hL.v (by omega)
  have hM : laneM lv key vs S.ce L S.f = (0, { L with X := S.f (5, L.C, 7 + lv), pc := 4 }, S.f) := by simp [laneM, hpc]
  have hS : ∀ G, laneS lv key vs S L G = { S with G := G, qc := { S.qc with l := wrap64 (S.qc.l + 1) } } := fun G => by simp [laneS, laneQ, rollM, hM, hpc, isVal]
  rw [hM]
  have hn4 : w.cell? ⟨a, 4, none⟩ = some (mvL (fnL 3) a) := by rw [hE.rule 0 rfl 4, ← hnx]; rfl
  have hs5 : w.cell? ⟨a, 5, none⟩ = some (.int .i64 0) := hE.rule 0 rfl 5
  refine stepMv_l (fnL 3) (enters_fnL 3) _ _ hn4 hs5 ?_
  refine (loadOut_l hlv (S.f (5, L.C, 7 + lv)) rfl (wf_part hL.C (by omega)) (hE.sub (.cons_cons _ (.cons _ (.cons _ (List.Sublist.refl _)))))).mono ?_
  rintro o w1 ⟨rfl, b1, b2, hE1⟩
  refine ⟨0, rfl, rfl, S.G, ?_⟩
  rw [hS]
  exact ⟨cvL b1 b2, wd, _, _, fun _ => ⟨⟨fun h => absurd h (by simp [isVal]), fun _ => ⟨b1, b2, rfl, rfl, rfl⟩⟩, fun h => absurd h (by simp), fun h => absurd h (by simp)⟩, hE1⟩

set_option maxHeartbeats 1600000 in
theorem lane_6 (hpc : L.pc = 6) (hL : LmOk L) (hlv : 0 ≤ lv ∧ lv ≤ 1000000) (hwf : Wf L.p) (hg : Glo w0) (hm : S.m < maxLen) (h : LaneR w0 R a lv key vs S 0 L w) :
    Calls Tryz.prog 181 #[.pointer (some ⟨a, 0, none⟩), .iface 26 (.pointer (some ⟨S.p, 0, none⟩))] w fun o w' => o = .returned (.int .i64 (laneM lv key vs S.ce L S.f).1) ∧ ∃ G', LaneR w0 R a lv key vs (laneS lv key vs S L G') (laneM lv key vs S.ce L S.f).1 (laneM lv key vs S.ce L S.f).2.1 w' := by
  obtain ⟨nx, wd, B1, B2, hn, hE⟩ := h
  obtain ⟨⟨hnx, -⟩, -, -⟩ := hn rfl
  have hnx := hnx (by rw [hpc]; rfl)
  rw [hpc] at hnx
  have hV : L.V = 0 := hL.v (by omega)
  have hM : laneM lv key vs S.ce L S.f = (0, { L with K := S.f (5, L.C, 3), pc := 7 }, S.f) := by simp [laneM, hpc]
  have hS : ∀ G, laneS lv key vs S L G = { S with G := G, qc := { S.qc with l := wrap64 (S.qc.l + 1) } } := fun G => by simp [laneS, laneQ, rollM, hM, hpc, isVal]
  rw [hM]
  have hn4 : w.cell? ⟨a, 4, none⟩ = some (mvL (fnL 6) a) := by rw [hE.rule 0 rfl 4, ← hnx]; rfl
  have hs5 : w.cell? ⟨a, 5, none⟩ = some (.int .i64 0) := hE.rule 0 rfl 5
  refine stepMv_l (fnL 6) (enters_fnL 6) _ _ hn4 hs5 ?_
  refine (loadKey_l (S.f (5, L.C, 3)) rfl (wf_part hL.C (by omega)) (hE.sub (.cons_cons _ (.cons _ (.cons _ (List.Sublist.refl _)))))).mono ?_
  rintro o w1 ⟨rfl, b1, b2, hE1⟩
  refine ⟨0, rfl, rfl, S.G, ?_⟩
  rw [hS]
  exact ⟨cvL b1 b2, S.f (5, L.C, 3), _, _, fun _ => ⟨⟨fun h => absurd h (by simp [isVal]), fun _ => ⟨b1, b2, rfl, rfl, rfl⟩⟩, fun _ => rfl, fun h => absurd h (by simp)⟩, hE1⟩

set_option maxHeartbeats 1600000 in
theorem lane_8 (hpc : L.pc = 8) (hL : LmOk L) (hlv : 0 ≤ lv ∧ lv ≤ 1000000) (hwf : Wf L.p) (hg : Glo w0) (hm : S.m < maxLen) (h : LaneR w0 R a lv key vs S 0 L w) :
    Calls Tryz.prog 181 #[.pointer (some ⟨a, 0, none⟩), .iface 26 (.pointer (some ⟨S.p, 0, none⟩))] w fun o w' => o = .returned (.int .i64 (laneM lv key vs S.ce L S.f).1) ∧ ∃ G', LaneR w0 R a lv key vs (laneS lv key vs S L G') (laneM lv key vs S.ce L S.f).1 (laneM lv key vs S.ce L S.f).2.1 w' := by
  obtain ⟨nx, wd, B1, B2, hn, hE⟩ := h
  obtain ⟨⟨hnx, -⟩, -, -⟩ := hn rfl
  have hnx := hnx (by rw [hpc]; rfl)
  rw [hpc] at hnx
  have hV : L.V = 0 := hL.v (by omega)
  have hM : laneM lv key vs S.ce L S.f = (0, { L with V := S.f (5, L.C, 4), pc := 9 }, S.f) := by simp [laneM, hpc]
  have hS : ∀ G, laneS lv key vs S L G = { S with G := G, qc := { S.qc with l := wrap64 (S.qc.l + 1) } } := fun G => by simp [laneS, laneQ, rollM, hM, hpc, isVal]
  rw [hM]
  have hn4 : w.cell? ⟨a, 4, none⟩ = some (mvL (fnL 8) a) := by rw [hE.rule 0 rfl 4, ← hnx]; rfl
  have hs5 : w.cell? ⟨a, 5, none⟩ = some (.int .i64 0) := hE.rule 0 rfl 5
  refine stepMv_l (fnL 8) (enters_fnL 8) _ _ hn4 hs5 ?_
  refine (loadVal_l (S.f (5, L.C, 4)) rfl (wf_part hL.C (by omega)) (hE.sub (.cons_cons _ (.cons _ (.cons _ (List.Sublist.refl _)))))).mono ?_
  rintro o w1 ⟨rfl, b1, b2, hE1⟩
  refine ⟨0, rfl, rfl, S.G, ?_⟩
  rw [hS]
  exact ⟨cvL b1 b2, S.f (5, L.C, 4), _, _, fun _ => ⟨⟨fun h => absurd h (by simp [isVal]), fun _ => ⟨b1, b2, rfl, rfl, rfl⟩⟩, fun h => absurd h (by simp), fun _ => rfl⟩, hE1⟩

set_option maxHeartbeats 1600000 in
theorem lane_5 (hpc : L.pc = 5) (hL : LmOk L) (hlv : 0 ≤ lv ∧ lv ≤ 1000000) (hwf : Wf L.p) (hg : Glo w0) (hm : S.m < maxLen) (h : LaneR w0 R a lv key vs S 0 L w) :
    Calls Tryz.prog 181 #[.pointer (some ⟨a, 0, none⟩), .iface 26 (.pointer (some ⟨S.p, 0, none⟩))] w fun o w' => o = .returned (.int .i64 (laneM lv key vs S.ce L S.f).1) ∧ ∃ G', LaneR w0 R a lv key vs (laneS lv key vs S L G') (laneM lv key vs S.ce L S.f).1 (laneM lv key vs S.ce L S.f).2.1 w' := by
  obtain ⟨nx, wd, B1, B2, hn, hE⟩ := h
  obtain ⟨⟨hnx, -⟩, -, -⟩ := hn rfl
  have hnx := hnx (by rw [hpc]; rfl)
  rw [hpc] at hnx
  have hV : L.V = 0 := hL.v (by omega)
  have hfd : L.fd = false := hL.fd (by omega)
  have hn4 : w.cell? ⟨a, 4, none⟩ = some (mvL (fnL 5) a) := by rw [hE.rule 0 rfl 4, ← hnx]; rfl
  have hs5 : w.cell? ⟨a, 5, none⟩ = some (.int .i64 0) := hE.rule 0 rfl 5
  have hE0 : Env w0 (boxI a (laneC S.c lv key vs nx 0 L.p.1 L.p.2.1 L.p.2.2 L.W L.C L.X wd false 0) :: LT S R) w := (hE.sub (.cons_cons _ (.cons _ (.cons _ (List.Sublist.refl _)))))
  by_cases heq : S.f L.p = L.W
  · have hM : laneM lv key vs S.ce L S.f = (cS (wordI false (slotI L.X) S.ce), { L with W := wordI false (slotI L.X) S.ce, X := 0, C := slotI (wordI false (slotI L.X) S.ce), pc := 3 }, swf S.f L.p L.W (wordI false (slotI L.X) S.ce)) := by simp [laneM, hpc, heq, comeM_cS]
    have hS : ∀ G, laneS lv key vs S L G = { S with G := G, f := swf S.f L.p L.W (wordI false (slotI L.X) S.ce), qc := swq S.qc true, m := S.m + 1 } := fun G => by simp [laneS, laneQ, rollM, hM, hpc, isVal, heq]
    rw [hM]
    refine stepMv_l (fnL 5) (enters_fnL 5) _ _ hn4 hs5 ?_
    refine (cutYes_l heq hwf hL.X hg hm hE0).mono ?_
    rintro o w1 ⟨rfl, nx, G', hnx, hE1⟩
    refine ⟨_, rfl, rfl, G', ?_⟩
    rw [hS]
    exact LaneR.came rfl hfd hV hnx hE1.none2
  · have hM : laneM lv key vs S.ce L S.f = (2, L, swf S.f L.p L.W (wordI false (slotI L.X) S.ce)) := by simp [laneM, hpc, heq]
    have hS : ∀ G, laneS lv key vs S L G = { S with G := G, f := swf S.f L.p L.W (wordI false (slotI L.X) S.ce), qc := swq S.qc false, m := S.m + 1 } := fun G => by simp [laneS, laneQ, rollM, hM, hpc, isVal, heq]
    rw [hM]
    refine stepMv_l (fnL 5) (enters_fnL 5) _ _ hn4 hs5 ?_
    refine (cutNo_l heq hwf hL.X hg hm hE0).mono ?_
    rintro o w1 ⟨rfl, nx, G', hE1⟩
    refine ⟨_, rfl, rfl, G', ?_⟩
    rw [hS]
    exact ⟨nx, wd, noI, noI, fun h => absurd h (by simp), hE1.none2⟩

set_option maxHeartbeats 1600000 in
theorem lane_2 (hpc : L.pc = 2) (hL : LmOk L) (hlv : 0 ≤ lv ∧ lv ≤ 1000000) (hwf : Wf L.p) (hg : Glo w0) (hm : S.m < maxLen) (h : LaneR w0 R a lv key vs S 0 L w) :
    Calls Tryz.prog 181 #[.pointer (some ⟨a, 0, none⟩), .iface 26 (.pointer (some ⟨S.p, 0, none⟩))] w fun o w' => o = .returned (.int .i64 (laneM lv key vs S.ce L S.f).1) ∧ ∃ G', LaneR w0 R a lv key vs (laneS lv key vs S L G') (laneM lv key vs S.ce L S.f).1 (laneM lv key vs S.ce L S.f).2.1 w' := by
  obtain ⟨nx, wd, B1, B2, hn, hE⟩ := h
  obtain ⟨⟨-, hnx⟩, hw7, hw9⟩ := hn rfl
  obtain ⟨b1, b2, rfl, rfl, rfl⟩ := hnx (by rw [hpc]; rfl)
  rw [hpc] at hE hw7 hw9
  have hn4 : w.cell? ⟨a, 4, none⟩ = some (cvL b1 b2) := by rw [hE.rule 0 rfl 4]; rfl
  have hs5 : w.cell? ⟨a, 5, none⟩ = some (.int .i64 0) := hE.rule 0 rfl 5
  have hE0 : Env w0 (boxI a (laneC S.c lv key vs (cvL b1 b2) 0 L.p.1 L.p.2.1 L.p.2.2 L.W L.C L.X wd false 0) :: boxI b1 [.pointer (some ⟨a, 0, none⟩)] :: boxI b2 [mvL (bhL 2) a] :: LT S R) w := hE
  by_cases hok : okB (S.f (1, 0, 0)) S.ce = true
  · have hS : ∀ G, laneS lv key vs S L G = { S with G := G, qc := { S.qc with l := wrap64 (S.qc.l + 1) } } := fun G => by simp [laneS, laneQ, rollM, laneM, hpc, isVal, hok]
    refine stepCv_l b1 b2 _ _ hn4 hs5 ?_
    have hgo : ∀ (s : Int) (L' : Lm), laneM lv key vs S.ce L S.f = (s, L', S.f) → (∀ v, Env w0 (boxI a (laneC S.c lv key vs (cvL b1 b2) 0 L.p.1 L.p.2.1 L.p.2.2 L.W L.C L.X wd false 0) :: boxI b1 [.pointer (some ⟨a, 0, none⟩)] :: boxI b2 [mvL (bhL 2) a] :: LT { S with qc := { S.qc with l := wrap64 (S.qc.l + 1) } } R) v → Calls Tryz.prog (bhL 2) #[.pointer (some ⟨a, 0, none⟩)] v fun o w' => o = .returned (.int .i64 s) ∧ LaneR w0 R a lv key vs { S with qc := { S.qc with l := wrap64 (S.qc.l + 1) } } s L' w') →
        Calls Tryz.prog 261 #[.iface 26 (.pointer (some ⟨S.p, 0, none⟩)), .pointer (some ⟨b1, 0, none⟩), .pointer (some ⟨b2, 0, none⟩)] w fun e w' => ∃ s, e = .returned (.int .i64 s) ∧ ((.returned (.int .i64 s) : Ending) = .returned (.int .i64 (laneM lv key vs S.ce L S.f).1) ∧ ∃ G', LaneR w0 R a lv key vs (laneS lv key vs S L G') (laneM lv key vs S.ce L S.f).1 (laneM lv key vs S.ce L S.f).2.1 w') := fun s L' hM hc => by
      refine (val1Yes_l (bhL 2) (enters_bhL 2) hok hE0 s _ hc).mono ?_
      rintro o w1 ⟨rfl, hR⟩
      refine ⟨s, rfl, ?_, S.G, ?_⟩
      · rw [hM]
      · rw [hM, hS]
        exact hR
    clear hE hn
    have hV : L.V = 0 := hL.v (by omega)
    have hfd : L.fd = false := hL.fd (by omega)
    by_cases hmk : markB L.W = true
    · refine hgo 2 L (by simp [laneM, holdsM, hpc, hok, hmk]) fun v hv => ?_
      refine (intoMark_l hmk hL.W hg hv).mono ?_
      rintro o w1 ⟨rfl, nx, hE1⟩
      exact ⟨rfl, nx, wd, _, _, fun h => absurd h (by simp), hE1⟩
    · have hmk : markB L.W = false := by simpa using hmk
      refine hgo (cS L.W) { L with W := L.W, X := 0, C := slotI L.W, pc := 3 } (by simp [laneM, holdsM, hpc, hok, hmk, comeM_cS]) fun v hv => ?_
      refine (intoCome_l hmk hL.W hg hv).mono ?_
      rintro o w1 ⟨rfl, nx, hnx, hE1⟩
      exact ⟨rfl, LaneR.came rfl hfd hV hnx hE1⟩
  · have hok : okB (S.f (1, 0, 0)) S.ce = false := by simpa using hok
    have hM : laneM lv key vs S.ce L S.f = (2, L, S.f) := by simp [laneM, hpc, hok]
    have hS : ∀ G, laneS lv key vs S L G = { S with G := G, qc := { S.qc with l := wrap64 (S.qc.l + 1) }, cr := wrap64 (S.cr + 1) } := fun G => by simp [laneS, laneQ, rollM, hM, hpc, isVal, hok]
    rw [hM]
    refine stepCv_l b1 b2 _ _ hn4 hs5 ?_
    refine (val1No_l _ hok hE0).mono ?_
    rintro o w1 ⟨rfl, nx, hE1⟩
    refine ⟨2, rfl, rfl, S.G, ?_⟩
    rw [hS]
    exact ⟨nx, wd, _, _, fun h => absurd h (by simp), hE1⟩

set_option maxHeartbeats 1600000 in
theorem lane_4 (hpc : L.pc = 4) (hL : LmOk L) (hlv : 0 ≤ lv ∧ lv ≤ 1000000) (hwf : Wf L.p) (hg : Glo w0) (hm : S.m < maxLen) (h : LaneR w0 R a lv key vs S 0 L w) :
    Calls Tryz.prog 181 #[.pointer (some ⟨a, 0, none⟩), .iface 26 (.pointer (some ⟨S.p, 0, none⟩))] w fun o w' => o = .returned (.int .i64 (laneM lv key vs S.ce L S.f).1) ∧ ∃ G', LaneR w0 R a lv key vs (laneS lv key vs S L G') (laneM lv key vs S.ce L S.f).1 (laneM lv key vs S.ce L S.f).2.1 w' := by
  obtain ⟨nx, wd, B1, B2, hn, hE⟩ := h
  obtain ⟨⟨-, hnx⟩, hw7, hw9⟩ := hn rfl
  obtain ⟨b1, b2, rfl, rfl, rfl⟩ := hnx (by rw [hpc]; rfl)
  rw [hpc] at hE hw7 hw9
  have hn4 : w.cell? ⟨a, 4, none⟩ = some (cvL b1 b2) := by rw [hE.rule 0 rfl 4]; rfl
  have hs5 : w.cell? ⟨a, 5, none⟩ = some (.int .i64 0) := hE.rule 0 rfl 5
  have hE0 : Env w0 (boxI a (laneC S.c lv key vs (cvL b1 b2) 0 L.p.1 L.p.2.1 L.p.2.2 L.W L.C L.X wd false 0) :: boxI b1 [.pointer (some ⟨a, 0, none⟩)] :: boxI b2 [mvL (bhL 4) a] :: LT S R) w := hE
  by_cases hok : okB (S.f (1, 0, 0)) S.ce = true
  · have hS : ∀ G, laneS lv key vs S L G = { S with G := G, qc := { S.qc with l := wrap64 (S.qc.l + 1) } } := fun G => by simp [laneS, laneQ, rollM, laneM, hpc, isVal, hok]
    refine stepCv_l b1 b2 _ _ hn4 hs5 ?_
    have hgo : ∀ (s : Int) (L' : Lm), laneM lv key vs S.ce L S.f = (s, L', S.f) → (∀ v, Env w0 (boxI a (laneC S.c lv key vs (cvL b1 b2) 0 L.p.1 L.p.2.1 L.p.2.2 L.W L.C L.X wd false 0) :: boxI b1 [.pointer (some ⟨a, 0, none⟩)] :: boxI b2 [mvL (bhL 4) a] :: LT { S with qc := { S.qc with l := wrap64 (S.qc.l + 1) } } R) v → Calls Tryz.prog (bhL 4) #[.pointer (some ⟨a, 0, none⟩)] v fun o w' => o = .returned (.int .i64 s) ∧ LaneR w0 R a lv key vs { S with qc := { S.qc with l := wrap64 (S.qc.l + 1) } } s L' w') →
        Calls Tryz.prog 261 #[.iface 26 (.pointer (some ⟨S.p, 0, none⟩)), .pointer (some ⟨b1, 0, none⟩), .pointer (some ⟨b2, 0, none⟩)] w fun e w' => ∃ s, e = .returned (.int .i64 s) ∧ ((.returned (.int .i64 s) : Ending) = .returned (.int .i64 (laneM lv key vs S.ce L S.f).1) ∧ ∃ G', LaneR w0 R a lv key vs (laneS lv key vs S L G') (laneM lv key vs S.ce L S.f).1 (laneM lv key vs S.ce L S.f).2.1 w') := fun s L' hM hc => by
      refine (val1Yes_l (bhL 4) (enters_bhL 4) hok hE0 s _ hc).mono ?_
      rintro o w1 ⟨rfl, hR⟩
      refine ⟨s, rfl, ?_, S.G, ?_⟩
      · rw [hM]
      · rw [hM, hS]
        exact hR
    clear hE hn
    refine hgo 0 { L with pc := if markB L.X then 5 else 6 } (by simp [laneM, holdsM, hpc, hok]) fun v hv => ?_
    refine (out_l hL.X hg hv).mono ?_
    rintro o w1 ⟨rfl, hE1⟩
    cases hmk : markB L.X
    · rw [hmk] at hE1
      exact ⟨rfl, _, wd, _, _, fun _ => ⟨⟨fun _ => rfl, fun h => absurd h (by simp [isVal])⟩, fun h => absurd h (by simp), fun h => absurd h (by simp)⟩, hE1⟩
    · rw [hmk] at hE1
      exact ⟨rfl, _, wd, _, _, fun _ => ⟨⟨fun _ => rfl, fun h => absurd h (by simp [isVal])⟩, fun h => absurd h (by simp), fun h => absurd h (by simp)⟩, hE1⟩
  · have hok : okB (S.f (1, 0, 0)) S.ce = false := by simpa using hok
    have hM : laneM lv key vs S.ce L S.f = (2, L, S.f) := by simp [laneM, hpc, hok]
    have hS : ∀ G, laneS lv key vs S L G = { S with G := G, qc := { S.qc with l := wrap64 (S.qc.l + 1) }, cr := wrap64 (S.cr + 1) } := fun G => by simp [laneS, laneQ, rollM, hM, hpc, isVal, hok]
    rw [hM]
    refine stepCv_l b1 b2 _ _ hn4 hs5 ?_
    refine (val1No_l _ hok hE0).mono ?_
    rintro o w1 ⟨rfl, nx, hE1⟩
    refine ⟨2, rfl, rfl, S.G, ?_⟩
    rw [hS]
    exact ⟨nx, wd, _, _, fun h => absurd h (by simp), hE1⟩

set_option maxHeartbeats 1600000 in
theorem lane_7 (hpc : L.pc = 7) (hL : LmOk L) (hlv : 0 ≤ lv ∧ lv ≤ 1000000) (hwf : Wf L.p) (hg : Glo w0) (hm : S.m < maxLen) (h : LaneR w0 R a lv key vs S 0 L w) :
    Calls Tryz.prog 181 #[.pointer (some ⟨a, 0, none⟩), .iface 26 (.pointer (some ⟨S.p, 0, none⟩))] w fun o w' => o = .returned (.int .i64 (laneM lv key vs S.ce L S.f).1) ∧ ∃ G', LaneR w0 R a lv key vs (laneS lv key vs S L G') (laneM lv key vs S.ce L S.f).1 (laneM lv key vs S.ce L S.f).2.1 w' := by
  obtain ⟨nx, wd, B1, B2, hn, hE⟩ := h
  obtain ⟨⟨-, hnx⟩, hw7, hw9⟩ := hn rfl
  obtain ⟨b1, b2, rfl, rfl, rfl⟩ := hnx (by rw [hpc]; rfl)
  rw [hpc] at hE hw7 hw9
  have hn4 : w.cell? ⟨a, 4, none⟩ = some (cvL b1 b2) := by rw [hE.rule 0 rfl 4]; rfl
  have hs5 : w.cell? ⟨a, 5, none⟩ = some (.int .i64 0) := hE.rule 0 rfl 5
  have hE0 : Env w0 (boxI a (laneC S.c lv key vs (cvL b1 b2) 0 L.p.1 L.p.2.1 L.p.2.2 L.W L.C L.X wd false 0) :: boxI b1 [.pointer (some ⟨a, 0, none⟩)] :: boxI b2 [mvL (bhL 7) a] :: LT S R) w := hE
  by_cases hok : okB (S.f (1, 0, 0)) S.ce = true
  · have hS : ∀ G, laneS lv key vs S L G = { S with G := G, qc := { S.qc with l := wrap64 (S.qc.l + 1) } } := fun G => by simp [laneS, laneQ, rollM, laneM, hpc, isVal, hok]
    refine stepCv_l b1 b2 _ _ hn4 hs5 ?_
    have hgo : ∀ (s : Int) (L' : Lm), laneM lv key vs S.ce L S.f = (s, L', S.f) → (∀ v, Env w0 (boxI a (laneC S.c lv key vs (cvL b1 b2) 0 L.p.1 L.p.2.1 L.p.2.2 L.W L.C L.X wd false 0) :: boxI b1 [.pointer (some ⟨a, 0, none⟩)] :: boxI b2 [mvL (bhL 7) a] :: LT { S with qc := { S.qc with l := wrap64 (S.qc.l + 1) } } R) v → Calls Tryz.prog (bhL 7) #[.pointer (some ⟨a, 0, none⟩)] v fun o w' => o = .returned (.int .i64 s) ∧ LaneR w0 R a lv key vs { S with qc := { S.qc with l := wrap64 (S.qc.l + 1) } } s L' w') →
        Calls Tryz.prog 261 #[.iface 26 (.pointer (some ⟨S.p, 0, none⟩)), .pointer (some ⟨b1, 0, none⟩), .pointer (some ⟨b2, 0, none⟩)] w fun e w' => ∃ s, e = .returned (.int .i64 s) ∧ ((.returned (.int .i64 s) : Ending) = .returned (.int .i64 (laneM lv key vs S.ce L S.f).1) ∧ ∃ G', LaneR w0 R a lv key vs (laneS lv key vs S L G') (laneM lv key vs S.ce L S.f).1 (laneM lv key vs S.ce L S.f).2.1 w') := fun s L' hM hc => by
      refine (val1Yes_l (bhL 7) (enters_bhL 7) hok hE0 s _ hc).mono ?_
      rintro o w1 ⟨rfl, hR⟩
      refine ⟨s, rfl, ?_, S.G, ?_⟩
      · rw [hM]
      · rw [hM, hS]
        exact hR
    clear hE hn
    have hV : L.V = 0 := hL.v (by omega)
    have hfd : L.fd = false := hL.fd (by omega)
    have hwd : wd = L.K := hw7 rfl
    subst hwd
    by_cases hlt : L.K < key
    · refine hgo (cS L.X) { L with p := (5, L.C, 7 + lv), W := L.X, X := 0, C := slotI L.X, pc := 3 } (by simp [laneM, holdsM, hpc, hok, hlt, comeM_cS]) fun v hv => ?_
      refine (keyLess_l hlt hlv hL.X hg hv).mono ?_
      rintro o w1 ⟨rfl, nx, hnx, hE1⟩
      exact ⟨rfl, LaneR.came (L := { L with p := (5, L.C, 7 + lv) }) rfl hfd hV hnx hE1⟩
    · by_cases heq : L.K = key
      · cases vs
        · refine hgo 1 { L with fd := true } (by simp [laneM, holdsM, hpc, hok, heq]) fun v hv => ?_
          refine (keyFound_l heq hv).mono ?_
          rintro o w1 ⟨rfl, nx, hE1⟩
          have h2 : pvS 1 { L with fd := true } = 0 := hV
          refine ⟨rfl, nx, L.K, boxI b1 [.pointer (some ⟨a, 0, none⟩)], boxI b2 [mvL (bhL 7) a], fun h => absurd h (by simp), ?_⟩
          rw [h2]
          exact hE1
        · refine hgo 0 { L with fd := true, pc := 8 } (by simp [laneM, holdsM, hpc, hok, heq]) fun v hv => ?_
          refine (keyVal_l heq hv).mono ?_
          rintro o w1 ⟨rfl, hE1⟩
          exact ⟨rfl, _, L.K, _, _, fun _ => ⟨⟨fun _ => rfl, fun h => absurd h (by simp [isVal])⟩, fun h => absurd h (by simp), fun h => absurd h (by simp)⟩, hE1⟩
      · refine hgo 1 L (by simp [laneM, holdsM, hpc, hok, hlt, heq]) fun v hv => ?_
        refine (keyMore_l (by omega) hv).mono ?_
        rintro o w1 ⟨rfl, nx, hE1⟩
        have h1 : pfS 1 L = false := hfd
        have h2 : pvS 1 L = 0 := hV
        refine ⟨rfl, nx, L.K, boxI b1 [.pointer (some ⟨a, 0, none⟩)], boxI b2 [mvL (bhL 7) a], fun h => absurd h (by simp), ?_⟩
        rw [h1, h2]
        exact hE1
  · have hok : okB (S.f (1, 0, 0)) S.ce = false := by simpa using hok
    have hM : laneM lv key vs S.ce L S.f = (2, L, S.f) := by simp [laneM, hpc, hok]
    have hS : ∀ G, laneS lv key vs S L G = { S with G := G, qc := { S.qc with l := wrap64 (S.qc.l + 1) }, cr := wrap64 (S.cr + 1) } := fun G => by simp [laneS, laneQ, rollM, hM, hpc, isVal, hok]
    rw [hM]
    refine stepCv_l b1 b2 _ _ hn4 hs5 ?_
    refine (val1No_l _ hok hE0).mono ?_
    rintro o w1 ⟨rfl, nx, hE1⟩
    refine ⟨2, rfl, rfl, S.G, ?_⟩
    rw [hS]
    exact ⟨nx, wd, _, _, fun h => absurd h (by simp), hE1⟩

set_option maxHeartbeats 1600000 in
theorem lane_9 (hpc : L.pc = 9) (hL : LmOk L) (hlv : 0 ≤ lv ∧ lv ≤ 1000000) (hwf : Wf L.p) (hg : Glo w0) (hm : S.m < maxLen) (h : LaneR w0 R a lv key vs S 0 L w) :
    Calls Tryz.prog 181 #[.pointer (some ⟨a, 0, none⟩), .iface 26 (.pointer (some ⟨S.p, 0, none⟩))] w fun o w' => o = .returned (.int .i64 (laneM lv key vs S.ce L S.f).1) ∧ ∃ G', LaneR w0 R a lv key vs (laneS lv key vs S L G') (laneM lv key vs S.ce L S.f).1 (laneM lv key vs S.ce L S.f).2.1 w' := by
  obtain ⟨nx, wd, B1, B2, hn, hE⟩ := h
  obtain ⟨⟨-, hnx⟩, hw7, hw9⟩ := hn rfl
  obtain ⟨b1, b2, rfl, rfl, rfl⟩ := hnx (by rw [hpc]; rfl)
  rw [hpc] at hE hw7 hw9
  have hn4 : w.cell? ⟨a, 4, none⟩ = some (cvL b1 b2) := by rw [hE.rule 0 rfl 4]; rfl
  have hs5 : w.cell? ⟨a, 5, none⟩ = some (.int .i64 0) := hE.rule 0 rfl 5
  have hE0 : Env w0 (boxI a (laneC S.c lv key vs (cvL b1 b2) 0 L.p.1 L.p.2.1 L.p.2.2 L.W L.C L.X wd false 0) :: boxI b1 [.pointer (some ⟨a, 0, none⟩)] :: boxI b2 [mvL (bhL 9) a] :: LT S R) w := hE
  by_cases hok : okB (S.f (1, 0, 0)) S.ce = true
  · have hS : ∀ G, laneS lv key vs S L G = { S with G := G, qc := { S.qc with l := wrap64 (S.qc.l + 1) } } := fun G => by simp [laneS, laneQ, rollM, laneM, hpc, isVal, hok]
    refine stepCv_l b1 b2 _ _ hn4 hs5 ?_
    have hgo : ∀ (s : Int) (L' : Lm), laneM lv key vs S.ce L S.f = (s, L', S.f) → (∀ v, Env w0 (boxI a (laneC S.c lv key vs (cvL b1 b2) 0 L.p.1 L.p.2.1 L.p.2.2 L.W L.C L.X wd false 0) :: boxI b1 [.pointer (some ⟨a, 0, none⟩)] :: boxI b2 [mvL (bhL 9) a] :: LT { S with qc := { S.qc with l := wrap64 (S.qc.l + 1) } } R) v → Calls Tryz.prog (bhL 9) #[.pointer (some ⟨a, 0, none⟩)] v fun o w' => o = .returned (.int .i64 s) ∧ LaneR w0 R a lv key vs { S with qc := { S.qc with l := wrap64 (S.qc.l + 1) } } s L' w') →
        Calls Tryz.prog 261 #[.iface 26 (.pointer (some ⟨S.p, 0, none⟩)), .pointer (some ⟨b1, 0, none⟩), .pointer (some ⟨b2, 0, none⟩)] w fun e w' => ∃ s, e = .returned (.int .i64 s) ∧ ((.returned (.int .i64 s) : Ending) = .returned (.int .i64 (laneM lv key vs S.ce L S.f).1) ∧ ∃ G', LaneR w0 R a lv key vs (laneS lv key vs S L G') (laneM lv key vs S.ce L S.f).1 (laneM lv key vs S.ce L S.f).2.1 w') := fun s L' hM hc => by
      refine (val1Yes_l (bhL 9) (enters_bhL 9) hok hE0 s _ hc).mono ?_
      rintro o w1 ⟨rfl, hR⟩
      refine ⟨s, rfl, ?_, S.G, ?_⟩
      · rw [hM]
      · rw [hM, hS]
        exact hR
    clear hE hn
    have hft : L.fd = true := hL.ft (by omega)
    have hwd : wd = L.V := hw9 rfl
    subst hwd
    refine hgo 1 L (by simp [laneM, holdsM, hpc, hok]) fun v hv => ?_
    refine (val_l hv).mono ?_
    rintro o w1 ⟨rfl, nx, hE1⟩
    have h1 : pfS 1 L = true := hft
    refine ⟨rfl, nx, L.V, boxI b1 [.pointer (some ⟨a, 0, none⟩)], boxI b2 [mvL (bhL 9) a], fun h => absurd h (by simp), ?_⟩
    rw [h1]
    exact hE1
  · have hok : okB (S.f (1, 0, 0)) S.ce = false := by simpa using hok
    have hM : laneM lv key vs S.ce L S.f = (2, L, S.f) := by simp [laneM, hpc, hok]
    have hS : ∀ G, laneS lv key vs S L G = { S with G := G, qc := { S.qc with l := wrap64 (S.qc.l + 1) }, cr := wrap64 (S.cr + 1) } := fun G => by simp [laneS, laneQ, rollM, hM, hpc, isVal, hok]
    rw [hM]
    refine stepCv_l b1 b2 _ _ hn4 hs5 ?_
    refine (val1No_l _ hok hE0).mono ?_
    rintro o w1 ⟨rfl, nx, hE1⟩
    refine ⟨2, rfl, rfl, S.G, ?_⟩
    rw [hS]
    exact ⟨nx, wd, _, _, fun h => absurd h (by simp), hE1⟩

theorem lane_l (hL : LmOk L) (hlv : 0 ≤ lv ∧ lv ≤ 1000000) (hwf : Wf L.p) (hg : Glo w0) (hm : S.m < maxLen) (h : LaneR w0 R a lv key vs S 0 L w) :
    Calls Tryz.prog 181 #[.pointer (some ⟨a, 0, none⟩), .iface 26 (.pointer (some ⟨S.p, 0, none⟩))] w fun o w' => o = .returned (.int .i64 (laneM lv key vs S.ce L S.f).1) ∧ ∃ G', LaneR w0 R a lv key vs (laneS lv key vs S L G') (laneM lv key vs S.ce L S.f).1 (laneM lv key vs S.ce L S.f).2.1 w' := by
  rcases hL.pc with h0 | h0 | h0 | h0 | h0 | h0 | h0 | h0 | h0
  · exact lane_0 h0 hL hlv hwf hg hm h
  · exact lane_2 h0 hL hlv hwf hg hm h
  · exact lane_3 h0 hL hlv hwf hg hm h
  · exact lane_4 h0 hL hlv hwf hg hm h
  · exact lane_5 h0 hL hlv hwf hg hm h
  · exact lane_6 h0 hL hlv hwf hg hm h
  · exact lane_7 h0 hL hlv hwf hg hm h
  · exact lane_8 h0 hL hlv hwf hg hm h
  · exact lane_9 h0 hL hlv hwf hg hm h
end
end Go.Proofs.YtnnjanaclgjneaaGreatDoor

/- Lanes: what a lane keeps. -/
namespace Go.Proofs.YtnnjanaclgjneaaGreatDoor
open Go.RowKit Go.Maps
set_option maxRecDepth 100000

def St3 {α : Type} (q : Int × α) : Prop := q.1 = 0 ∨ q.1 = 1 ∨ q.1 = 2
theorem come_state (L : Lm) (v : Int) : St3 (comeM L v) := by
  unfold comeM
  by_cases h : slotI v = 0
  · simp [h, St3]
  · simp [h, St3]
theorem holds_state (lv key : Int) (vs : Bool) (L : Lm) : St3 (holdsM lv key vs L) := by
  unfold holdsM
  repeat' split
  all_goals first | exact come_state _ _ | simp [St3]
theorem lane_state (lv key : Int) (vs : Bool) (e : Int) (L : Lm) (f : Plc → Int) : (laneM lv key vs e L f).1 = 0 ∨ (laneM lv key vs e L f).1 = 1 ∨ (laneM lv key vs e L f).1 = 2 := by
  show St3 (laneM lv key vs e L f)
  unfold laneM
  repeat' split
  all_goals first | exact come_state L (wordI false (slotI L.X) e) | exact holds_state lv key vs L | simp [St3]
theorem cS_zero {v : Int} (h : cS v = 0) : slotI v ≠ 0 := fun h0 => by rw [cS, if_pos h0] at h; exact absurd h (by decide)
theorem LmOk.come {L : Lm} (hL : LmOk L) (h7 : L.pc ≤ 7) (v : Int) (hv : InU v) : LmOk { L with W := v, X := 0, C := slotI v, pc := 3 } :=
  ⟨by simp, fun _ => hL.v (by omega), fun _ => hL.fd h7, fun h => absurd h (by simp), fun _ => rfl, fun h => absurd h (by simp), hv, by simp [InU], slotI_in v⟩
/-- What a lane keeps, as long as it goes on. -/
theorem lane_ok {lv key : Int} {vs : Bool} {e : Int} {L : Lm} {f : Plc → Int} (hL : LmOk L) (hW : ∀ x, InU (f x)) (hp : Wf L.p) (hlv : 0 ≤ lv ∧ lv ≤ 1000000) (h0 : (laneM lv key vs e L f).1 = 0) : LmOk (laneM lv key vs e L f).2.1 ∧ Wf (laneM lv key vs e L f).2.1.p := by
  have hpc9 : L.pc ≤ 9 := by rcases hL.pc with h | h | h | h | h | h | h | h | h <;> omega
  rcases hL.pc with hpc | hpc | hpc | hpc | hpc | hpc | hpc | hpc | hpc
  · have hM : laneM lv key vs e L f = (0, { L with W := f L.p, pc := 2 }, f) := by simp [laneM, hpc]
    rw [hM]
    exact ⟨⟨by simp, fun _ => hL.v (by omega), fun _ => hL.fd (by omega), fun h => absurd h (by simp), fun _ => hL.x (by omega), fun _ => hL.c0 (by omega), hW _, hL.X, hL.C⟩, hp⟩
  · by_cases hok : okB (f (1, 0, 0)) e = true
    · by_cases hmk : markB L.W = true
      · have hM : laneM lv key vs e L f = (2, L, f) := by simp [laneM, holdsM, hpc, hok, hmk]
        rw [hM] at h0
        exact absurd h0 (by simp)
      · have hM : laneM lv key vs e L f = (cS L.W, { L with W := L.W, X := 0, C := slotI L.W, pc := 3 }, f) := by simp [laneM, holdsM, hpc, hok, hmk, comeM_cS]
        rw [hM]
        exact ⟨hL.come (by omega) _ hL.W, hp⟩
    · have hM : laneM lv key vs e L f = (2, L, f) := by simp [laneM, hpc, hok]
      rw [hM] at h0
      exact absurd h0 (by simp)
  · have hM : laneM lv key vs e L f = (0, { L with X := f (5, L.C, 7 + lv), pc := 4 }, f) := by simp [laneM, hpc]
    rw [hM]
    exact ⟨⟨by simp, fun _ => hL.v (by omega), fun _ => hL.fd (by omega), fun h => absurd h (by simp), fun h => absurd h (by simp), fun h => absurd h (by simp), hL.W, hW _, hL.C⟩, hp⟩
  · by_cases hok : okB (f (1, 0, 0)) e = true
    · have hM : laneM lv key vs e L f = (0, { L with pc := if markB L.X then 5 else 6 }, f) := by simp [laneM, holdsM, hpc, hok]
      rw [hM]
      cases markB L.X
      · exact ⟨⟨by simp, fun _ => hL.v (by omega), fun _ => hL.fd (by omega), fun h => absurd h (by simp), fun h => absurd h (by simp), fun h => absurd h (by simp), hL.W, hL.X, hL.C⟩, hp⟩
      · exact ⟨⟨by simp, fun _ => hL.v (by omega), fun _ => hL.fd (by omega), fun h => absurd h (by simp), fun h => absurd h (by simp), fun h => absurd h (by simp), hL.W, hL.X, hL.C⟩, hp⟩
    · have hM : laneM lv key vs e L f = (2, L, f) := by simp [laneM, hpc, hok]
      rw [hM] at h0
      exact absurd h0 (by simp)
  · by_cases heq : f L.p = L.W
    · have hM : laneM lv key vs e L f = (cS (wordI false (slotI L.X) e), { L with W := wordI false (slotI L.X) e, X := 0, C := slotI (wordI false (slotI L.X) e), pc := 3 }, swf f L.p L.W (wordI false (slotI L.X) e)) := by simp [laneM, hpc, heq, comeM_cS]
      rw [hM]
      exact ⟨hL.come (by omega) _ (wordI_in _ _ _), hp⟩
    · have hM : laneM lv key vs e L f = (2, L, swf f L.p L.W (wordI false (slotI L.X) e)) := by simp [laneM, hpc, heq]
      rw [hM] at h0
      exact absurd h0 (by simp)
  · have hM : laneM lv key vs e L f = (0, { L with K := f (5, L.C, 3), pc := 7 }, f) := by simp [laneM, hpc]
    rw [hM]
    exact ⟨⟨by simp, fun _ => hL.v (by omega), fun _ => hL.fd (by omega), fun h => absurd h (by simp), fun h => absurd h (by simp), fun h => absurd h (by simp), hL.W, hL.X, hL.C⟩, hp⟩
  · by_cases hok : okB (f (1, 0, 0)) e = true
    · by_cases hlt : L.K < key
      · have hM : laneM lv key vs e L f = (cS L.X, { L with p := (5, L.C, 7 + lv), W := L.X, X := 0, C := slotI L.X, pc := 3 }, f) := by simp [laneM, holdsM, hpc, hok, hlt, comeM_cS]
        rw [hM]
        have hLp : LmOk { L with p := (5, L.C, 7 + lv) } := ⟨hL.pc, hL.v, hL.fd, hL.ft, hL.x, hL.c0, hL.W, hL.X, hL.C⟩
        exact ⟨hLp.come (by show L.pc ≤ 7; omega) _ hL.X, wf_part hL.C (by omega)⟩
      · by_cases heq : L.K = key
        · cases vs
          · have hM : laneM lv key false e L f = (1, { L with fd := true }, f) := by simp [laneM, holdsM, hpc, hok, heq]
            rw [hM] at h0
            exact absurd h0 (by simp)
          · have hM : laneM lv key true e L f = (0, { L with fd := true, pc := 8 }, f) := by simp [laneM, holdsM, hpc, hok, heq]
            rw [hM]
            exact ⟨⟨by simp, fun _ => hL.v (by omega), fun h => absurd h (by simp), fun _ => rfl, fun h => absurd h (by simp), fun h => absurd h (by simp), hL.W, hL.X, hL.C⟩, hp⟩
        · have hM : laneM lv key vs e L f = (1, L, f) := by simp [laneM, holdsM, hpc, hok, hlt, heq]
          rw [hM] at h0
          exact absurd h0 (by simp)
    · have hM : laneM lv key vs e L f = (2, L, f) := by simp [laneM, hpc, hok]
      rw [hM] at h0
      exact absurd h0 (by simp)
  · have hM : laneM lv key vs e L f = (0, { L with V := f (5, L.C, 4), pc := 9 }, f) := by simp [laneM, hpc]
    rw [hM]
    exact ⟨⟨by simp, fun h => absurd h (by simp), fun h => absurd h (by simp), fun _ => hL.ft (by omega), fun h => absurd h (by simp), fun h => absurd h (by simp), hL.W, hL.X, hL.C⟩, hp⟩
  · by_cases hok : okB (f (1, 0, 0)) e = true
    · have hM : laneM lv key vs e L f = (1, L, f) := by simp [laneM, holdsM, hpc, hok]
      rw [hM] at h0
      exact absurd h0 (by simp)
    · have hM : laneM lv key vs e L f = (2, L, f) := by simp [laneM, hpc, hok]
      rw [hM] at h0
      exact absurd h0 (by simp)

end Go.Proofs.YtnnjanaclgjneaaGreatDoor

/- Finds: what they keep. -/
namespace Go.Proofs.YtnnjanaclgjneaaGreatDoor
open Go.RowKit Go.Maps
set_option maxRecDepth 100000

theorem down_ok {h : Nat} {key : Int} {F : Fm} {f : Plc → Int} (hh : 1 ≤ h) (hh2 : h ≤ 1000) (hF : FmOk h F) (hW : ∀ x, InU (f x)) (h0 : (downM h key F f).1 = 0) : FmOk h (downM h key F f).2.1 := by
  intro hon
  by_cases hn : F.on = true
  · obtain ⟨hlt, hL, hA⟩ := hF hn
    have hlv : (0 : Int) ≤ (F.lv : Int) ∧ (F.lv : Int) ≤ 1000000 := by omega
    have hok := lane_ok (key := key) (vs := false) (e := F.e) (f := f) hL hW (hA.wf (by omega)) hlv
    have hat : AtOk F.lv (laneM F.lv key false F.e (F.L F.lv) f).2.1.p := hA.lane hL.C
    unfold downM at h0 hon ⊢
    rw [if_pos hn] at h0 hon ⊢
    dsimp only at h0 hon ⊢
    rcases lane_state F.lv key false F.e (F.L F.lv) f with h1 | h1 | h1
    · rw [if_neg (by rw [h1]; decide), if_neg (by rw [h1]; simp)]
      refine ⟨hlt, ?_, ?_⟩
      · show LmOk (setN (α := Lm) _ _ _ F.lv)
        rw [setN_same]
        exact (hok h1).1
      · show AtOk _ (setN (α := Lm) _ _ _ F.lv).p
        rw [setN_same]
        exact hat
    · by_cases h2 : F.lv = 0
      · rw [if_pos ⟨h1, h2⟩] at h0
        exact absurd h0 (by decide)
      · rw [if_neg (by rw [h1]; decide), if_pos ⟨h1, h2⟩]
        have e1 : ((F.lv - 1 : Nat) : Int) = (F.lv : Int) - 1 := by omega
        refine ⟨?_, ?_, ?_⟩
        · show F.lv - 1 < h
          omega
        · show LmOk (setN (α := Lm) _ _ _ (F.lv - 1))
          rw [setN_same]
          exact LmOk.start _
        · show AtOk _ (setN (α := Lm) _ _ _ (F.lv - 1)).p
          rw [setN_same]
          show AtOk ((F.lv - 1 : Nat) : Int) (belowP _)
          rw [e1]
          exact hat.below
    · rw [if_pos h1] at hon
      exact absurd hon (by simp)
  · unfold downM
    rw [if_neg hn]
    refine ⟨?_, ?_, ?_⟩
    · show h - 1 < h
      omega
    · show LmOk (setN (α := Lm) _ _ _ (h - 1))
      rw [setN_same]
      exact LmOk.start _
    · show AtOk _ (setN (α := Lm) _ _ _ (h - 1)).p
      rw [setN_same]
      exact .inl rfl
theorem down_state (h : Nat) (key : Int) (F : Fm) (f : Plc → Int) : (downM h key F f).1 = 0 ∨ (downM h key F f).1 = 1 := by
  unfold downM
  repeat' split
  all_goals simp
end Go.Proofs.YtnnjanaclgjneaaGreatDoor

/- Machines' rows: how they ended. -/
namespace Go.Proofs.YtnnjanaclgjneaaGreatDoor
open Go.RowKit Go.Maps
set_option maxRecDepth 100000

section
variable {w : World} {a o : Nat}
theorem state_r {s : Int} (hs : w.cell? ⟨a, o + 1, none⟩ = some (.int .i64 s)) :
    Calls Tryz.prog 179 #[.pointer (some ⟨a, o, none⟩)] w fun r w' => r = .returned (.int .i64 s) ∧ w' = w := by
  go_enter Tryz.func179, Tryz.ntmps179
  go_wp2
  go_ret
  exact ⟨rfl, rfl⟩
end
end Go.Proofs.YtnnjanaclgjneaaGreatDoor

/- Drawn regions with a chain whose values hang on the world (Ord3): calls beside the chain that leave all as it is. -/
namespace Go.Proofs.YtnnjanaclgjneaaGreatDoor.Ord3
open Go Go.Proofs.YtnnjanaclgjneaaGreatDoor.Ord
set_option maxRecDepth 100000
variable {P : Program} {md : Region.Mode} {ops : Array Oper} {Q : Exit → Act → World → Prop} {vs : List (Value → Prop)} {ps : List Nat} {C : World → Prop} {A : List Value → World → Prop}
theorem in_call {k : Nat} {o : Oper} {rest : List Oper} {a : Act} {v : Value} {f : FuncId} {args : Array Value} {κs : List Value} (hf : textFits md ops = true) (hk : k ∉ ps) (hvs : vs[k]? = some fun u => u = v) (hw : Region.wanted o (yielded ops a.tmps) = true)
    (hr : ∀ w, C w → (execOp a.eval o).run P w = .ok (.enter f args) w) (hc : ∀ w, C w → Calls P f args w fun e w' => e = .returned v ∧ C w' ∧ ∀ us, A us w → A us w')
    (h : In P md ops Q vs ps C A (k + 1) rest κs (a.put o.dst v)) : In P md ops Q vs ps C A k (o :: rest) κs a := fun κ hκ =>
  InText.cons hf v ⟨_, hvs, rfl⟩ (Or.inl ⟨hw, fun l ρ w hr' _ _ hS => by
    rw [hr w hS.2.2.1]
    refine (hc w hS.2.2.1).mono fun e w' he => ?_
    exact ⟨_, he.1, ⟨_, hvs, rfl⟩, chain_set hk hr' hS he.2.1 he.2.2⟩⟩)
    fun u ⟨p, hp, hu⟩ => by
      rw [hvs] at hp
      cases hp
      rw [hu]
      exact h _ (by rw [map_up (fun e => hk (List.mem_of_mem_take e))]; exact hκ)
theorem Stage.three {A1 A2 A3 : List Value → World → Prop} {κs : List Value} {w w' : World} (h : Stage (fun κs => [A1 κs, A2 κs, A3 κs]) κs w) (h1 : A1 κs w → A1 κs w') (h2 : A2 κs w → A2 κs w') (h3 : A3 κs w → A3 κs w') : Stage (fun κs => [A1 κs, A2 κs, A3 κs]) κs w' := by
  obtain ⟨T, hT, hw⟩ := h
  refine ⟨T, hT, ?_⟩
  have hm := List.mem_of_getElem? hT
  simp only [List.mem_cons, List.not_mem_nil, or_false] at hm
  rcases hm with rfl | rfl | rfl
  · exact h1 hw
  · exact h2 hw
  · exact h3 hw
end Go.Proofs.YtnnjanaclgjneaaGreatDoor.Ord3

/- Lanes and searches: New, NewSearch, what they tell; the checkpoint; Step of a search over the model. -/
namespace Go.Proofs.YtnnjanaclgjneaaGreatDoor
open Go.RowKit Go.Maps
set_option maxRecDepth 100000

section
variable {w0 w : World} {L : List Item}
set_option maxHeartbeats 1600000 in
theorem new_l (c : Nat) (x y z lv key : Int) (vs : Bool) (hE : Env w0 L w) :
    Calls Tryz.prog 188 #[.pointer (some ⟨c, 0, none⟩), .agg #[.int .i64 x, .int .i64 y, .int .i64 z, .int .i64 0], .int .i64 lv, .int .u64 key, .bool vs] w fun o w' => ∃ a, o = .returned (.pointer (some ⟨a, 0, none⟩)) ∧ Env w0 (boxI a (laneC c lv key vs (mvL 216 a) 0 x y z 0 0 0 0 false 0) :: L) w' := by
  have hmf := makeF
  have hE1 := hE.box w.heap.size rfl [.int .i64 x, .int .i64 y, .int .i64 z, .int .i64 0] 122
  have r0 := hE1.rule 0 rfl
  have hE2 := hE1.box (w.heap.size + 1) (by simp) (laneC c lv key vs .nilFunc 0 x y z 0 0 0 0 false 0) 258
  have HGO := Lib.hid (goOn_l 0 (.func 216) #[.pointer (some ⟨w.heap.size + 1, 0, none⟩)] #[] (by simp [laneC]) hE2 rfl)
  clear hE hE1 hE2
  go_enter Tryz.func188, Tryz.ntmps188
  go_wp2_with fail
  refine HGO.out.mono ?_
  rintro o w1 ⟨rfl, hE3⟩
  go_wp2_with fail
  go_ret
  exact ⟨_, rfl, hE3.sub (.cons_cons _ (.cons _ (List.Sublist.refl _)))⟩
theorem newNil_l (x y z d lv key : Int) (vs : Bool) (w : World) :
    Calls Tryz.prog 188 #[.pointer none, .agg #[.int .i64 x, .int .i64 y, .int .i64 z, .int .i64 d], .int .i64 lv, .int .u64 key, .bool vs] w fun o w' => o = .returned (.pointer none) ∧ Below w.heap.size w w' := by
  go_enter Tryz.func188, Tryz.ntmps188
  go_wp2
  go_ret
  exact ⟨rfl, (Below.refl _ _).alloc (Nat.le_refl _) _⟩
end

section
variable {w : World} {a c : Nat} {lv key : Int} {vs : Bool} {nx : Value} {st x y z W C X wd : Int} {pf : Bool} {pv : Int}
theorem found_g (hb : Blk 0 w a (laneC c lv key vs nx st x y z W C X wd pf pv)) : Calls Tryz.prog 105 #[.pointer (some ⟨a, 0, none⟩)] w fun o w' => o = .returned (.bool pf) ∧ w' = w := by
  have r1 := hb.rule
  unfold laneC at r1
  go_enter Tryz.func105, Tryz.ntmps105
  go_wp2
  go_ret
  exact ⟨rfl, rfl⟩
set_option maxHeartbeats 800000 in
theorem who_g (hb : Blk 0 w a (laneC c lv key vs nx st x y z W C X wd pf pv)) : Calls Tryz.prog 101 #[.pointer (some ⟨a, 0, none⟩)] w fun o w' => o = .returned (.agg #[.int .i64 C, .int .i64 0]) ∧ Below w.heap.size w w' := by
  have r1 := cell_more hb.1 hb.rule
  unfold laneC at r1
  go_enter Tryz.func101, Tryz.ntmps101
  go_wp2
  exact bodyPost_ret (v := .agg #[.int .i64 C, .int .i64 0]) (by simp [results, Tryz.results101, go_sem]) rfl ⟨rfl, (Below.refl _ _).alloc (Nat.le_refl _) _⟩
set_option maxHeartbeats 800000 in
theorem at_g (hb : Blk 0 w a (laneC c lv key vs nx st x y z W C X wd pf pv)) : Calls Tryz.prog 103 #[.pointer (some ⟨a, 0, none⟩)] w fun o w' => o = .returned (.agg #[.int .i64 x, .int .i64 y, .int .i64 z, .int .i64 0]) ∧ Below w.heap.size w w' := by
  have r1 := cell_more hb.1 hb.rule
  unfold laneC at r1
  go_enter Tryz.func103, Tryz.ntmps103
  go_wp2
  exact bodyPost_ret (v := .agg #[.int .i64 x, .int .i64 y, .int .i64 z, .int .i64 0]) (by simp [results, Tryz.results103, go_sem]) rfl ⟨rfl, (Below.refl _ _).alloc (Nat.le_refl _) _⟩
set_option maxHeartbeats 800000 in
theorem into_g (hb : Blk 0 w a (laneC c lv key vs nx st x y z W C X wd pf pv)) : Calls Tryz.prog 104 #[.pointer (some ⟨a, 0, none⟩)] w fun o w' => o = .returned (.agg #[.int .u64 W, .int .i64 0, .bool false]) ∧ Below w.heap.size w w' := by
  have r1 := cell_more hb.1 hb.rule
  unfold laneC at r1
  go_enter Tryz.func104, Tryz.ntmps104
  go_wp2
  exact bodyPost_ret (v := .agg #[.int .u64 W, .int .i64 0, .bool false]) (by simp [results, Tryz.results104, go_sem]) rfl ⟨rfl, (Below.refl _ _).alloc (Nat.le_refl _) _⟩
set_option maxHeartbeats 800000 in
theorem out_g (hb : Blk 0 w a (laneC c lv key vs nx st x y z W C X wd pf pv)) : Calls Tryz.prog 102 #[.pointer (some ⟨a, 0, none⟩)] w fun o w' => o = .returned (.agg #[.int .u64 X, .int .i64 0, .bool false]) ∧ Below w.heap.size w w' := by
  have r1 := cell_more hb.1 hb.rule
  unfold laneC at r1
  go_enter Tryz.func102, Tryz.ntmps102
  go_wp2
  exact bodyPost_ret (v := .agg #[.int .u64 X, .int .i64 0, .bool false]) (by simp [results, Tryz.results102, go_sem]) rfl ⟨rfl, (Below.refl _ _).alloc (Nat.le_refl _) _⟩
end
end Go.Proofs.YtnnjanaclgjneaaGreatDoor
