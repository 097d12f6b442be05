/- What is proved on the way to the statement, part 5 of 13: contracts of the functions, among other things in memory. -/
import Derived.Test.YtnnjanaclgjneaaGreatDoorE4
import Derived.WalkKit
import Derived.Orders
import Derived.Deep.AppendLies
import Derived.OneCell

/- A drawn region whose operations each come to one value, whatever the order: walked once, in the order of the text. S says what every world on the way keeps (cells that are read, what has not turned); loads, arithmetic and calls (of functions that may make memory) go by it. -/
namespace Go.Proofs.YtnnjanaclgjneaaGreatDoor
open Go
set_option maxRecDepth 100000

section
variable {P : Program} {ops : Array Oper} {Q : Exit → Act → World → Prop} {md : Region.Mode} {S : World → Prop}

/-- What a run comes to: the value v, or a call that comes to v; S is kept. -/
def LandsIn (P : Program) (S : World → Prop) (v : Value) : Result Next → Prop
  | .ok (.value u) w' => u = v ∧ S w'
  | .ok .skip w' => v = undef ∧ S w'
  | .ok (.enter f args) w' => Calls P f args w' fun e w'' => e = .returned v ∧ S w''
  | _ => False

/-- In frame a the operation comes to v from every world that meets S. -/
def Settles (P : Program) (ops : Array Oper) (S : World → Prop) (o : Oper) (v : Value) (a : Act) : Prop :=
  (Region.wanted o (yielded ops a.tmps) = true ∧ ∀ w, S w → LandsIn P S v ((execOp a.eval o).run P w)) ∨ (Region.wanted o (yielded ops a.tmps) = false ∧ v = undef)

theorem Settles.of_same {o : Oper} {v : Value} {a a' : Act} (h : Settles P ops S o v a) (he : execOp a'.eval o = execOp a.eval o)
    (hw : Region.wanted o (yielded ops a'.tmps) = Region.wanted o (yielded ops a.tmps)) : Settles P ops S o v a' := by
  unfold Settles at *
  rw [he, hw]
  exact h

theorem Settles.wpOp {i : Nat} {o : Oper} {v : Value} {a : Act} (hi : ops[i]? = some o) (h : Settles P ops S o v a) {K : Act → World → Prop} {w : World} (hS : S w)
    (hK : ∀ w', S w' → K (a.put o.dst v) w') : wpOp P ops Q i K a w := by
  unfold Go.wpOp
  simp only [hi]
  rcases h with ⟨hw, hv⟩ | ⟨hw, rfl⟩
  · simp only [hw, if_true]
    have := hv w hS
    refine .inl ?_
    unfold Oper.wp
    generalize (execOp a.eval o).run P w = r at *
    cases r with
    | ok n w' =>
      cases n <;> simp only [LandsIn] at this <;> simp only [Oper.upon]
      case value u => obtain ⟨rfl, h2⟩ := this; exact hK _ h2
      case skip => obtain ⟨rfl, h2⟩ := this; exact hK _ h2
      case enter f args =>
        refine Calls.mono this fun e w'' he => ?_
        obtain ⟨rfl, h2⟩ := he
        exact hK _ h2
    | halt x w' => simp only [LandsIn] at this
  · simp only [hw, Bool.false_eq_true, if_false]
    exact hK _ hS

/-- Whatever order is picked: each operation comes to a value that hangs on the frame alone. -/
def Every (P : Program) (md : Region.Mode) (ops : Array Oper) (Q : Exit → Act → World → Prop) (S : World → Prop) : Nat → Array Bool → Act → Prop
  | 0, listed, a => Region.ready md ops listed = [] ∧ ∀ w, S w → Q .normal a w
  | fuel + 1, listed, a => (Region.ready md ops listed = [] → ∀ w, S w → Q .normal a w) ∧
    ∀ i ∈ Region.ready md ops listed, ∃ o v, ops[i]? = some o ∧ Settles P ops S o v a ∧ Every P md ops Q S fuel (listed.setIfInBounds i true) (a.put o.dst v)

theorem Every.sound : ∀ (fuel : Nat) (listed : Array Bool) (a : Act), Every P md ops Q S fuel listed a → ∀ w, S w → wpAny P md ops Q fuel listed a w
  | 0, _, _, h, w, hS => ⟨h.1, h.2 w hS⟩
  | fuel + 1, listed, a, h, w, hS => ⟨fun h0 => h.1 h0 w hS, fun i hi => by
      obtain ⟨o, v, ho, hs, hE⟩ := h.2 i hi
      exact hs.wpOp ho hS fun w' hS' => Every.sound fuel _ _ hE w' hS'⟩

theorem Every.first {i : Nat} {oi : Oper} {v : Value} (hi : ops[i]? = some oi) (hsel : ∀ (j : Nat) (o : Oper) cs b, ops[j]? = some o → o.op ≠ .select cs b) :
    ∀ (fuel : Nat) (listed : Array Bool) (a : Act),
      (∀ j oj, ops[j]? = some oj → j ≠ i → listed.getD j true = false → (∀ e ∈ oj.after, Region.binds md e = true → e.on ≠ i) → oi.apart ops oj = true) →
      i ∈ Region.ready md ops listed → Settles P ops S oi v a →
      Every P md ops Q S fuel (listed.setIfInBounds i true) (a.put oi.dst v) → Every P md ops Q S (fuel + 1) listed a := by
  intro fuel
  induction fuel with
  | zero =>
    intro listed a _ hr hy H
    refine ⟨fun h => (by rw [h] at hr; cases hr), fun j hj => ?_⟩
    by_cases hji : j = i
    · subst hji; exact ⟨oi, v, hi, hy, H⟩
    · have := ready_mono hj hji
      rw [H.1] at this
      cases this
  | succ fuel ih =>
    intro listed a hfree hr hy H
    refine ⟨fun h => (by rw [h] at hr; cases hr), fun j hj => ?_⟩
    by_cases hji : j = i
    · subst hji; exact ⟨oi, v, hi, hy, H⟩
    · obtain ⟨oj, u, hoj, hsj, hE⟩ := H.2 j (ready_mono hj hji)
      obtain ⟨hjun, oj', hoj', hall⟩ := mem_ready.1 hj
      obtain rfl : oj = oj' := Option.some.inj (hoj.symm.trans hoj')
      have hnot : ∀ e ∈ oj.after, Region.binds md e = true → e.on ≠ i := fun e he hb heq => by
        have h1 := hall e he hb
        have h0 := (mem_ready.1 hr).1
        rw [heq] at h1
        rcases Nat.lt_or_ge i listed.size with h' | h'
        · simp [h'] at h0 h1; rw [h0] at h1; cases h1
        · simp [Array.getElem?_eq_none h'] at h1
      have hap := hfree j oj hoj hji hjun hnot
      obtain ⟨p1, p2, p3⟩ := Oper.apart_spec hap
      have hfree' : ∀ k ok, ops[k]? = some ok → k ≠ i → (listed.setIfInBounds j true).getD k true = false →
          (∀ e ∈ ok.after, Region.binds md e = true → e.on ≠ i) → oi.apart ops ok = true := fun k ok hk hki hun hno => by
        refine hfree k ok hk hki ?_ hno
        by_cases hjk : j = k
        · subst hjk; exact hjun
        · rw [getD_set_ne true hjk] at hun; exact hun
      refine ⟨oj, u, hoj, hsj.of_same (execOp_put oj (fun cs b => hsel j oj cs b hoj) a oi.dst v p1).symm (wanted_put oj a oi.dst v p1).symm, ?_⟩
      refine ih (listed.setIfInBounds j true) (a.put oj.dst u) hfree' (ready_mono hr (Ne.symm hji)) (hy.of_same (execOp_put oi (fun cs b => hsel i oi cs b hi) a oj.dst u p3) (wanted_put oi a oj.dst u p3)) ?_
      rw [Array.setIfInBounds_comm _ _ hji, ← Act.put_comm a v u p2]
      exact hE

/-- The operations of the text from k on, in its order. -/
def firstK (n k : Nat) : Array Bool := Array.ofFn (n := n) fun i => decide (i.1 < k)
def textFits (md : Region.Mode) (ops : Array Oper) : Bool :=
  Region.noSelect ops && (List.range ops.size).all fun k => Region.free md ops (firstK ops.size k) k && (Region.ready md ops (firstK ops.size k)).contains k
def InText (P : Program) (md : Region.Mode) (ops : Array Oper) (Q : Exit → Act → World → Prop) (S : World → Prop) (rest : List Oper) (a : Act) : Prop :=
  ∀ k, k + rest.length = ops.size → ops.toList.drop k = rest → Every P md ops Q S rest.length (firstK ops.size k) a

theorem firstK_succ (n k : Nat) : (firstK n k).setIfInBounds k true = firstK n (k + 1) := by
  apply Array.ext
  · simp [firstK]
  · intro i h1 h2
    by_cases hik : i = k
    · subst hik
      simp [firstK]
    · have e := Array.getElem_setIfInBounds_ne (xs := firstK n k) (i := k) (j := i) (a := true) (by simpa using h1) (by omega)
      rw [e]
      simp only [firstK, Array.getElem_ofFn]
      congr 1
      apply propext
      omega

theorem InText.nil {a : Act} (h : ∀ w, S w → Q .normal a w) : InText P md ops Q S [] a := fun k hk _ => by
  refine ⟨?_, h⟩
  have hk' : k = ops.size := by simpa using hk
  subst hk'
  unfold Region.ready
  rw [List.filter_eq_nil_iff]
  intro i hi
  have : i < ops.size := by simpa using hi
  simp [firstK, this]

theorem InText.cons {o : Oper} {rest : List Oper} {a : Act} {v : Value} (hf : textFits md ops = true) (hs : Settles P ops S o v a) (h : InText P md ops Q S rest (a.put o.dst v)) : InText P md ops Q S (o :: rest) a := fun k hk hd => by
  unfold textFits at hf
  rw [Bool.and_eq_true, List.all_eq_true] at hf
  have hlt : k < ops.size := by simp at hk; omega
  have hf2 := hf.2 k (by simpa using hlt)
  rw [Bool.and_eq_true] at hf2
  have ho : ops[k]? = some o := by
    have h0 : (ops.toList.drop k)[0]? = some o := by rw [hd]; rfl
    simpa using h0
  have hsel : ∀ (j : Nat) (o : Oper) cs b, ops[j]? = some o → o.op ≠ .select cs b := Region.noSelect_spec hf.1
  refine Every.first ho hsel rest.length (firstK ops.size k) a (Region.free_spec ho hf2.1) (by simpa using hf2.2) hs ?_
  rw [firstK_succ]
  refine h (k + 1) (by simp at hk; omega) ?_
  rw [← List.drop_drop, hd]
  rfl

/-- The start. -/
theorem wp_text {id : Nat} {a : Act} {w : World} (hm : P.follows .mixedOrders = true) (hf : textFits .any ops = true) (hS : S w.drew) (h : textFits .any ops = true → InText P .any ops Q S ops.toList a) : (Code.region id ops true).wp P Q a w :=
  wp_region_any hm (by
    have h0 := h hf 0 (by simp) rfl
    have e : firstK ops.size 0 = Array.replicate ops.size false := by
      apply Array.ext
      · simp [firstK]
      · intro i h1 h2; simp [firstK]
    rw [e] at h0
    simpa using Every.sound _ _ _ h0 _ hS)

/-- One step each: a value (arithmetic, a load, a move). -/
theorem text_value {o : Oper} {rest : List Oper} {a : Act} {v : Value} (hf : textFits md ops = true) (hw : Region.wanted o (yielded ops a.tmps) = true) (hv : ∀ w, S w → (execOp a.eval o).run P w = .ok (.value v) w)
    (h : InText P md ops Q S rest (a.put o.dst v)) : InText P md ops Q S (o :: rest) a :=
  InText.cons hf (Or.inl ⟨hw, fun w hS => by rw [hv w hS]; exact ⟨rfl, hS⟩⟩) h
/-- .. an operation that is not wanted .. -/
theorem text_off {o : Oper} {rest : List Oper} {a : Act} (hf : textFits md ops = true) (hw : Region.wanted o (yielded ops a.tmps) = false) (h : InText P md ops Q S rest (a.put o.dst undef)) : InText P md ops Q S (o :: rest) a :=
  InText.cons hf (Or.inr ⟨hw, rfl⟩) h
/-- .. a call. -/
theorem text_call {o : Oper} {rest : List Oper} {a : Act} {v : Value} {f : FuncId} {args : Array Value} (hf : textFits md ops = true) (hw : Region.wanted o (yielded ops a.tmps) = true) (hr : ∀ w, S w → (execOp a.eval o).run P w = .ok (.enter f args) w)
    (hc : ∀ w, S w → Calls P f args w fun e w' => e = .returned v ∧ S w') (h : InText P md ops Q S rest (a.put o.dst v)) : InText P md ops Q S (o :: rest) a :=
  InText.cons hf (Or.inl ⟨hw, fun w hS => by rw [hr w hS]; exact hc w hS⟩) h
end
end Go.Proofs.YtnnjanaclgjneaaGreatDoor

/- Lanes: contracts of what stands behind a validate, and of cut. -/
namespace Go.Proofs.YtnnjanaclgjneaaGreatDoor
open Go.RowKit Go.Maps
set_option maxRecDepth 100000

/-- The state behind coming to a link. -/
def cS (v : Int) : Int := if slotI v = 0 then 1 else 0
section
variable {w0 w : World} {L : List Item} {a c : Nat} {lv key : Int} {vs : Bool} {nx : Value} {x y z W C X wd : Int} {pf : Bool} {pv : Int}

theorem come_l (v : Int) (hv : InU v) (hg : Glo w0) (hE : Env w0 (boxI a (laneC c lv key vs nx 0 x y z W C X wd pf pv) :: L) w) :
    Calls Tryz.prog 263 #[.pointer (some ⟨a, 0, none⟩), .agg #[.int .u64 v, .int .i64 0, .bool false]] w fun o w' => o = .returned (.int .i64 (cS v)) ∧ ∃ nx, (slotI v ≠ 0 → nx = mvL 272 a) ∧ Env w0 (boxI a (laneC c lv key vs nx (cS v) x y z v (slotI v) 0 wd pf pv) :: L) w' := by
  by_cases hs : slotI v = 0
  · refine (come0_l v hs hv hg hE).mono ?_
    rintro o w1 ⟨rfl, nx, hE1⟩
    have hc : cS v = 1 := if_pos hs
    rw [hc, hs]
    exact ⟨rfl, nx, fun h => absurd rfl h, hE1⟩
  · refine (comeY_l v hs hv hg hE).mono ?_
    rintro o w1 ⟨rfl, hE1⟩
    have hc : cS v = 0 := if_neg hs
    rw [hc]
    exact ⟨rfl, _, fun _ => rfl, hE1⟩
set_option maxHeartbeats 1600000 in
theorem intoMark_l (hm : markB W = true) (hv : InU W) (hg : Glo w0) (hE : Env w0 (boxI a (laneC c lv key vs nx 0 x y z W C X wd pf pv) :: L) w) :
    Calls Tryz.prog 243 #[.pointer (some ⟨a, 0, none⟩)] w fun o w' => o = .returned (.int .i64 2) ∧ ∃ nx, Env w0 (boxI a (laneC c lv key vs nx 2 x y z W C X wd pf pv) :: L) w' := by
  have r := hE.rule 0 rfl
  unfold laneC at r
  have h1 := isMarked_any W w (hg.keep' hE.below) hv.1 hv.2
  rw [hm] at h1
  clear hm hv hg
  go_enter Tryz.func243, Tryz.ntmps243
  go_wp2_with fail
  refine h1.mono ?_
  rintro o w1 ⟨rfl, hb⟩
  replace hE := hE.over hb
  clear hb r
  go_wp2_with fail
  refine (end_l 0 2 (by simp [laneC]) hE rfl).mono ?_
  rintro o w6 ⟨rfl, nx, hE6⟩
  go_wp2_with fail
  go_ret
  exact ⟨rfl, nx, hE6⟩
set_option maxHeartbeats 1600000 in
theorem intoCome_l (hm : markB W = false) (hv : InU W) (hg : Glo w0) (hE : Env w0 (boxI a (laneC c lv key vs nx 0 x y z W C X wd pf pv) :: L) w) :
    Calls Tryz.prog 243 #[.pointer (some ⟨a, 0, none⟩)] w fun o w' => o = .returned (.int .i64 (cS W)) ∧ ∃ nx, (slotI W ≠ 0 → nx = mvL 272 a) ∧ Env w0 (boxI a (laneC c lv key vs nx (cS W) x y z W (slotI W) 0 wd pf pv) :: L) w' := by
  have r := hE.rule 0 rfl
  unfold laneC at r
  have h1 := isMarked_any W w (hg.keep' hE.below) hv.1 hv.2
  rw [hm] at h1
  have HV := Lib.hid hv
  have HG := Lib.hid hg
  clear hm hv hg
  go_enter Tryz.func243, Tryz.ntmps243
  go_wp2_with fail
  refine h1.mono ?_
  rintro o w1 ⟨rfl, hb⟩
  replace hE := hE.over hb
  clear hb r
  have r := hE.rule 0 rfl
  unfold laneC at r
  go_wp2_with fail
  refine (come_l W HV.out HG.out hE).mono ?_
  rintro o w6 ⟨rfl, nx, hnx, hE6⟩
  go_wp2_with fail
  go_ret
  exact ⟨rfl, nx, hnx, hE6⟩
set_option maxHeartbeats 1600000 in
theorem out_l (hv : InU X) (hg : Glo w0) (hE : Env w0 (boxI a (laneC c lv key vs nx 0 x y z W C X wd pf pv) :: L) w) :
    Calls Tryz.prog 282 #[.pointer (some ⟨a, 0, none⟩)] w fun o w' => o = .returned (.int .i64 0) ∧ Env w0 (boxI a (laneC c lv key vs (mvL (if markB X then 293 else 294) a) 0 x y z W C X wd pf pv) :: L) w' := by
  have hmf := makeF
  have r := hE.rule 0 rfl
  unfold laneC at r
  have h1 := isMarked_any X w (hg.keep' hE.below) hv.1 hv.2
  obtain ⟨b, hb9⟩ : ∃ b, markB X = b := ⟨_, rfl⟩
  rw [hb9] at h1 ⊢
  clear hb9 hv hg
  go_enter Tryz.func282, Tryz.ntmps282
  go_wp2_with fail
  refine h1.mono ?_
  rintro o w1 ⟨rfl, hb⟩
  replace hE := hE.over hb
  clear hb r
  cases b
  · go_wp2_with fail
    refine (goOn_l 0 _ _ _ (by simp [laneC]) hE rfl).mono ?_
    rintro o w6 ⟨rfl, hE6⟩
    go_wp2_with fail
    go_ret
    exact ⟨rfl, hE6⟩
  · go_wp2_with fail
    refine (goOn_l 0 _ _ _ (by simp [laneC]) hE rfl).mono ?_
    rintro o w6 ⟨rfl, hE6⟩
    go_wp2_with fail
    go_ret
    exact ⟨rfl, hE6⟩
set_option maxHeartbeats 1600000 in
theorem val_l (hE : Env w0 (boxI a (laneC c lv key vs nx 0 x y z W C X wd pf pv) :: L) w) :
    Calls Tryz.prog 304 #[.pointer (some ⟨a, 0, none⟩)] w fun o w' => o = .returned (.int .i64 1) ∧ ∃ nx, Env w0 (boxI a (laneC c lv key vs nx 1 x y z W C X wd true wd) :: L) w' := by
  have r := hE.rule 0 rfl
  unfold laneC at r
  have g0 := hE.thaw 0 rfl 19 (by simp [laneC])
  have g1 := hE.thaw 0 rfl 20 (by simp [laneC])
  have hP := (hE.put 0 rfl (j := 19) (by simp [laneC]) (.bool true)).put 0 rfl (j := 20) (by simp [laneC]) (.int .u64 wd)
  replace hP : Env w0 (boxI a (laneC c lv key vs nx 0 x y z W C X wd true wd) :: L) _ := hP
  go_enter Tryz.func304, Tryz.ntmps304
  go_wp2_with fail
  refine (end_l 0 1 (by simp [laneC]) hP rfl).mono ?_
  rintro o w6 ⟨rfl, nx, hE6⟩
  go_wp2_with fail
  go_ret
  exact ⟨rfl, nx, hE6⟩

set_option maxHeartbeats 3200000 in
theorem keyLess_l (hk : wd < key) (hlv : 0 ≤ lv ∧ lv ≤ 1000000) (hv : InU X) (hg : Glo w0) (hE : Env w0 (boxI a (laneC c lv key vs nx 0 x y z W C X wd pf pv) :: L) w) :
    Calls Tryz.prog 298 #[.pointer (some ⟨a, 0, none⟩)] w fun o w' => o = .returned (.int .i64 (cS X)) ∧ ∃ nx, (slotI X ≠ 0 → nx = mvL 272 a) ∧ Env w0 (boxI a (laneC c lv key vs nx (cS X) 5 C (7 + lv) X (slotI X) 0 wd pf pv) :: L) w' := by
  have hkb : decide (wd < key) = true := by simpa using hk
  have HV := Lib.hid hv
  have HG := Lib.hid hg
  clear hk hv hg
  go_enter Tryz.func298, Tryz.ntmps298
  go_wp2_with fail
  refine wp_text (S := (Env w0 (boxI a (laneC c lv key vs nx 0 x y z W C X wd pf pv) :: L))) (by kernel_rfl) (by kernel_rfl) hE.drew (fun hT => ?_)
  have hT9 := Lib.hid hT
  clear hT
  repeat (first
    | (refine text_value (v := ?_) hT9.out (by rfl) ?_ ?_; rotate_left; (focus (intro w5 hS; have r := hS.rule 0 rfl; unfold laneC at r; go_simp <;> with_reducible rfl)); (try simp only [Act.put, List.setIfInBounds_toArray, List.set_cons_zero, List.set_cons_succ]))
    | (refine text_off hT9.out (by rfl) ?_; (try simp only [Act.put, List.setIfInBounds_toArray, List.set_cons_zero, List.set_cons_succ]))
    | (refine text_call (v := ?_) (f := ?_) (args := ?_) hT9.out (by rfl) ?_ ?_ ?_; rotate_left 3; (focus (intro w5 hS; have r := hS.rule 0 rfl; unfold laneC at r; go_simp; constructor <;> with_reducible rfl)); (focus (intro w5 hS; (first | fail))); (try simp only [Act.put, List.setIfInBounds_toArray, List.set_cons_zero, List.set_cons_succ])))
  refine InText.nil fun w5 hS5 => ?_
  clear hT9
  clear hE
  go_wp2_with fail
  refine (nextLink_l hlv (hS5.get 0 rfl)).mono ?_
  rintro o w6 ⟨rfl, hb⟩
  have hE := hS5.over hb
  clear hS5 hb
  have r := hE.rule 0 rfl
  unfold laneC at r
  have g0 := hE.thaw 0 rfl 6 (by simp [laneC])
  have g1 := hE.thaw 0 rfl 7 (by simp [laneC])
  have g2 := hE.thaw 0 rfl 8 (by simp [laneC])
  have g3 := hE.thaw 0 rfl 9 (by simp [laneC])
  have hP := (((hE.put 0 rfl (j := 6) (by simp [laneC]) (.int .i64 5)).put 0 rfl (j := 7) (by simp [laneC]) (.int .i64 C)).put 0 rfl (j := 8) (by simp [laneC]) (.int .i64 (7 + lv))).put 0 rfl (j := 9) (by simp [laneC]) (.int .i64 0)
  replace hP : Env w0 (boxI a (laneC c lv key vs nx 0 5 C (7 + lv) W C X wd pf pv) :: L) _ := hP
  clear hE
  have r9 := hP.rule 0 rfl
  unfold laneC at r9
  go_wp2_with fail
  refine (come_l X HV.out HG.out hP).mono ?_
  rintro o w7 ⟨rfl, nx, hnx, hE6⟩
  go_wp2_with fail
  go_ret
  exact ⟨rfl, nx, hnx, hE6⟩

set_option maxHeartbeats 3200000 in
theorem keyVal_l (hk : wd = key) (hE : Env w0 (boxI a (laneC c lv key true nx 0 x y z W C X wd pf pv) :: L) w) :
    Calls Tryz.prog 298 #[.pointer (some ⟨a, 0, none⟩)] w fun o w' => o = .returned (.int .i64 0) ∧ Env w0 (boxI a (laneC c lv key true (mvL 301 a) 0 x y z W C X wd pf pv) :: L) w' := by
  have hmf := makeF
  subst hk
  have hlt : decide (wd < wd) = false := by simp
  have heq : (wd == wd) = true := by simp
  go_enter Tryz.func298, Tryz.ntmps298
  go_wp2_with fail
  refine wp_text (S := (Env w0 (boxI a (laneC c lv wd true nx 0 x y z W C X wd pf pv) :: L))) (by kernel_rfl) (by kernel_rfl) hE.drew (fun hT => ?_)
  have hT9 := Lib.hid hT
  clear hT
  repeat (first
    | (refine text_value (v := ?_) hT9.out (by rfl) ?_ ?_; rotate_left; (focus (intro w5 hS; have r := hS.rule 0 rfl; unfold laneC at r; go_simp <;> with_reducible rfl)); (try simp only [Act.put, List.setIfInBounds_toArray, List.set_cons_zero, List.set_cons_succ]))
    | (refine text_off hT9.out (by rfl) ?_; (try simp only [Act.put, List.setIfInBounds_toArray, List.set_cons_zero, List.set_cons_succ]))
    | (refine text_call (v := ?_) (f := ?_) (args := ?_) hT9.out (by rfl) ?_ ?_ ?_; rotate_left 3; (focus (intro w5 hS; have r := hS.rule 0 rfl; unfold laneC at r; go_simp; constructor <;> with_reducible rfl)); (focus (intro w5 hS; (first | fail))); (try simp only [Act.put, List.setIfInBounds_toArray, List.set_cons_zero, List.set_cons_succ])))
  refine InText.nil fun w5 hS5 => ?_
  clear hT9
  clear hE
  go_wp2_with fail
  have hE := hS5
  clear hS5
  refine wp_text (S := (Env w0 (boxI a (laneC c lv wd true nx 0 x y z W C X wd pf pv) :: L))) (by kernel_rfl) (by kernel_rfl) hE.drew (fun hT => ?_)
  have hT9 := Lib.hid hT
  clear hT
  repeat (first
    | (refine text_value (v := ?_) hT9.out (by rfl) ?_ ?_; rotate_left; (focus (intro w5 hS; have r := hS.rule 0 rfl; unfold laneC at r; go_simp <;> with_reducible rfl)); (try simp only [Act.put, List.setIfInBounds_toArray, List.set_cons_zero, List.set_cons_succ]))
    | (refine text_off hT9.out (by rfl) ?_; (try simp only [Act.put, List.setIfInBounds_toArray, List.set_cons_zero, List.set_cons_succ]))
    | (refine text_call (v := ?_) (f := ?_) (args := ?_) hT9.out (by rfl) ?_ ?_ ?_; rotate_left 3; (focus (intro w5 hS; have r := hS.rule 0 rfl; unfold laneC at r; go_simp; constructor <;> with_reducible rfl)); (focus (intro w5 hS; (first | fail))); (try simp only [Act.put, List.setIfInBounds_toArray, List.set_cons_zero, List.set_cons_succ])))
  refine InText.nil fun w5 hS5 => ?_
  clear hT9
  clear hE
  go_wp2_with fail
  refine (goOn_l 0 _ _ _ (by simp [laneC]) hS5 rfl).mono ?_
  rintro o w6 ⟨rfl, hE6⟩
  go_wp2_with fail
  go_ret
  exact ⟨rfl, hE6⟩

set_option maxHeartbeats 3200000 in
theorem keyFound_l (hk : wd = key) (hE : Env w0 (boxI a (laneC c lv key false nx 0 x y z W C X wd pf pv) :: L) w) :
    Calls Tryz.prog 298 #[.pointer (some ⟨a, 0, none⟩)] w fun o w' => o = .returned (.int .i64 1) ∧ ∃ nx, Env w0 (boxI a (laneC c lv key false nx 1 x y z W C X wd true pv) :: L) w' := by
  have hmf := makeF
  subst hk
  have hlt : decide (wd < wd) = false := by simp
  have heq : (wd == wd) = true := by simp
  go_enter Tryz.func298, Tryz.ntmps298
  go_wp2_with fail
  refine wp_text (S := (Env w0 (boxI a (laneC c lv wd false nx 0 x y z W C X wd pf pv) :: L))) (by kernel_rfl) (by kernel_rfl) hE.drew (fun hT => ?_)
  have hT9 := Lib.hid hT
  clear hT
  repeat (first
    | (refine text_value (v := ?_) hT9.out (by rfl) ?_ ?_; rotate_left; (focus (intro w5 hS; have r := hS.rule 0 rfl; unfold laneC at r; go_simp <;> with_reducible rfl)); (try simp only [Act.put, List.setIfInBounds_toArray, List.set_cons_zero, List.set_cons_succ]))
    | (refine text_off hT9.out (by rfl) ?_; (try simp only [Act.put, List.setIfInBounds_toArray, List.set_cons_zero, List.set_cons_succ]))
    | (refine text_call (v := ?_) (f := ?_) (args := ?_) hT9.out (by rfl) ?_ ?_ ?_; rotate_left 3; (focus (intro w5 hS; have r := hS.rule 0 rfl; unfold laneC at r; go_simp; constructor <;> with_reducible rfl)); (focus (intro w5 hS; (first | fail))); (try simp only [Act.put, List.setIfInBounds_toArray, List.set_cons_zero, List.set_cons_succ])))
  refine InText.nil fun w5 hS5 => ?_
  clear hT9
  clear hE
  go_wp2_with fail
  have hE := hS5
  clear hS5
  refine wp_text (S := (Env w0 (boxI a (laneC c lv wd false nx 0 x y z W C X wd pf pv) :: L))) (by kernel_rfl) (by kernel_rfl) hE.drew (fun hT => ?_)
  have hT9 := Lib.hid hT
  clear hT
  repeat (first
    | (refine text_value (v := ?_) hT9.out (by rfl) ?_ ?_; rotate_left; (focus (intro w5 hS; have r := hS.rule 0 rfl; unfold laneC at r; go_simp <;> with_reducible rfl)); (try simp only [Act.put, List.setIfInBounds_toArray, List.set_cons_zero, List.set_cons_succ]))
    | (refine text_off hT9.out (by rfl) ?_; (try simp only [Act.put, List.setIfInBounds_toArray, List.set_cons_zero, List.set_cons_succ]))
    | (refine text_call (v := ?_) (f := ?_) (args := ?_) hT9.out (by rfl) ?_ ?_ ?_; rotate_left 3; (focus (intro w5 hS; have r := hS.rule 0 rfl; unfold laneC at r; go_simp; constructor <;> with_reducible rfl)); (focus (intro w5 hS; (first | fail))); (try simp only [Act.put, List.setIfInBounds_toArray, List.set_cons_zero, List.set_cons_succ])))
  refine InText.nil fun w5 hS5 => ?_
  clear hT9
  clear hE
  go_wp2_with fail
  have hE := hS5
  clear hS5
  refine Ord.wp_chain [12] (fun u => ∃ n8, Blk 0 u a (laneC c lv wd false nx 0 x y z W C X wd n8 pv)) (fun k w' => Env w0 (boxI a (if k = 0 then (laneC c lv wd false nx 0 x y z W C X wd pf pv) else (laneC c lv wd false nx 0 x y z W C X wd true pv)) :: L) w') (by kernel_rfl) (by kernel_rfl) (by kernel_rfl) ⟨pf, hE.drew.get 0 rfl⟩ hE.drew (fun hT => ?_)
  have hT9 := Lib.hid hT
  clear hT
  repeat (first
    | (refine Ord.ch_value (v := ?_) hT9.out (by decide) (by rfl) ?_ ?_; rotate_left; (focus (intro w5 hS; obtain ⟨n9, hS1⟩ := hS; have r := hS1.rule; unfold laneC at r; go_simp <;> with_reducible rfl)); (try simp only [Act.put, List.setIfInBounds_toArray, List.set_cons_zero, List.set_cons_succ]))
    | (refine Ord.ch_off hT9.out (by decide) (by rfl) ?_; (try simp only [Act.put, List.setIfInBounds_toArray, List.set_cons_zero, List.set_cons_succ])))
  refine Ord.ch_turn (v := undef) 0 hT9.out rfl (by decide) (Or.inl rfl) (by rfl) ?_ ?_
  · rintro w5 hC5 hA5
    simp only [if_true] at hA5
    have r := hA5.rule 0 rfl
    unfold laneC at r
    have g0 := hA5.thaw 0 rfl 19 (by simp [laneC])
    go_simp
    have h9 := hA5.put 0 rfl (j := 19) (by simp [laneC]) (.bool true)
    replace h9 : Env w0 (boxI a (laneC c lv wd false nx 0 x y z W C X wd true pv) :: L) _ := h9
    first | exact ⟨rfl, .inl (h9.get 0 rfl), h9⟩ | exact ⟨rfl, .inr (h9.get 0 rfl), h9⟩
  (try simp only [Act.put, List.setIfInBounds_toArray, List.set_cons_zero, List.set_cons_succ])
  repeat (first
    | (refine Ord.ch_value (v := ?_) hT9.out (by decide) (by rfl) ?_ ?_; rotate_left; (focus (intro w5 hS; skip; go_simp <;> with_reducible rfl)); (try simp only [Act.put, List.setIfInBounds_toArray, List.set_cons_zero, List.set_cons_succ]))
    | (refine Ord.ch_off hT9.out (by decide) (by rfl) ?_; (try simp only [Act.put, List.setIfInBounds_toArray, List.set_cons_zero, List.set_cons_succ])))
  refine Ord.InText.nil fun w5 hS => ?_
  clear hT9
  obtain ⟨hC9, hA9⟩ := Ord.chain_end hS
  clear hS
  replace hA9 : Env w0 (boxI a (laneC c lv wd false nx 0 x y z W C X wd true pv) :: L) w5 := hA9
  clear hE hC9
  go_wp2_with fail
  refine (end_l 0 1 (by simp [laneC]) hA9 rfl).mono ?_
  rintro o w6 ⟨rfl, nx, hE6⟩
  go_wp2_with fail
  go_ret
  exact ⟨rfl, nx, hE6⟩

set_option maxHeartbeats 3200000 in
theorem keyMore_l (hk : key < wd) (hE : Env w0 (boxI a (laneC c lv key vs nx 0 x y z W C X wd pf pv) :: L) w) :
    Calls Tryz.prog 298 #[.pointer (some ⟨a, 0, none⟩)] w fun o w' => o = .returned (.int .i64 1) ∧ ∃ nx, Env w0 (boxI a (laneC c lv key vs nx 1 x y z W C X wd false pv) :: L) w' := by
  have hmf := makeF
  have hlt : decide (wd < key) = false := by simp; omega
  have heq : (wd == key) = false := by simp; omega
  clear hk
  go_enter Tryz.func298, Tryz.ntmps298
  go_wp2_with fail
  refine wp_text (S := (Env w0 (boxI a (laneC c lv key vs nx 0 x y z W C X wd pf pv) :: L))) (by kernel_rfl) (by kernel_rfl) hE.drew (fun hT => ?_)
  have hT9 := Lib.hid hT
  clear hT
  repeat (first
    | (refine text_value (v := ?_) hT9.out (by rfl) ?_ ?_; rotate_left; (focus (intro w5 hS; have r := hS.rule 0 rfl; unfold laneC at r; go_simp <;> with_reducible rfl)); (try simp only [Act.put, List.setIfInBounds_toArray, List.set_cons_zero, List.set_cons_succ]))
    | (refine text_off hT9.out (by rfl) ?_; (try simp only [Act.put, List.setIfInBounds_toArray, List.set_cons_zero, List.set_cons_succ]))
    | (refine text_call (v := ?_) (f := ?_) (args := ?_) hT9.out (by rfl) ?_ ?_ ?_; rotate_left 3; (focus (intro w5 hS; have r := hS.rule 0 rfl; unfold laneC at r; go_simp; constructor <;> with_reducible rfl)); (focus (intro w5 hS; (first | fail))); (try simp only [Act.put, List.setIfInBounds_toArray, List.set_cons_zero, List.set_cons_succ])))
  refine InText.nil fun w5 hS5 => ?_
  clear hT9
  clear hE
  go_wp2_with fail
  have hE := hS5
  clear hS5
  refine wp_text (S := (Env w0 (boxI a (laneC c lv key vs nx 0 x y z W C X wd pf pv) :: L))) (by kernel_rfl) (by kernel_rfl) hE.drew (fun hT => ?_)
  have hT9 := Lib.hid hT
  clear hT
  repeat (first
    | (refine text_value (v := ?_) hT9.out (by rfl) ?_ ?_; rotate_left; (focus (intro w5 hS; have r := hS.rule 0 rfl; unfold laneC at r; go_simp <;> with_reducible rfl)); (try simp only [Act.put, List.setIfInBounds_toArray, List.set_cons_zero, List.set_cons_succ]))
    | (refine text_off hT9.out (by rfl) ?_; (try simp only [Act.put, List.setIfInBounds_toArray, List.set_cons_zero, List.set_cons_succ]))
    | (refine text_call (v := ?_) (f := ?_) (args := ?_) hT9.out (by rfl) ?_ ?_ ?_; rotate_left 3; (focus (intro w5 hS; have r := hS.rule 0 rfl; unfold laneC at r; go_simp; constructor <;> with_reducible rfl)); (focus (intro w5 hS; (first | fail))); (try simp only [Act.put, List.setIfInBounds_toArray, List.set_cons_zero, List.set_cons_succ])))
  refine InText.nil fun w5 hS5 => ?_
  clear hT9
  clear hE
  go_wp2_with fail
  have hE := hS5
  clear hS5
  refine Ord.wp_chain [12] (fun u => ∃ n8, Blk 0 u a (laneC c lv key vs nx 0 x y z W C X wd n8 pv)) (fun k w' => Env w0 (boxI a (if k = 0 then (laneC c lv key vs nx 0 x y z W C X wd pf pv) else (laneC c lv key vs nx 0 x y z W C X wd false pv)) :: L) w') (by kernel_rfl) (by kernel_rfl) (by kernel_rfl) ⟨pf, hE.drew.get 0 rfl⟩ hE.drew (fun hT => ?_)
  have hT9 := Lib.hid hT
  clear hT
  repeat (first
    | (refine Ord.ch_value (v := ?_) hT9.out (by decide) (by rfl) ?_ ?_; rotate_left; (focus (intro w5 hS; obtain ⟨n9, hS1⟩ := hS; have r := hS1.rule; unfold laneC at r; go_simp <;> with_reducible rfl)); (try simp only [Act.put, List.setIfInBounds_toArray, List.set_cons_zero, List.set_cons_succ]))
    | (refine Ord.ch_off hT9.out (by decide) (by rfl) ?_; (try simp only [Act.put, List.setIfInBounds_toArray, List.set_cons_zero, List.set_cons_succ])))
  refine Ord.ch_turn (v := undef) 0 hT9.out rfl (by decide) (Or.inl rfl) (by rfl) ?_ ?_
  · rintro w5 hC5 hA5
    simp only [if_true] at hA5
    have r := hA5.rule 0 rfl
    unfold laneC at r
    have g0 := hA5.thaw 0 rfl 19 (by simp [laneC])
    go_simp
    have h9 := hA5.put 0 rfl (j := 19) (by simp [laneC]) (.bool false)
    replace h9 : Env w0 (boxI a (laneC c lv key vs nx 0 x y z W C X wd false pv) :: L) _ := h9
    first | exact ⟨rfl, .inl (h9.get 0 rfl), h9⟩ | exact ⟨rfl, .inr (h9.get 0 rfl), h9⟩
  (try simp only [Act.put, List.setIfInBounds_toArray, List.set_cons_zero, List.set_cons_succ])
  repeat (first
    | (refine Ord.ch_value (v := ?_) hT9.out (by decide) (by rfl) ?_ ?_; rotate_left; (focus (intro w5 hS; skip; go_simp <;> with_reducible rfl)); (try simp only [Act.put, List.setIfInBounds_toArray, List.set_cons_zero, List.set_cons_succ]))
    | (refine Ord.ch_off hT9.out (by decide) (by rfl) ?_; (try simp only [Act.put, List.setIfInBounds_toArray, List.set_cons_zero, List.set_cons_succ])))
  refine Ord.InText.nil fun w5 hS => ?_
  clear hT9
  obtain ⟨hC9, hA9⟩ := Ord.chain_end hS
  clear hS
  replace hA9 : Env w0 (boxI a (laneC c lv key vs nx 0 x y z W C X wd false pv) :: L) w5 := hA9
  clear hE hC9
  go_wp2_with fail
  refine (end_l 0 1 (by simp [laneC]) hA9 rfl).mono ?_
  rintro o w6 ⟨rfl, nx, hE6⟩
  go_wp2_with fail
  go_ret
  exact ⟨rfl, nx, hE6⟩

end
end Go.Proofs.YtnnjanaclgjneaaGreatDoor

/- Lanes: the contract of cut. -/
namespace Go.Proofs.YtnnjanaclgjneaaGreatDoor
open Go.RowKit Go.Maps
set_option maxRecDepth 100000

section
variable {w0 w : World} {R : List Item} {a : Nat} {S : ST} {lv key : Int} {vs : Bool} {nx : Value} {x y z W C X wd : Int} {pf : Bool} {pv : Int}

set_option maxHeartbeats 3200000 in
theorem cutNo_l (heq : S.f (x, y, z) ≠ W) (hwf : Wf (x, y, z)) (hX : InU X) (hg : Glo w0) (hm : S.m < maxLen) (hE : Env w0 (boxI a (laneC S.c lv key vs nx 0 x y z W C X wd pf pv) :: LT S R) w) :
    Calls Tryz.prog 293 #[.pointer (some ⟨a, 0, none⟩), .iface 26 (.pointer (some ⟨S.p, 0, none⟩))] w fun o w' => o = .returned (.int .i64 2) ∧ ∃ nx G', Env w0 (boxI a (laneC S.c lv key vs nx 2 x y z W C X wd pf pv) :: LT { S with G := G', f := swf S.f (x, y, z) W (wordI false (slotI X) S.ce), qc := swq S.qc false, m := S.m + 1 } R) w' := by
  have hmf := makeF
  have hah := ahead_swap
  have HD : Hid (decide (S.f (x, y, z) = W) = false) := Lib.hid (by simpa using heq)
  have HG := Lib.hid hg
  have HWF := Lib.hid hwf
  have HLE := Lib.hid fun (v : World) (hv : Below w0.heap.size w0 v) => lead_c X 0 false v hX (hg.keep' hv)
  have hqi : InU (wordI false (slotI X) S.ce) := wordI_in _ _ _
  have hto := fun (v : World) (hv : Below w0.heap.size w0 v) (hb : Blk 0 v S.c (crv S.ck S.cs S.cb S.ch S.cl S.ce S.cr S.hs 0 S.q)) => to_c (slotI X) 0 (hg.keep' hv) hb
  obtain ⟨s, hs⟩ : ∃ s, slotI X = s := ⟨_, rfl⟩
  rw [hs] at hqi ⊢
  simp only [hs] at HLE hto
  clear hs
  obtain ⟨q, hq⟩ : ∃ q, wordI false s S.ce = q := ⟨_, rfl⟩
  rw [hq] at hqi ⊢
  simp only [hq] at hto
  have HQI := Lib.hid hqi
  have HTO := Lib.hid hto
  clear hq hqi hto heq hwf hX hg
  go_enter Tryz.func293, Tryz.ntmps293
  go_wp2_with fail
  refine OrdF.wp_float [?_, ?_, ?_, ?_, ?_, ?_, ?_, ?_, ?_, ?_, OrdF.Ptr, ?_] [11] 10 (fun v => Below w0.heap.size w0 v ∧ Blk 0 v a (laneC S.c lv key vs nx 0 x y z W C X wd pf pv) ∧ Blk 0 v S.c (crv S.ck S.cs S.cb S.ch S.cl S.ce S.cr S.hs 0 S.q)) (OrdF.AF w0 [.int .u64 0, .int .i64 0, .bool false] (OrdF.Sta [fun N zs => N = boxI a (laneC S.c lv key vs nx 0 x y z W C X wd pf pv) :: LT S R ∧ zs = [.int .u64 0, .int .i64 0, .bool false], fun N zs => N = boxI a (laneC S.c lv key vs nx 0 x y z W C X wd pf pv) :: LT S R ∧ zs = [.int .u64 q, .int .i64 0, .bool false]])) (by kernel_rfl) (by kernel_rfl) (by kernel_rfl) ⟨hE.drew.below, hE.drew.get 0 rfl, hE.drew.get 1 rfl⟩ ⟨_, _, ⟨_, rfl, rfl, rfl⟩, .inl ⟨rfl, rfl, hE.drew⟩⟩ (fun hT => ?_)
  rotate_left 11
  have hT9 := Lib.hid hT
  clear hT
  repeat (first
    | (focus (refine OrdF.in_value (v := ?_) hT9.out (by decide) (by decide) ?_ (by rfl) ?_ ?_; rotate_left 2; (focus (intro w5 hS; have r := hS.2.1.rule; unfold laneC at r; go_simp <;> with_reducible rfl)); rotate_right; (focus rfl); (try simp only [Act.put, List.setIfInBounds_toArray, List.set_cons_zero, List.set_cons_succ])))
    | (focus (refine OrdF.in_off hT9.out (by decide) (by decide) ?_ (by rfl) ?_; (focus rfl); (try simp only [Act.put, List.setIfInBounds_toArray, List.set_cons_zero, List.set_cons_succ]))))
  focus (refine OrdF.in_call (v := .agg #[.int .i64 s, .int .i64 0]) (f := ?_) (args := ?_) hT9.out (by decide) (by decide) ?_ (by rfl) ?_ ?_ ?_; rotate_left 2; (focus rfl); (focus (intro w5 hS; skip; go_simp; constructor <;> with_reducible rfl)); (focus (intro w5 hS; refine (HLE.out _ hS.1).mono ?_; rintro e w6 ⟨rfl, hb6⟩; exact ⟨rfl, ⟨hS.1.trans (hb6.mono hS.1.size), hS.2.1.under hb6, hS.2.2.under hb6⟩, fun _ _ h => AF_over h hb6⟩)); (try simp only [Act.put, List.setIfInBounds_toArray, List.set_cons_zero, List.set_cons_succ]))
  focus (refine OrdF.in_call (v := .agg #[.int .u64 q, .int .i64 0, .bool false]) (f := ?_) (args := ?_) hT9.out (by decide) (by decide) ?_ (by rfl) ?_ ?_ ?_; rotate_left 2; (focus rfl); (focus (intro w5 hS; skip; go_simp; constructor <;> with_reducible rfl)); (focus (intro w5 hS; refine (HTO.out _ hS.1 hS.2.2).mono ?_; rintro e w6 ⟨rfl, hb6⟩; exact ⟨rfl, ⟨hS.1.trans (hb6.mono hS.1.size), hS.2.1.under hb6, hS.2.2.under hb6⟩, fun _ _ h => AF_over h hb6⟩)); (try simp only [Act.put, List.setIfInBounds_toArray, List.set_cons_zero, List.set_cons_succ]))
  refine OrdF.in_float OrdF.Ptr (.pointer (some ⟨0, 0, none⟩)) ⟨0, rfl⟩ hT9.out rfl (by decide) ?_ (by rfl) ?_ ?_
  · rfl
  · intro w5 κs5 hC5 hA5
    go_simp
    simp only [Ord3.Lands]
    exact ⟨⟨_, rfl⟩, ⟨hC5.1.alloc hC5.1.size _, hC5.2.1.more _, hC5.2.2.more _⟩, hA5.up _⟩
  rintro _ ⟨V, rfl⟩
  (try simp only [Act.put, List.setIfInBounds_toArray, List.set_cons_zero, List.set_cons_succ])
  refine OrdF.in_turn_late (by kernel_rfl) (by decide) (by decide) (fun u => u = undef) (undef) rfl hT9.out rfl (by decide) (by rfl) ?_ (.inl rfl) (by rfl) ?_ ?_
  · rfl
  · rintro w5 hC5 ⟨M5, z5, ⟨P5, hP5, hM5⟩, ⟨hn5, _⟩ | ⟨n5, hn5, hE5⟩⟩
    · cases hn5
    cases hn5
    cases hP5
    obtain ⟨rfl, rfl⟩ := hM5
    have r := hE5.rule 0 rfl; have ff := hE5.thaw 0 rfl; have f0 := ff 0 (by simp); have f1 := ff 1 (by simp); have f2 := ff 2 (by simp); clear ff
    go_simp
    have hE6 := hE5.put3 0 rfl (.int .u64 q) (.int .i64 0) (.bool false); exact ⟨rfl, ⟨hE6.below, hE6.get 1 rfl, hE6.get 2 rfl⟩, _, _, ⟨_, rfl, rfl, rfl⟩, .inr ⟨_, rfl, hE6⟩⟩
  rintro _ rfl
  (try simp only [Act.put, List.setIfInBounds_toArray, List.set_cons_zero, List.set_cons_succ])
  refine OrdF.in_nil rfl (by decide) (by decide) ?_
  rintro w5 hC5 ⟨M5, z5, ⟨P5, hP5, hM5⟩, ⟨hn5, _⟩ | ⟨n5, hn5, hE5⟩⟩
  · cases hn5
  cases hn5
  cases hP5
  obtain ⟨rfl, rfl⟩ := hM5
  clear hT9
  clear HTO HLE hE
  go_wp2_with fail
  refine Ord.wp_chain [13] (fun v => Blk 0 v a (laneC S.c lv key vs nx 0 x y z W C X wd pf pv) ∧ Blk 0 v V [.int .u64 q, .int .i64 0, .bool false]) (fun k w' => ∃ G5, Env w0 (boxI V [.int .u64 q, .int .i64 0, .bool false] :: boxI a (laneC S.c lv key vs nx 0 x y z W C X wd pf pv) :: LT (if k = 0 then S else { S with G := G5, f := swf S.f (x, y, z) W q, qc := swq S.qc false, m := S.m + 1 }) R) w') (by kernel_rfl) (by kernel_rfl) (by kernel_rfl) ⟨hE5.drew.get 1 rfl, hE5.drew.get 0 rfl⟩ ⟨S.G, hE5.drew⟩ (fun hT => ?_)
  have hT9 := Lib.hid hT
  clear hT
  repeat (first
    | (refine Ord.ch_value (v := ?_) hT9.out (by decide) (by rfl) ?_ ?_; rotate_left; (focus (intro w5 hS; have r := hS.1.rule; have r1 := hS.2.rule; unfold laneC at r; go_simp <;> with_reducible rfl)); (try simp only [Act.put, List.setIfInBounds_toArray, List.set_cons_zero, List.set_cons_succ]))
    | (refine Ord.ch_off hT9.out (by decide) (by rfl) ?_; (try simp only [Act.put, List.setIfInBounds_toArray, List.set_cons_zero, List.set_cons_succ])))
  refine Ord.ch_turn (v := .bool false) 0 hT9.out rfl (by decide) (Or.inl rfl) (by rfl) ?_ ?_
  · rintro w5 hC5 ⟨G5, hA5⟩
    simp only [if_true] at hA5
    go_simp
    rw [method_swap]
    simp only [Result.andThen_ok]
    go_simp
    simp only [Ord.LandsIn]
    have hsw := swap_w x y z 0 W 0 q 0 false false HWF.out HQI.out hm 4 5 (by decide) hA5 rfl rfl
    rw [HD.out] at hsw
    refine hsw.mono ?_
    rintro e w6 ⟨rfl, G6, hE6⟩
    exact ⟨rfl, ⟨hE6.get 1 rfl, hE6.get 0 rfl⟩, G6, hE6⟩
  (try simp only [Act.put, List.setIfInBounds_toArray, List.set_cons_zero, List.set_cons_succ])
  repeat (first
    | (refine Ord.ch_value (v := ?_) hT9.out (by decide) (by rfl) ?_ ?_; rotate_left; (focus (intro w5 hS; skip; go_simp <;> with_reducible rfl)); (try simp only [Act.put, List.setIfInBounds_toArray, List.set_cons_zero, List.set_cons_succ]))
    | (refine Ord.ch_off hT9.out (by decide) (by rfl) ?_; (try simp only [Act.put, List.setIfInBounds_toArray, List.set_cons_zero, List.set_cons_succ])))
  refine Ord.InText.nil fun w5 hS => ?_
  clear hT9
  obtain ⟨hC9, hA9⟩ := Ord.chain_end hS
  clear hS
  obtain ⟨G9, hA9⟩ := hA9
  clear hC9 hE5
  simp only [List.length_cons, List.length_nil, Nat.zero_add, Nat.one_ne_zero, if_false] at hA9

  go_wp2_with fail
  refine (end_l 1 2 (by simp [laneC]) hA9 rfl).mono ?_
  rintro o w7 ⟨rfl, nx, hE7⟩
  go_wp2_with fail
  go_ret
  exact ⟨rfl, nx, G9, hE7.sub (.cons _ (List.Sublist.refl _))⟩

set_option maxHeartbeats 3200000 in
theorem cutYes_l (heq : S.f (x, y, z) = W) (hwf : Wf (x, y, z)) (hX : InU X) (hg : Glo w0) (hm : S.m < maxLen) (hE : Env w0 (boxI a (laneC S.c lv key vs nx 0 x y z W C X wd pf pv) :: LT S R) w) :
    Calls Tryz.prog 293 #[.pointer (some ⟨a, 0, none⟩), .iface 26 (.pointer (some ⟨S.p, 0, none⟩))] w fun o w' => o = .returned (.int .i64 (cS (wordI false (slotI X) S.ce))) ∧ ∃ nx G', (slotI (wordI false (slotI X) S.ce) ≠ 0 → nx = mvL 272 a) ∧ Env w0 (boxI a (laneC S.c lv key vs nx (cS (wordI false (slotI X) S.ce)) x y z (wordI false (slotI X) S.ce) (slotI (wordI false (slotI X) S.ce)) 0 wd pf pv) :: LT { S with G := G', f := swf S.f (x, y, z) W (wordI false (slotI X) S.ce), qc := swq S.qc true, m := S.m + 1 } R) w' := by
  have hmf := makeF
  have hah := ahead_swap
  have HD : Hid (decide (S.f (x, y, z) = W) = true) := Lib.hid (by simpa using heq)
  have HG := Lib.hid hg
  have HWF := Lib.hid hwf
  have HLE := Lib.hid fun (v : World) (hv : Below w0.heap.size w0 v) => lead_c X 0 false v hX (hg.keep' hv)
  have hqi : InU (wordI false (slotI X) S.ce) := wordI_in _ _ _
  have hto := fun (v : World) (hv : Below w0.heap.size w0 v) (hb : Blk 0 v S.c (crv S.ck S.cs S.cb S.ch S.cl S.ce S.cr S.hs 0 S.q)) => to_c (slotI X) 0 (hg.keep' hv) hb
  obtain ⟨s, hs⟩ : ∃ s, slotI X = s := ⟨_, rfl⟩
  rw [hs] at hqi ⊢
  simp only [hs] at HLE hto
  clear hs
  obtain ⟨q, hq⟩ : ∃ q, wordI false s S.ce = q := ⟨_, rfl⟩
  rw [hq] at hqi ⊢
  simp only [hq] at hto
  have HQI := Lib.hid hqi
  have HTO := Lib.hid hto
  clear hq hqi hto heq hwf hX hg
  go_enter Tryz.func293, Tryz.ntmps293
  go_wp2_with fail
  refine OrdF.wp_float [?_, ?_, ?_, ?_, ?_, ?_, ?_, ?_, ?_, ?_, OrdF.Ptr, ?_] [11] 10 (fun v => Below w0.heap.size w0 v ∧ Blk 0 v a (laneC S.c lv key vs nx 0 x y z W C X wd pf pv) ∧ Blk 0 v S.c (crv S.ck S.cs S.cb S.ch S.cl S.ce S.cr S.hs 0 S.q)) (OrdF.AF w0 [.int .u64 0, .int .i64 0, .bool false] (OrdF.Sta [fun N zs => N = boxI a (laneC S.c lv key vs nx 0 x y z W C X wd pf pv) :: LT S R ∧ zs = [.int .u64 0, .int .i64 0, .bool false], fun N zs => N = boxI a (laneC S.c lv key vs nx 0 x y z W C X wd pf pv) :: LT S R ∧ zs = [.int .u64 q, .int .i64 0, .bool false]])) (by kernel_rfl) (by kernel_rfl) (by kernel_rfl) ⟨hE.drew.below, hE.drew.get 0 rfl, hE.drew.get 1 rfl⟩ ⟨_, _, ⟨_, rfl, rfl, rfl⟩, .inl ⟨rfl, rfl, hE.drew⟩⟩ (fun hT => ?_)
  rotate_left 11
  have hT9 := Lib.hid hT
  clear hT
  repeat (first
    | (focus (refine OrdF.in_value (v := ?_) hT9.out (by decide) (by decide) ?_ (by rfl) ?_ ?_; rotate_left 2; (focus (intro w5 hS; have r := hS.2.1.rule; unfold laneC at r; go_simp <;> with_reducible rfl)); rotate_right; (focus rfl); (try simp only [Act.put, List.setIfInBounds_toArray, List.set_cons_zero, List.set_cons_succ])))
    | (focus (refine OrdF.in_off hT9.out (by decide) (by decide) ?_ (by rfl) ?_; (focus rfl); (try simp only [Act.put, List.setIfInBounds_toArray, List.set_cons_zero, List.set_cons_succ]))))
  focus (refine OrdF.in_call (v := .agg #[.int .i64 s, .int .i64 0]) (f := ?_) (args := ?_) hT9.out (by decide) (by decide) ?_ (by rfl) ?_ ?_ ?_; rotate_left 2; (focus rfl); (focus (intro w5 hS; skip; go_simp; constructor <;> with_reducible rfl)); (focus (intro w5 hS; refine (HLE.out _ hS.1).mono ?_; rintro e w6 ⟨rfl, hb6⟩; exact ⟨rfl, ⟨hS.1.trans (hb6.mono hS.1.size), hS.2.1.under hb6, hS.2.2.under hb6⟩, fun _ _ h => AF_over h hb6⟩)); (try simp only [Act.put, List.setIfInBounds_toArray, List.set_cons_zero, List.set_cons_succ]))
  focus (refine OrdF.in_call (v := .agg #[.int .u64 q, .int .i64 0, .bool false]) (f := ?_) (args := ?_) hT9.out (by decide) (by decide) ?_ (by rfl) ?_ ?_ ?_; rotate_left 2; (focus rfl); (focus (intro w5 hS; skip; go_simp; constructor <;> with_reducible rfl)); (focus (intro w5 hS; refine (HTO.out _ hS.1 hS.2.2).mono ?_; rintro e w6 ⟨rfl, hb6⟩; exact ⟨rfl, ⟨hS.1.trans (hb6.mono hS.1.size), hS.2.1.under hb6, hS.2.2.under hb6⟩, fun _ _ h => AF_over h hb6⟩)); (try simp only [Act.put, List.setIfInBounds_toArray, List.set_cons_zero, List.set_cons_succ]))
  refine OrdF.in_float OrdF.Ptr (.pointer (some ⟨0, 0, none⟩)) ⟨0, rfl⟩ hT9.out rfl (by decide) ?_ (by rfl) ?_ ?_
  · rfl
  · intro w5 κs5 hC5 hA5
    go_simp
    simp only [Ord3.Lands]
    exact ⟨⟨_, rfl⟩, ⟨hC5.1.alloc hC5.1.size _, hC5.2.1.more _, hC5.2.2.more _⟩, hA5.up _⟩
  rintro _ ⟨V, rfl⟩
  (try simp only [Act.put, List.setIfInBounds_toArray, List.set_cons_zero, List.set_cons_succ])
  refine OrdF.in_turn_late (by kernel_rfl) (by decide) (by decide) (fun u => u = undef) (undef) rfl hT9.out rfl (by decide) (by rfl) ?_ (.inl rfl) (by rfl) ?_ ?_
  · rfl
  · rintro w5 hC5 ⟨M5, z5, ⟨P5, hP5, hM5⟩, ⟨hn5, _⟩ | ⟨n5, hn5, hE5⟩⟩
    · cases hn5
    cases hn5
    cases hP5
    obtain ⟨rfl, rfl⟩ := hM5
    have r := hE5.rule 0 rfl; have ff := hE5.thaw 0 rfl; have f0 := ff 0 (by simp); have f1 := ff 1 (by simp); have f2 := ff 2 (by simp); clear ff
    go_simp
    have hE6 := hE5.put3 0 rfl (.int .u64 q) (.int .i64 0) (.bool false); exact ⟨rfl, ⟨hE6.below, hE6.get 1 rfl, hE6.get 2 rfl⟩, _, _, ⟨_, rfl, rfl, rfl⟩, .inr ⟨_, rfl, hE6⟩⟩
  rintro _ rfl
  (try simp only [Act.put, List.setIfInBounds_toArray, List.set_cons_zero, List.set_cons_succ])
  refine OrdF.in_nil rfl (by decide) (by decide) ?_
  rintro w5 hC5 ⟨M5, z5, ⟨P5, hP5, hM5⟩, ⟨hn5, _⟩ | ⟨n5, hn5, hE5⟩⟩
  · cases hn5
  cases hn5
  cases hP5
  obtain ⟨rfl, rfl⟩ := hM5
  clear hT9
  clear HTO HLE hE
  go_wp2_with fail
  refine Ord.wp_chain [13] (fun v => Blk 0 v a (laneC S.c lv key vs nx 0 x y z W C X wd pf pv) ∧ Blk 0 v V [.int .u64 q, .int .i64 0, .bool false]) (fun k w' => ∃ G5, Env w0 (boxI V [.int .u64 q, .int .i64 0, .bool false] :: boxI a (laneC S.c lv key vs nx 0 x y z W C X wd pf pv) :: LT (if k = 0 then S else { S with G := G5, f := swf S.f (x, y, z) W q, qc := swq S.qc true, m := S.m + 1 }) R) w') (by kernel_rfl) (by kernel_rfl) (by kernel_rfl) ⟨hE5.drew.get 1 rfl, hE5.drew.get 0 rfl⟩ ⟨S.G, hE5.drew⟩ (fun hT => ?_)
  have hT9 := Lib.hid hT
  clear hT
  repeat (first
    | (refine Ord.ch_value (v := ?_) hT9.out (by decide) (by rfl) ?_ ?_; rotate_left; (focus (intro w5 hS; have r := hS.1.rule; have r1 := hS.2.rule; unfold laneC at r; go_simp <;> with_reducible rfl)); (try simp only [Act.put, List.setIfInBounds_toArray, List.set_cons_zero, List.set_cons_succ]))
    | (refine Ord.ch_off hT9.out (by decide) (by rfl) ?_; (try simp only [Act.put, List.setIfInBounds_toArray, List.set_cons_zero, List.set_cons_succ])))
  refine Ord.ch_turn (v := .bool true) 0 hT9.out rfl (by decide) (Or.inl rfl) (by rfl) ?_ ?_
  · rintro w5 hC5 ⟨G5, hA5⟩
    simp only [if_true] at hA5
    go_simp
    rw [method_swap]
    simp only [Result.andThen_ok]
    go_simp
    simp only [Ord.LandsIn]
    have hsw := swap_w x y z 0 W 0 q 0 false false HWF.out HQI.out hm 4 5 (by decide) hA5 rfl rfl
    rw [HD.out] at hsw
    refine hsw.mono ?_
    rintro e w6 ⟨rfl, G6, hE6⟩
    exact ⟨rfl, ⟨hE6.get 1 rfl, hE6.get 0 rfl⟩, G6, hE6⟩
  (try simp only [Act.put, List.setIfInBounds_toArray, List.set_cons_zero, List.set_cons_succ])
  repeat (first
    | (refine Ord.ch_value (v := ?_) hT9.out (by decide) (by rfl) ?_ ?_; rotate_left; (focus (intro w5 hS; skip; go_simp <;> with_reducible rfl)); (try simp only [Act.put, List.setIfInBounds_toArray, List.set_cons_zero, List.set_cons_succ]))
    | (refine Ord.ch_off hT9.out (by decide) (by rfl) ?_; (try simp only [Act.put, List.setIfInBounds_toArray, List.set_cons_zero, List.set_cons_succ])))
  refine Ord.InText.nil fun w5 hS => ?_
  clear hT9
  obtain ⟨hC9, hA9⟩ := Ord.chain_end hS
  clear hS
  obtain ⟨G9, hA9⟩ := hA9
  clear hC9 hE5
  simp only [List.length_cons, List.length_nil, Nat.zero_add, Nat.one_ne_zero, if_false] at hA9

  have rV := hA9.rule 0 rfl
  go_wp2_with fail
  refine (come_l q HQI.out HG.out (hA9.sub (.cons _ (List.Sublist.refl _)))).mono ?_
  rintro o w7 ⟨rfl, nx, hnx, hE7⟩
  go_wp2_with fail
  go_ret
  exact ⟨rfl, nx, G9, hnx, hE7⟩

end
end Go.Proofs.YtnnjanaclgjneaaGreatDoor

/- Lanes: the contract of Step, over the model. -/
namespace Go.Proofs.YtnnjanaclgjneaaGreatDoor
open Go.RowKit Go.Maps
set_option maxRecDepth 100000

section
variable {w0 w : World} {R : List Item} {a b1 b2 : Nat} {S : ST} {lv key : Int} {vs : Bool} {nx : Value} {x y z W C X wd : Int} {pf : Bool} {pv : Int}
set_option maxHeartbeats 3200000 in
theorem val1No_l (T : Value) (hok : okB (S.f (1, 0, 0)) S.ce = false) (hE : Env w0 (boxI a (laneC S.c lv key vs nx 0 x y z W C X wd pf pv) :: boxI b1 [.pointer (some ⟨a, 0, none⟩)] :: boxI b2 [T] :: LT S R) w) :
    Calls Tryz.prog 261 #[.iface 26 (.pointer (some ⟨S.p, 0, none⟩)), .pointer (some ⟨b1, 0, none⟩), .pointer (some ⟨b2, 0, none⟩)] w fun o w' => o = .returned (.int .i64 2) ∧ ∃ nx, Env w0 (boxI a (laneC S.c lv key vs nx 2 x y z W C X wd pf pv) :: boxI b1 [.pointer (some ⟨a, 0, none⟩)] :: boxI b2 [T] :: LT { S with qc := { S.qc with l := wrap64 (S.qc.l + 1) }, cr := wrap64 (S.cr + 1) } R) w' := by
  have hv := valid_w _ (rfl : S.f (1, 0, 0) = S.f (1, 0, 0)) 3 5 6 (by decide) (by decide) hE rfl rfl rfl
  rw [hok] at hv
  simp only [List.set_cons_succ, List.set_cons_zero, Bool.false_eq_true, if_false] at hv
  have HV := Lib.hid hv
  clear hv hok
  have r0 := hE.rule 1 rfl
  have r := hE.rule 0 rfl
  unfold laneC at r
  go_enter Tryz.func261, Tryz.ntmps261
  go_wp2_with fail
  refine HV.out.mono ?_
  rintro o w1 ⟨rfl, hE1⟩
  replace hE1 : Env w0 (boxI a (laneC S.c lv key vs nx 0 x y z W C X wd pf pv) :: boxI b1 [.pointer (some ⟨a, 0, none⟩)] :: boxI b2 [T] :: LT { S with qc := { S.qc with l := wrap64 (S.qc.l + 1) }, cr := wrap64 (S.cr + 1) } R) w1 := hE1
  clear HV hE r0 r
  have r0 := hE1.rule 1 rfl
  go_wp2_with fail
  refine (end_l 0 2 (by simp [laneC]) hE1 rfl).mono ?_
  rintro o w6 ⟨rfl, nx, hE6⟩
  go_wp2_with fail
  go_ret
  exact ⟨rfl, nx, hE6⟩
set_option maxHeartbeats 3200000 in
theorem val1Yes_l (F : Nat) (hx : ∀ (ar : Array Value) (v : World), (callFunc F ar).run Tryz.prog v = .ok (.enter F ar) v) (hok : okB (S.f (1, 0, 0)) S.ce = true) (hE : Env w0 (boxI a (laneC S.c lv key vs nx 0 x y z W C X wd pf pv) :: boxI b1 [.pointer (some ⟨a, 0, none⟩)] :: boxI b2 [mvL F a] :: LT S R) w) (s : Int) (Y : World → Prop)
    (hc : ∀ v, Env w0 (boxI a (laneC S.c lv key vs nx 0 x y z W C X wd pf pv) :: boxI b1 [.pointer (some ⟨a, 0, none⟩)] :: boxI b2 [mvL F a] :: LT { S with qc := { S.qc with l := wrap64 (S.qc.l + 1) } } R) v → Calls Tryz.prog F #[.pointer (some ⟨a, 0, none⟩)] v fun o w' => o = .returned (.int .i64 s) ∧ Y w') :
    Calls Tryz.prog 261 #[.iface 26 (.pointer (some ⟨S.p, 0, none⟩)), .pointer (some ⟨b1, 0, none⟩), .pointer (some ⟨b2, 0, none⟩)] w fun o w' => o = .returned (.int .i64 s) ∧ Y w' := by
  have hv := valid_w _ (rfl : S.f (1, 0, 0) = S.f (1, 0, 0)) 3 5 6 (by decide) (by decide) hE rfl rfl rfl
  rw [hok] at hv
  simp only [List.set_cons_succ, List.set_cons_zero, if_true] at hv
  have HV := Lib.hid hv
  have HC := Lib.hid hc
  clear hv hok hc
  have r0 := hE.rule 1 rfl
  have r := hE.rule 0 rfl
  unfold laneC at r
  go_enter Tryz.func261, Tryz.ntmps261
  go_wp2_with fail
  refine HV.out.mono ?_
  rintro o w1 ⟨rfl, hE1⟩
  replace hE1 : Env w0 (boxI a (laneC S.c lv key vs nx 0 x y z W C X wd pf pv) :: boxI b1 [.pointer (some ⟨a, 0, none⟩)] :: boxI b2 [mvL F a] :: LT { S with qc := { S.qc with l := wrap64 (S.qc.l + 1) } } R) w1 := hE1
  clear HV hE r0 r
  have r0 := hE1.rule 2 rfl
  unfold mvL at r0
  go_wp2_with fail
  refine (HC.out _ hE1).mono ?_
  rintro o w6 ⟨rfl, hY⟩
  go_wp2_with fail
  go_ret
  exact ⟨rfl, hY⟩
end

/-- A lane's cells, by the model. -/
def laneV (c : Nat) (lv key : Int) (vs : Bool) (nx : Value) (st wd : Int) (pf : Bool) (pv : Int) (L : Lm) : List Value := laneC c lv key vs nx st L.p.1 L.p.2.1 L.p.2.2 L.W L.C L.X wd pf pv
/-- Which function is the next row, where it is no validate; which stands behind a validate. -/
def fnL (pc : Nat) : Nat := if pc = 0 then 216 else if pc = 3 then 272 else if pc = 5 then 293 else if pc = 6 then 294 else 301
def bhL (pc : Nat) : Nat := if pc = 2 then 243 else if pc = 4 then 282 else if pc = 7 then 298 else 304
theorem enters_fnL (pc : Nat) (ar : Array Value) (v : World) : (callFunc (fnL pc) ar).run Tryz.prog v = .ok (.enter (fnL pc) ar) v := by
  unfold fnL
  repeat' split
  all_goals kernel_rfl
theorem enters_bhL (pc : Nat) (ar : Array Value) (v : World) : (callFunc (bhL pc) ar).run Tryz.prog v = .ok (.enter (bhL pc) ar) v := by
  unfold bhL
  repeat' split
  all_goals kernel_rfl
/-- What is next. -/
def NxOk (a pc : Nat) (nx : Value) (B1 B2 : Item) : Prop := (isVal pc = false → nx = mvL (fnL pc) a) ∧ (isVal pc = true → ∃ b1 b2, nx = cvL b1 b2 ∧ B1 = boxI b1 [.pointer (some ⟨a, 0, none⟩)] ∧ B2 = boxI b2 [mvL (bhL pc) a])
def pfS (s : Int) (L : Lm) : Bool := if s = 1 then L.fd else false
def pvS (s : Int) (L : Lm) : Int := if s = 1 then L.V else 0
/-- How a lane stands, and all that it needs. -/
def LaneR (w0 : World) (R : List Item) (a : Nat) (lv key : Int) (vs : Bool) (S : ST) (s : Int) (L : Lm) (w : World) : Prop :=
  ∃ nx wd B1 B2, (s = 0 → NxOk a L.pc nx B1 B2 ∧ (L.pc = 7 → wd = L.K) ∧ (L.pc = 9 → wd = L.V)) ∧ Env w0 (boxI a (laneV S.c lv key vs nx s wd (pfS s L) (pvS s L) L) :: B1 :: B2 :: LT S R) w
/-- The world's counts behind a step. -/
def laneQ (L : Lm) (f : Plc → Int) (q : Cnt) : Cnt := if L.pc = 5 then swq q (decide (f L.p = L.W)) else { q with l := wrap64 (q.l + 1) }
/-- All of a thread and its world behind a lane's step. -/
def laneS (lv key : Int) (vs : Bool) (S : ST) (L : Lm) (G : Nat → Prop) : ST := { S with G := G, f := (laneM lv key vs S.ce L S.f).2.2, qc := laneQ L S.f S.qc, m := if L.pc = 5 then S.m + 1 else S.m, cr := rollM S.ce L S.f S.cr }

theorem wf_part {C n : Int} (h : 0 ≤ C ∧ C ≤ 8388607) (hn : 0 ≤ n ∧ n ≤ 2000000) : Wf (5, C, n) := by unfold Wf In64; simp; omega
theorem comeM_cS (L : Lm) (v : Int) : comeM L v = (cS v, { L with W := v, X := 0, C := slotI v, pc := 3 }) := rfl

section
variable {w0 w : World} {R : List Item} {a : Nat} {S : ST} {lv key : Int} {vs : Bool} {L : Lm}
/-- What stands behind a come. -/
theorem LaneR.came {nx : Value} {v wd : Int} {B1 B2 : Item} {L' : Lm} (hl : L' = { L with W := v, X := 0, C := slotI v, pc := 3 }) (hfd : L.fd = false) (hv : L.V = 0) (hnx : slotI v ≠ 0 → nx = mvL 272 a) (hE : Env w0 (boxI a (laneC S.c lv key vs nx (cS v) L.p.1 L.p.2.1 L.p.2.2 v (slotI v) 0 wd false 0) :: B1 :: B2 :: LT S R) w) : LaneR w0 R a lv key vs S (cS v) L' w := by
  subst hl
  refine ⟨nx, wd, B1, B2, fun hs => ⟨⟨fun _ => hnx ?_, fun h => absurd h (by simp [isVal])⟩, fun h => absurd h (by simp), fun h => absurd h (by simp)⟩, ?_⟩
  · intro h
    rw [cS, if_pos h] at hs
    exact absurd hs (by decide)
  · have h1 : pfS (cS v) { L with W := v, X := 0, C := slotI v, pc := 3 } = false := by unfold pfS; split; exact hfd; rfl
    have h2 : pvS (cS v) { L with W := v, X := 0, C := slotI v, pc := 3 } = 0 := by unfold pvS; split; exact hv; rfl
    rw [h1, h2]
    exact hE
end
end Go.Proofs.YtnnjanaclgjneaaGreatDoor

/- The reference's words in a row: what they are in memory; their contracts. -/
namespace Go.Proofs.YtnnjanaclgjneaaGreatDoor
open Go.RowKit Go.Maps
set_option maxRecDepth 100000

abbrev OneR := Plc × Int
def encO (e : OneR) : List Value := [.int .i64 e.1.1, .int .i64 e.1.2.1, .int .i64 e.1.2.2, .int .u64 e.2]
def flatO (l : List OneR) : List Value := l.flatMap encO
def getL : List OneR → Plc → Int
  | [], _ => 0
  | e :: l, x => if e.1 = x then e.2 else getL l x
def setL : List OneR → Plc → Int → List OneR
  | [], x, v => [(x, v)]
  | e :: l, x, v => if e.1 = x then (e.1, v) :: l else e :: setL l x v
theorem getL_set (x : Plc) (v : Int) : ∀ l : List OneR, getL (setL l x v) = upd (getL l) x v
  | [] => by funext y; simp only [setL, getL, upd]; split <;> split <;> simp_all
  | e :: l => by
    funext y
    by_cases h : e.1 = x
    · simp only [setL, if_pos h, getL, upd]
      by_cases hy : y = x
      · simp [hy, h]
      · have : ¬ e.1 = y := fun e' => hy (by rw [← e', h])
        simp [hy, this]
    · simp only [setL, if_neg h, getL, getL_set x v l]
      by_cases hy : e.1 = y
      · have : ¬ y = x := fun e' => h (by rw [hy, e'])
        simp [hy, upd, this]
      · simp [hy, upd]
theorem setL_keys (x : Plc) (v : Int) : ∀ l : List OneR, (setL l x v).map (·.1) = if x ∈ l.map (·.1) then l.map (·.1) else l.map (·.1) ++ [x]
  | [] => by simp [setL]
  | e :: l => by
    by_cases h : e.1 = x
    · simp [setL, h]
    · have ih := setL_keys x v l
      have h' : ¬ x = e.1 := fun e' => h e'.symm
      simp only [setL, if_neg h, List.map_cons, ih, List.mem_cons, h', false_or]
      split <;> simp
theorem setL_nodup {x : Plc} {v : Int} {l : List OneR} (h : (l.map (·.1)).Nodup) : ((setL l x v).map (·.1)).Nodup := by
  rw [setL_keys]
  split
  · exact h
  · rename_i hx
    exact List.nodup_append.2 ⟨h, by simp, fun a ha b hb e => hx (by simp at hb; rw [← hb, ← e]; exact ha)⟩
theorem setL_length (x : Plc) (v : Int) (l : List OneR) : (setL l x v).length ≤ l.length + 1 := by
  have := congrArg List.length (setL_keys x v l)
  simp only [List.length_map] at this
  rw [this]
  split <;> simp
theorem flatO_length (l : List OneR) : (flatO l).length = l.length * 4 := by
  induction l with
  | nil => rfl
  | cons x l ih => simp [flatO, encO] at *; omega
def dO : OneR := ((0, 0, 0), 0)
theorem flatO_get (l : List OneR) : ∀ (j c : Nat), j < l.length → c < 4 → (flatO l)[j * 4 + c]? = (encO (l.getD j dO))[c]? := by
  induction l with
  | nil => intro j c h; simp at h
  | cons x l ih =>
    intro j c hj hc
    have e : flatO (x :: l) = encO x ++ flatO l := by simp [flatO]
    cases j with
    | zero => rw [e, List.getElem?_append_left (by simp [encO]; omega)]; simp
    | succ j =>
      rw [e, List.getElem?_append_right (by simp [encO]; omega)]
      have := ih j c (by simpa using hj) hc
      have e2 : (j + 1) * 4 + c - (encO x).length = j * 4 + c := by simp [encO]; omega
      rw [e2, this]
      simp

/-- Block u is the reference's cells: the row l. -/
def IsU (w : World) (u : Nat) (F : Nat → Prop) (l : List OneR) : Prop :=
  (l.map (·.1)).Nodup ∧ ∃ v, Blk 0 w u [v] ∧ w.ownsRow 0 208 4 v l.length (flatO l) ∧ v.ownBlock ≠ some u ∧ ∀ k, F k ↔ (k = u ∨ v.ownBlock = some k)
theorem IsU.nodup {w : World} {u : Nat} {F : Nat → Prop} {l : List OneR} (h : IsU w u F l) : (l.map (·.1)).Nodup := h.1
theorem IsU.lt {w : World} {u : Nat} {F : Nat → Prop} {l : List OneR} (h : IsU w u F l) : ∀ k, F k → k < w.heap.size := by
  obtain ⟨-, v, hb, ho, hne, hF⟩ := h
  intro k hk
  rcases (hF k).1 hk with rfl | e
  · exact hb.1
  · exact ownsRow_lt ho k e
def refI (u : Nat) (F : Nat → Prop) (l : List OneR) : Item where
  F := F
  says := fun w => IsU w u F l
  loc := fun w1 w2 h hk hs => by
    obtain ⟨hnd, v, hb, ho, hne, hF⟩ := h
    exact ⟨hnd, v, hb.kept hs (hk u ((hF u).2 (.inl rfl))), ownsRow_kept ho fun k e => hk k ((hF k).2 (.inr e)), hne, hF⟩
/-- The slice, written out: what its cells hold. -/
theorem IsU.full {w : World} {u : Nat} {F : Nat → Prop} {l : List OneR} (h : IsU w u F l) : ∃ A cap, Blk 0 w u [Value.slice A l.length cap] ∧ w.ownsRow 0 208 4 (Value.slice A l.length cap) l.length (flatO l) ∧ (Value.slice A l.length cap).ownBlock ≠ some u ∧ ∀ k, F k ↔ (k = u ∨ (Value.slice A l.length cap).ownBlock = some k) := by
  obtain ⟨-, v, hb, ho, hne, hF⟩ := h
  rcases ho.2 with ⟨hv, h0⟩ | ⟨g, cap, cur, hv, rest⟩
  · have hl0 : l = [] := List.eq_nil_of_length_eq_zero h0
    subst hl0
    subst hv
    exact ⟨none, 0, hb, ho, hne, hF⟩
  · subst hv
    exact ⟨some ⟨g, 0, none⟩, cap, hb, ho, hne, hF⟩
theorem ownsRow_words {w : World} {l : List OneR} {A : Option Addr} {cap : Nat} (ho : w.ownsRow 0 208 4 (Value.slice A l.length cap) l.length (flatO l)) :
    l = [] ∨ ∃ g, A = some ⟨g, 0, none⟩ ∧ g < w.heap.size ∧ ∀ j, j < l.length → w.cell? ⟨g, j * 4, none⟩ = some (.int .i64 (l.getD j dO).1.1) ∧ w.cell? ⟨g, j * 4 + 1, none⟩ = some (.int .i64 (l.getD j dO).1.2.1) ∧
      w.cell? ⟨g, j * 4 + 2, none⟩ = some (.int .i64 (l.getD j dO).1.2.2) ∧ w.cell? ⟨g, j * 4 + 3, none⟩ = some (.int .u64 (l.getD j dO).2) := by
  rcases ho.2 with ⟨hv, h0⟩ | ⟨g, cap', cur, hv, _, hg, hn, hc, hcs, htk⟩
  · exact .inl (List.eq_nil_of_length_eq_zero h0)
  · simp only [Value.slice.injEq] at hv
    obtain ⟨rfl, -, rfl⟩ := hv
    refine .inr ⟨g, rfl, (Array.getElem?_eq_some_iff.1 hg).1, fun j hj => ?_⟩
    have each : ∀ c, c < 4 → w.cell? ⟨g, j * 4 + c, none⟩ = (encO (l.getD j dO))[c]? := fun c hc4 => by
      rw [← flatO_get l j c hj hc4, ← htk, List.getElem?_take_of_lt (by omega)]
      simp [World.cell?, hg]
    exact ⟨each 0 (by omega), each 1 (by omega), each 2 (by omega), each 3 (by omega)⟩
theorem IsU.row {w : World} {u : Nat} {F : Nat → Prop} {l : List OneR} (h : IsU w u F l) : ∃ A cap, (∀ i, w.cell? ⟨u, i, none⟩ = [Value.slice A l.length cap][i]?) ∧ u < w.heap.size ∧
    (l = [] ∨ ∃ g, A = some ⟨g, 0, none⟩ ∧ g < w.heap.size ∧ ∀ j, j < l.length → w.cell? ⟨g, j * 4, none⟩ = some (.int .i64 (l.getD j dO).1.1) ∧ w.cell? ⟨g, j * 4 + 1, none⟩ = some (.int .i64 (l.getD j dO).1.2.1) ∧
      w.cell? ⟨g, j * 4 + 2, none⟩ = some (.int .i64 (l.getD j dO).1.2.2) ∧ w.cell? ⟨g, j * 4 + 3, none⟩ = some (.int .u64 (l.getD j dO).2)) := by
  obtain ⟨A, cap, hb, ho, hne, hF⟩ := h.full
  exact ⟨A, cap, hb.rule, hb.1, ownsRow_words ho⟩

set_option maxHeartbeats 1600000 in
theorem refGet_at {u o : Nat} {vs : List Value} {A : Option Addr} {cap : Nat} {l : List OneR} {w : World} (a b d : Int) (hl : l.length ≤ 1000000) (hb : Blk 0 w u vs) (hvo : vs[o]? = some (.slice A l.length cap)) (hown : w.ownsRow 0 208 4 (.slice A l.length cap) l.length (flatO l)) :
    Calls Tryz.prog 88 #[.pointer (some ⟨u, o, none⟩), .agg #[.int .i64 a, .int .i64 b, .int .i64 d]] w fun e w' => e = .returned (.int .u64 (getL l (a, b, d))) ∧ Below w.heap.size w w' := by
  have hrow := ownsRow_words hown
  have r0 : w.cell? ⟨u, o, none⟩ = some (.slice A l.length cap) := by rw [hb.rule o, hvo]
  have hul := hb.1
  have hE := (Fr.start w).push w.heap.size rfl [.int .i64 a, .int .i64 b, .int .i64 d] 105
  have HROW := Lib.hid hrow
  have HR0 := Lib.hid r0
  clear hrow r0 hb hvo hown
  go_enter Tryz.func88, Tryz.ntmps88
  go_wp2_with fail
  go_loopw [5] (fun i wr => ∃ k : Nat, k ≤ l.length ∧ i = .int .i64 k ∧ getL l (a, b, d) = getL (l.drop k) (a, b, d) ∧ Fr w [(w.heap.size, [.int .i64 a, .int .i64 b, .int .i64 d])] wr) (fun i _ => l.length - (intOf i).toNat)
  case atStart => exact ⟨0, by omega, rfl, rfl, hE⟩
  case round =>
    obtain ⟨k, hk, rfl, hg, hEr⟩ := hrel
    clear hE
    have hB : ∀ w', Below w.heap.size w w' → w'.cell? ⟨u, o, none⟩ = some (.slice A l.length cap) := fun w' hb => by rw [hb.cell (p := ⟨u, o, none⟩) hul]; exact HR0.out
    have ru := hB _ hEr.below
    by_cases hlt : k < l.length
    · rcases HROW.out with h0 | ⟨g, rfl, hgl, hc⟩
      · rw [h0] at hlt; simp at hlt
      obtain ⟨c0, c1, c2, c3⟩ := hc k hlt
      have hdrop : l.drop k = l.getD k dO :: l.drop (k + 1) := by
        rw [List.drop_eq_getElem_cons hlt]; simp [hlt]
      rw [hdrop] at hg
      clear hdrop hc
      generalize l.getD k dO = o at *
      obtain ⟨⟨x, y, z⟩, v⟩ := o
      simp only at c0 c1 c2 c3
      have HC : Hid (∀ w', Below w.heap.size w w' → (w'.cell? ⟨g, k * 4, none⟩ = some (.int .i64 x) ∧ w'.cell? ⟨g, k * 4 + 1, none⟩ = some (.int .i64 y) ∧ w'.cell? ⟨g, k * 4 + 2, none⟩ = some (.int .i64 z) ∧ w'.cell? ⟨g, k * 4 + 3, none⟩ = some (.int .u64 v))) := Lib.hid fun w' hb => by
        refine ⟨?_, ?_, ?_, ?_⟩
        · rw [hb.cell (p := ⟨g, k * 4, none⟩) hgl]; exact c0
        · rw [hb.cell (p := ⟨g, k * 4 + 1, none⟩) hgl]; exact c1
        · rw [hb.cell (p := ⟨g, k * 4 + 2, none⟩) hgl]; exact c2
        · rw [hb.cell (p := ⟨g, k * 4 + 3, none⟩) hgl]; exact c3
      clear c0 c1 c2 c3
      have HG := Lib.hid hg
      have HB := Lib.hid hB
      clear hg hB
      go_wp2_with fail
      refine Ord.wp_chain [] (fun w' => Fr w [(w.heap.size, [.int .i64 a, .int .i64 b, .int .i64 d])] w') (fun _ _ => True) (by kernel_rfl) (by kernel_rfl) (by kernel_rfl) hEr.drew trivial (fun hT => ?_)
      have hT9 := Lib.hid hT
      clear hT
      repeat (first
        | (refine Ord.ch_value (v := ?_) hT9.out (by decide) (by rfl) ?_ ?_; rotate_left; (focus (intro w5 hS; have r := hS.rule 0 rfl; have r1 := HB.out _ hS.below; obtain ⟨c0, c1, c2, c3⟩ := HC.out _ hS.below; go_simp <;> with_reducible rfl)); (try simp only [Act.put, List.setIfInBounds_toArray, List.set_cons_zero, List.set_cons_succ]))
        | (refine Ord.ch_off hT9.out (by decide) (by rfl) ?_; (try simp only [Act.put, List.setIfInBounds_toArray, List.set_cons_zero, List.set_cons_succ])))
      refine Ord.ch_value (v := .bool (decide ((x, y, z) = (a, b, d)))) hT9.out (by decide) (by rfl) ?_ ?_
      · intro w5 hS
        clear hS HC HB HG HROW HR0
        by_cases e1 : x = a <;> by_cases e2 : y = b <;> by_cases e3 : z = d <;> simp [e1, e2, e3] <;> go_simp
      (try simp only [Act.put, List.setIfInBounds_toArray, List.set_cons_zero, List.set_cons_succ])
      refine Ord.InText.nil fun w5 hS => ?_
      clear hT9
      obtain ⟨hEr, hC⟩ := Ord.chain_end hS
      clear hS
      clear hC
      have r := hEr.rule 0 rfl
      have r1 := HB.out _ hEr.below
      obtain ⟨c0, c1, c2, c3⟩ := HC.out _ hEr.below
      by_cases hp : (x, y, z) = (a, b, d)
      · rw [decide_eq_true hp]
        go_wp2_with fail
        go_ret
        exact ⟨by rw [HG.out]; simp [getL, hp], hEr.below⟩
      · rw [decide_eq_false hp]
        go_wp2_with fail
        exact ⟨⟨k + 1, by omega, rfl, by rw [HG.out]; simp [getL, hp], hEr⟩, by simp [intOf]; omega⟩
    · go_wp2_with fail
      have : k = l.length := by omega
      subst this
      go_ret
      exact ⟨by rw [hg]; simp [getL], hEr.below⟩
theorem refGet_any {u : Nat} {F : Nat → Prop} {l : List OneR} {w : World} (a b d : Int) (hl : l.length ≤ 1000000) (hU : IsU w u F l) :
    Calls Tryz.prog 88 #[.pointer (some ⟨u, 0, none⟩), .agg #[.int .i64 a, .int .i64 b, .int .i64 d]] w fun e w' => e = .returned (.int .u64 (getL l (a, b, d))) ∧ Below w.heap.size w w' := by
  obtain ⟨A, cap, hb, ho, _, _⟩ := hU.full
  exact refGet_at a b d hl hb rfl ho
end Go.Proofs.YtnnjanaclgjneaaGreatDoor

/- The reference's words in a row: Set. -/
namespace Go.Proofs.YtnnjanaclgjneaaGreatDoor
open Go.RowKit Go.Maps
set_option maxRecDepth 100000

theorem infoOne : (Tryz.prog.info? 208).map (fun i => (i.zero, i.size, i.bytes)) = some (some (.agg #[.int .i64 0, .int .i64 0, .int .i64 0, .int .u64 0]), 4, 32) := by kernel_rfl
theorem flatO_append (l m : List OneR) : flatO (l ++ m) = flatO l ++ flatO m := by simp [flatO]
theorem flatO_put (l : List OneR) (k : Nat) (hk : k < l.length) (p : Plc) (v0 v : Int) (h : l.getD k dO = (p, v0)) : flatO (l.take k ++ (p, v) :: l.drop (k + 1)) = (flatO l).set (k * 4 + 3) (.int .u64 v) := by
  have e : l = l.take k ++ (p, v0) :: l.drop (k + 1) := by
    conv => lhs; rw [← List.take_append_drop k l, List.drop_eq_getElem_cons hk]
    rw [show l[k] = (p, v0) by simpa [hk] using h]
  conv => rhs; rw [e]
  have hlen : (flatO (l.take k)).length = k * 4 := by rw [flatO_length]; simp; omega
  rw [flatO_append, flatO_append, List.set_append_right _ _ (by omega), hlen]
  congr 1
  rw [show k * 4 + 3 - k * 4 = 3 by omega]
  simp [flatO, encO]
theorem setL_skip {x : Plc} {v : Int} {l : List OneR} {k : Nat} (hk : k < l.length) {p : Plc} {v0 : Int} (h : l.getD k dO = (p, v0)) (hp : ¬ p = x) (hs : setL l x v = l.take k ++ setL (l.drop k) x v) : setL l x v = l.take (k + 1) ++ setL (l.drop (k + 1)) x v := by
  have e : l[k] = (p, v0) := by simpa [hk] using h
  rw [hs, List.drop_eq_getElem_cons hk, e, setL, if_neg hp, List.take_succ_eq_append_getElem hk, e]
  simp
theorem setL_hit {x : Plc} {v : Int} {l : List OneR} {k : Nat} (hk : k < l.length) {v0 : Int} (h : l.getD k dO = (x, v0)) (hs : setL l x v = l.take k ++ setL (l.drop k) x v) : setL l x v = l.take k ++ (x, v) :: l.drop (k + 1) := by
  have e : l[k] = (x, v0) := by simpa [hk] using h
  rw [hs, List.drop_eq_getElem_cons hk, e, setL, if_pos rfl]
/-- One of the words written: nothing but the row turns. -/
theorem row_wrote {w w' : World} {l : List OneR} {g cap k : Nat} {x : Plc} {v0 v : Int} (ho : w.ownsRow 0 208 4 (Value.slice (some ⟨g, 0, none⟩) l.length cap) l.length (flatO l))
    (hk : k < l.length) (h : l.getD k dO = (x, v0)) (hB : Below w.heap.size w w') :
    (w'.setCell ⟨g, k * 4 + 3, none⟩ (.int .u64 v)).ownsRow 0 208 4 (Value.slice (some ⟨g, 0, none⟩) (l.take k ++ (x, v) :: l.drop (k + 1)).length cap) (l.take k ++ (x, v) :: l.drop (k + 1)).length (flatO (l.take k ++ (x, v) :: l.drop (k + 1))) ∧ Turn (fun j => j = g) w (w'.setCell ⟨g, k * 4 + 3, none⟩ (.int .u64 v)) := by
  have hgl := (ho.lt g rfl).2
  have ho' : w'.ownsRow 0 208 4 (Value.slice (some ⟨g, 0, none⟩) l.length cap) l.length (flatO l) := ownsRow_kept ho fun k e => hB.block k (by cases e; exact hgl)
  have hlen : (l.take k ++ (x, v) :: l.drop (k + 1)).length = l.length := by simp; omega
  refine ⟨?_, (Turn.of_below hB : Turn (fun j => j = g) w w').setCell (p := ⟨g, k * 4 + 3, none⟩) (fun _ => rfl) _⟩
  rw [hlen, flatO_put l k hk x v0 v h]
  exact (ho'.stored _ _).1

set_option maxHeartbeats 3200000 in
theorem refSet_at {u o : Nat} {vs : List Value} {A : Option Addr} {cap : Nat} {l : List OneR} {w : World} (a b d v : Int) (hl : l.length ≤ 1000000) (hblk : Blk 0 w u vs) (hvo : vs[o]? = some (.slice A l.length cap)) (hown : w.ownsRow 0 208 4 (Value.slice A l.length cap) l.length (flatO l)) (hsep : (Value.slice A l.length cap).ownBlock ≠ some u) :
    Calls Tryz.prog 60 #[.pointer (some ⟨u, o, none⟩), .agg #[.int .i64 a, .int .i64 b, .int .i64 d], .int .u64 v] w fun e w' => e = .returned (.tuple #[]) ∧ ∃ A' cap', Blk 0 w' u (vs.set o (.slice A' (setL l (a, b, d) v).length cap')) ∧ w'.ownsRow 0 208 4 (.slice A' (setL l (a, b, d) v).length cap') (setL l (a, b, d) v).length (flatO (setL l (a, b, d) v)) ∧
      Turn (fun k => k = u ∨ (Value.slice A l.length cap).ownBlock = some k) w w' ∧ ∀ k, (Value.slice A' (setL l (a, b, d) v).length cap').ownBlock = some k → (Value.slice A l.length cap).ownBlock = some k ∨ w.heap.size ≤ k := by
  have hrow := ownsRow_words hown
  have hol : o < vs.length := (List.getElem?_eq_some_iff.1 hvo).1
  have r0 : w.cell? ⟨u, o, none⟩ = some (.slice A l.length cap) := by rw [hblk.rule o, hvo]
  have hul := hblk.1
  have hE := (Fr.start w).push w.heap.size rfl [.int .i64 a, .int .i64 b, .int .i64 d] 105
  have HROW := Lib.hid hrow
  have HR0 := Lib.hid r0
  have HALL := Lib.hid (And.intro hblk (And.intro hown (And.intro hsep hvo)))
  clear hrow r0 hblk hown hsep hvo
  obtain ⟨i0, hi, hz0, hz1, hz2⟩ := info_parts infoOne
  go_enter Tryz.func60, Tryz.ntmps60
  go_wp2_with fail
  go_loopw [6] (fun i wr => ∃ k : Nat, k ≤ l.length ∧ i = .int .i64 k ∧ setL l (a, b, d) v = l.take k ++ setL (l.drop k) (a, b, d) v ∧ Fr w [(w.heap.size, [.int .i64 a, .int .i64 b, .int .i64 d])] wr) (fun i _ => l.length - (intOf i).toNat)
  case atStart => exact ⟨0, by omega, rfl, rfl, hE⟩
  case round =>
    obtain ⟨k, hk, rfl, hg, hEr⟩ := hrel
    clear hE
    have hB : ∀ w', Below w.heap.size w w' → w'.cell? ⟨u, o, none⟩ = some (.slice A l.length cap) := fun w' hb => by rw [hb.cell (p := ⟨u, o, none⟩) hul]; exact HR0.out
    have ru := hB _ hEr.below
    have HG := Lib.hid hg
    have HB := Lib.hid hB
    clear hg hB
    by_cases hlt : k < l.length
    · rcases HROW.out with h0 | ⟨g, rfl, hgl, hc⟩
      · rw [h0] at hlt; simp at hlt
      obtain ⟨c0, c1, c2, c3⟩ := hc k hlt
      clear hc
      have hgk := Lib.hid (rfl : l.getD k dO = l.getD k dO)
      generalize ho : l.getD k dO = o at c0 c1 c2 c3
      obtain ⟨⟨x, y, z⟩, v0⟩ := o
      simp only at c0 c1 c2 c3
      have HC : Hid (∀ w', Below w.heap.size w w' → (w'.cell? ⟨g, k * 4, none⟩ = some (.int .i64 x) ∧ w'.cell? ⟨g, k * 4 + 1, none⟩ = some (.int .i64 y) ∧ w'.cell? ⟨g, k * 4 + 2, none⟩ = some (.int .i64 z) ∧ w'.cell? ⟨g, k * 4 + 3, none⟩ = some (.int .u64 v0))) := Lib.hid fun w' hb => by
        refine ⟨?_, ?_, ?_, ?_⟩
        · rw [hb.cell (p := ⟨g, k * 4, none⟩) hgl]; exact c0
        · rw [hb.cell (p := ⟨g, k * 4 + 1, none⟩) hgl]; exact c1
        · rw [hb.cell (p := ⟨g, k * 4 + 2, none⟩) hgl]; exact c2
        · rw [hb.cell (p := ⟨g, k * 4 + 3, none⟩) hgl]; exact c3
      have HO := Lib.hid ho
      clear c0 c1 c2 c3 ho hgk
      go_wp2_with fail
      refine Ord.wp_chain [] (fun w' => Fr w [(w.heap.size, [.int .i64 a, .int .i64 b, .int .i64 d])] w') (fun _ _ => True) (by kernel_rfl) (by kernel_rfl) (by kernel_rfl) hEr.drew trivial (fun hT => ?_)
      have hT9 := Lib.hid hT
      clear hT
      repeat (first
        | (refine Ord.ch_value (v := ?_) hT9.out (by decide) (by rfl) ?_ ?_; rotate_left; (focus (intro w5 hS; have r := hS.rule 0 rfl; have r1 := HB.out _ hS.below; obtain ⟨c0, c1, c2, c3⟩ := HC.out _ hS.below; go_simp <;> with_reducible rfl)); (try simp only [Act.put, List.setIfInBounds_toArray, List.set_cons_zero, List.set_cons_succ]))
        | (refine Ord.ch_off hT9.out (by decide) (by rfl) ?_; (try simp only [Act.put, List.setIfInBounds_toArray, List.set_cons_zero, List.set_cons_succ])))
      refine Ord.ch_value (v := .bool (decide ((x, y, z) = (a, b, d)))) hT9.out (by decide) (by rfl) ?_ ?_
      · intro w5 hS
        clear hS HC HB HG HROW HR0 HALL HO
        by_cases e1 : x = a <;> by_cases e2 : y = b <;> by_cases e3 : z = d <;> simp [e1, e2, e3] <;> go_simp
      (try simp only [Act.put, List.setIfInBounds_toArray, List.set_cons_zero, List.set_cons_succ])
      refine Ord.InText.nil fun w5 hS => ?_
      clear hT9
      obtain ⟨hEr, hC⟩ := Ord.chain_end hS
      clear hS
      clear hC
      have r := hEr.rule 0 rfl
      have r1 := HB.out _ hEr.below
      obtain ⟨c0, c1, c2, c3⟩ := HC.out _ hEr.below
      by_cases hp : (x, y, z) = (a, b, d)
      · rw [decide_eq_true hp]
        have hgl5 : g < w5.heap.size := Nat.lt_of_lt_of_le hgl hEr.below.size
        have hz : w5.frozen? ⟨g, k * 4 + 3, none⟩ = false := (ownsRow_kept HALL.out.2.1 fun k e => hEr.below.block k ((HALL.out.2.1.lt k e).2)).frozenAt _
        go_wp2_with fail
        refine bodyPost_ret (results_none rfl _ _ _) rfl ?_
        have hgd := HO.out
        rw [hp] at hgd
        obtain ⟨h1, h2⟩ := row_wrote (v := v) HALL.out.2.1 hlt hgd hEr.below
        have hgu : u ≠ g := fun e => HALL.out.2.2.1 (by simp [Value.ownBlock, e])
        have hlen : (setL l (a, b, d) v).length = l.length := by rw [setL_hit hlt hgd HG.out]; simp; omega
        have hb1 : Blk 0 w5 u vs := HALL.out.1.kept hEr.below.size (hEr.below.block u HALL.out.1.1)
        refine ⟨rfl, some ⟨g, 0, none⟩, cap, ?_, by rw [setL_hit hlt hgd HG.out]; exact h1, h2.mono fun k _ e => .inr (by simp [Value.ownBlock, e]), fun k e => .inl (by simpa [Value.ownBlock] using e)⟩
        have evs : vs.set o (.slice (some ⟨g, 0, none⟩) (setL l (a, b, d) v).length cap) = vs := by
          apply List.ext_getElem?
          intro j
          rw [List.getElem?_set]
          split
          · rename_i e; subst e; rw [HALL.out.2.2.2, hlen]
          · rfl
        rw [evs]
        exact hb1.kept (by simp) (Below.heap_setCell _ _ _ _ hgu)
      · rw [decide_eq_false hp]
        go_wp2_with fail
        exact ⟨⟨k + 1, by omega, rfl, setL_skip hlt HO.out hp HG.out, hEr⟩, by simp [intOf]; omega⟩
    · go_wp2_with fail
      have : k = l.length := by omega
      subst this
      obtain ⟨hblk, hown, hsep, hvo⟩ := HALL.out
      have hsz := hEr.below.size
      have hblk1 : Blk 0 wr u vs := hblk.kept hsz (hEr.below.block u hul)
      have hown1 : wr.ownsRow 0 208 4 (Value.slice A l.length cap) l.length (flatO l) := ownsRow_kept hown fun k e => hEr.below.block k ((hown.lt k e).2)
      have happ := run_append_lies (P := Tryz.prog) (wr.drew.alloc (.cells #[.int .i64 a, .int .i64 b, .int .i64 d, .int .u64 v] 208)) 137 137 0 208 i0 (.agg #[.int .i64 0, .int .i64 0, .int .i64 0, .int .u64 0]) 4 32 Tryz.underlying137 hi hz0 hz1 hz2 rfl (by decide)
        (Value.slice A l.length cap) l.length (flatO l) (hown1.drew.alloc _) ⟨wr.heap.size, 0, none⟩ 1 1 [.int .i64 a, .int .i64 b, .int .i64 d, .int .u64 v] rfl (cells_new _ _ _) (by simp [Value.oneCell']) (by omega) (by simp [maxLen]; omega) (by omega) (by simp) _ rfl
      obtain ⟨g, cap', W2, hrun, hown2, hgrow, hg2, hg2l⟩ := happ
      have hW1 := Below.alloc (Below.refl wr.heap.size wr.drew) (show wr.heap.size ≤ wr.drew.heap.size from Nat.le_refl _) (.cells #[.int .i64 a, .int .i64 b, .int .i64 d, .int .u64 v] 208)
      have hne2 : ∀ k, k < w.heap.size + 1 → some k ≠ (Value.slice A l.length cap).ownBlock → W2.heap[k]? = wr.heap[k]? := fun k hk hn => by
        have h1 := hEr.lt 0 rfl
        have h2 := hgrow.block k (by simp; omega) hn
        exact h2.trans (hW1.block k (by omega))
      have hblk2 : Blk 0 W2 u vs := hblk1.kept (by have := hgrow.size; simp at this; omega) (hne2 u (by omega) (fun e => hsep e.symm))
      have hgu : g ≠ u := fun e => by
        rcases hg2 with h | h
        · exact hsep (by rw [h, e])
        · rw [e] at h; simp at h; omega
      have hEd : Fr w [(w.heap.size, [.int .i64 a, .int .i64 b, .int .i64 d])] wr.drew := hEr.drew
      have hbx := hEr.2 _ (List.mem_singleton.2 rfl)
      have hB1 : Blk w.heap.size (wr.drew.alloc (.cells #[.int .i64 a, .int .i64 b, .int .i64 d, .int .u64 v] 208)) w.heap.size [.int .i64 a, .int .i64 b, .int .i64 d] := hbx.drew.more _
      have hB2 : Blk w.heap.size W2 w.heap.size [.int .i64 a, .int .i64 b, .int .i64 d] := hbx.kept (by have := hgrow.size; simp at this; omega) (hne2 _ (by omega) fun e => by
        have := (hown.lt _ e.symm).2
        omega)
      have hB3 : Blk w.heap.size (W2.setCell ⟨u, o, none⟩ (.slice (some ⟨g, 0, none⟩) (l.length + 1) cap')) w.heap.size [.int .i64 a, .int .i64 b, .int .i64 d] := hB2.kept (by simp) (Below.heap_setCell _ _ _ _ (by simp; omega))
      have HW : Hid ((∀ i, wr.drew.cell? ⟨w.heap.size, i, none⟩ = [Value.int .i64 a, .int .i64 b, .int .i64 d][i]?) ∧ (wr.drew.cell? ⟨u, o, none⟩ = some (.slice A l.length cap)) ∧ ((wr.drew.alloc (.cells #[.int .i64 a, .int .i64 b, .int .i64 d, .int .u64 v] 208)).cell? ⟨u, o, none⟩ = some (.slice A l.length cap))) := Lib.hid ⟨hbx.rule, by rw [hblk1.drew.rule o, hvo], by rw [(hblk1.drew.more _).rule o, hvo]⟩
      have HB1 := Lib.hid hB1.rule
      have HB2 : Hid ((∀ i, W2.cell? ⟨w.heap.size, i, none⟩ = [Value.int .i64 a, .int .i64 b, .int .i64 d][i]?) ∧ W2.cell? ⟨u, o, none⟩ = some (.slice A l.length cap) ∧ W2.frozen? ⟨u, o, none⟩ = false ∧ u < W2.heap.size) := Lib.hid ⟨hB2.rule, by rw [hblk2.rule o, hvo], hblk2.thaw o hol, hblk2.1⟩
      have HB3 := Lib.hid hB3.rule
      have HRUN := Lib.hid hrun
      have HEND := Lib.hid (And.intro hown2 (And.intro hgrow (And.intro hg2 (And.intro hg2l (And.intro hblk2 (And.intro hgu (And.intro hsz (And.intro hEr.below (And.intro hvo hW1)))))))))
      clear hB1 hB2 hB3 hrun hown2 hgrow hg2 hg2l hblk2 hgu hsz hblk1 hown1 hbx hEd hne2 hblk hown hsep hvo hW1 ru
      go_wp2_with fail
      refine Ord.wp_chain2 [8, 9, 12] (fun w' => ∀ i, w'.cell? ⟨w.heap.size, i, none⟩ = [Value.int .i64 a, .int .i64 b, .int .i64 d][i]?) (fun j w' => [wr.drew, wr.drew.alloc (.cells #[.int .i64 a, .int .i64 b, .int .i64 d, .int .u64 v] 208), W2, W2.setCell ⟨u, o, none⟩ (.slice (some ⟨g, 0, none⟩) (l.length + 1) cap')][j]? = some w') (by kernel_rfl) (by kernel_rfl) (by kernel_rfl) HW.out.1 rfl (fun hT => ?_)
      have hT9 := Lib.hid hT
      clear hT
      repeat (refine Ord.ch2_value (v := ?_) hT9.out (by decide) (by rfl) ?_ ?_; rotate_left; (focus (intro w5 hS; skip; go_simp <;> with_reducible rfl)); (try simp only [Act.put, List.setIfInBounds_toArray, List.set_cons_zero, List.set_cons_succ]))
      refine Ord.ch2_early 1 hT9.out (by decide) (by rfl) (by kernel_rfl) (by decide) (by rfl) (v := .slice A l.length cap) ?_ ?_
      · intro w5 j hj hS hA
        have r1 : w5.cell? ⟨u, o, none⟩ = some (.slice A l.length cap) := by
          rcases j with _ | _ | j
          · cases hA; exact HW.out.2.1
          · cases hA; exact HW.out.2.2
          · omega
        go_simp <;> with_reducible rfl
      (try simp only [Act.put, List.setIfInBounds_toArray, List.set_cons_zero, List.set_cons_succ])
      repeat (refine Ord.ch2_value (v := ?_) hT9.out (by decide) (by rfl) ?_ ?_; rotate_left; (focus (intro w5 hS; skip; go_simp <;> with_reducible rfl)); (try simp only [Act.put, List.setIfInBounds_toArray, List.set_cons_zero, List.set_cons_succ]))
      refine Ord.ch2_turn 0 hT9.out (by rfl) (by decide) (Or.inl rfl) (by rfl) (v := .slice (some ⟨wr.heap.size, 0, none⟩) 1 1) ?_ ?_
      · intro w5 hS hA
        cases hA
        go_simp
        simp only [Ord.LandsIn]
        exact ⟨trivial, HB1.out, trivial⟩
      (try simp only [Act.put, List.setIfInBounds_toArray, List.set_cons_zero, List.set_cons_succ])
      refine Ord.ch2_turn 1 hT9.out (by rfl) (by decide) (Or.inr ⟨_, rfl, by kernel_rfl⟩) (by rfl) (v := .slice (some ⟨g, 0, none⟩) (l.length + 1) cap') ?_ ?_
      · intro w5 hS hA
        cases hA
        refine append_lands rfl HRUN.out (by rfl) (by rfl) ⟨HB2.out.1, rfl⟩
      (try simp only [Act.put, List.setIfInBounds_toArray, List.set_cons_zero, List.set_cons_succ])
      repeat (refine Ord.ch2_value (v := ?_) hT9.out (by decide) (by rfl) ?_ ?_; rotate_left; (focus (intro w5 hS; skip; go_simp <;> with_reducible rfl)); (try simp only [Act.put, List.setIfInBounds_toArray, List.set_cons_zero, List.set_cons_succ]))
      refine Ord.ch2_turn 2 hT9.out (by rfl) (by decide) (Or.inr ⟨_, rfl, by kernel_rfl⟩) (by rfl) (v := undef) ?_ ?_
      · intro w5 hS hA
        cases hA
        obtain ⟨-, r1, z1, hcl⟩ := HB2.out
        go_simp
        exact ⟨rfl, HB3.out, rfl⟩
      (try simp only [Act.put, List.setIfInBounds_toArray, List.set_cons_zero, List.set_cons_succ])
      refine Ord.InText.nil fun w5 hS => ?_
      clear hT9
      obtain ⟨hC, hA⟩ := Ord.chain2_end hS
      clear hS
      cases hA
      go_wp2_with fail
      go_end0
      obtain ⟨hown2, hgrow, hg2, hg2l, hblk2, hgu, hsz, hbel, hvo, hW1⟩ := HEND.out
      have e2 : setL l (a, b, d) v = l ++ [((a, b, d), v)] := by simpa [setL] using HG.out
      rw [e2, flatO_append, List.length_append]
      refine ⟨rfl, some ⟨g, 0, none⟩, cap', hblk2.set hol _, ownsRow_setCell_other hown2 (by simp [Value.ownBlock, hgu]) _, ?_, fun k e => ?_⟩
      · exact (((((Turn.of_below hbel : Turn (fun k => k = u ∨ (Value.slice A l.length cap).ownBlock = some k) w wr).drew).alloc _).grown hgrow (fun k hk e => .inr e)).setCell (p := ⟨u, o, none⟩) (fun _ => .inl rfl) _)
      · rcases hg2 with h | h
        · exact .inl (by rw [h]; simpa [Value.ownBlock] using e)
        · right
          have : k = g := by simpa [Value.ownBlock, eq_comm] using e
          rw [this, h]; simp; omega
theorem refSet_any {u : Nat} {F : Nat → Prop} {l : List OneR} {w : World} (a b d v : Int) (hl : l.length ≤ 1000000) (hU : IsU w u F l) :
    Calls Tryz.prog 60 #[.pointer (some ⟨u, 0, none⟩), .agg #[.int .i64 a, .int .i64 b, .int .i64 d], .int .u64 v] w fun e w' => e = .returned (.tuple #[]) ∧ ∃ F', IsU w' u F' (setL l (a, b, d) v) ∧ Step F F' w w' := by
  obtain ⟨A, cap, hblk, hown, hsep, hF⟩ := hU.full
  refine (refSet_at a b d v hl hblk rfl hown hsep).mono ?_
  rintro e w' ⟨he, A', cap', h1, h2, h3, h4⟩
  have hu : u < w.heap.size := hblk.1
  refine ⟨he, fun k => k = u ∨ (Value.slice A' (setL l (a, b, d) v).length cap').ownBlock = some k, ⟨setL_nodup hU.nodup, _, h1, h2, fun e => ?_, fun k => Iff.rfl⟩, h3.mono fun k _ e => (hF k).2 e, fun k hk => ?_⟩
  · rcases h4 u e with h | h
    · exact hsep h
    · omega
  · rcases hk with rfl | hk
    · exact .inl ((hF _).2 (.inl rfl))
    · rcases h4 k hk with h | h
      · exact .inl ((hF _).2 (.inr h))
      · exact .inr h
theorem IsU.over {w w' : World} {u : Nat} {F : Nat → Prop} {l : List OneR} (h : IsU w u F l) (hb : Below w.heap.size w w') : IsU w' u F l := (refI u F l).loc w w' h (fun k hk => hb.block k (h.lt k hk)) hb.size
end Go.Proofs.YtnnjanaclgjneaaGreatDoor

/- The reference's cells among other things. -/
namespace Go.Proofs.YtnnjanaclgjneaaGreatDoor
open Go.RowKit Go.Maps
set_option maxRecDepth 100000

section
variable {w0 w w' : World} {L : List Item} {u : Nat} {F F' : Nat → Prop} {l l' : List OneR}
theorem Env.ref (h : Env w0 L w) (i : Nat) (hi : L[i]? = some (refI u F l)) : IsU w u F l := h.get i hi
theorem Env.turnU (h : Env w0 L w) (i : Nat) (hi : L[i]? = some (refI u F l)) (hU : IsU w' u F' l') (hs : Step F F' w w') : Env w0 (L.set i (refI u F' l')) w' := h.step i (refI u F' l') hi hs hU hU.lt
end
structure LOk (l : List OneR) (N : Nat) : Prop where
  nodup : (l.map (·.1)).Nodup
  len : l.length ≤ N
theorem LOk.set {l : List OneR} {N : Nat} (h : LOk l N) (x : Plc) (v : Int) : LOk (setL l x v) (N + 1) := ⟨setL_nodup h.1, by have := setL_length x v l; have := h.2; omega⟩
theorem LOk.more {l : List OneR} {N : Nat} (h : LOk l N) : LOk l (N + 1) := ⟨h.1, by have := h.2; omega⟩
section
variable {w0 w w' : World} {L L' : List Item}
theorem Env.newU (h : Env w0 L w) (n : Nat) (hn : w.heap.size = n) (t : TypeId) : Env w0 (refI n (fun k => k = n) [] :: L) (w.alloc (.cells #[.slice none 0 0] t)) := by
  subst hn
  refine h.add (refI w.heap.size (fun k => k = w.heap.size) []) ((Below.refl _ _).alloc (Nat.le_refl _) _) ⟨List.nodup_nil, .slice none 0 0, Blk.new 0 w _ t, ⟨rfl, .inl ⟨rfl, rfl⟩⟩, by simp [Value.ownBlock], fun k => by simp [Value.ownBlock]⟩ fun k hk => ?_
  have hk : k = w.heap.size := hk
  subst hk; simp
theorem Env.addU {u : Nat} {F : Nat → Prop} {l : List OneR} (h : Env w0 L w) (hU : IsU w' u F l) (hF : ∀ k, F k → w.heap.size ≤ k) (hb : Below w.heap.size w w') : Env w0 (refI u F l :: L) w' :=
  h.add (refI u F l) hb hU fun k hk => ⟨hF k hk, hU.lt k hk⟩
end
end Go.Proofs.YtnnjanaclgjneaaGreatDoor

/- Contracts of layer 2: the reference's functions. -/
namespace Go.Proofs.YtnnjanaclgjneaaGreatDoor
open Go.RowKit
set_option maxRecDepth 100000

set_option maxHeartbeats 800000 in
theorem refLinkIs_any (m : Bool) (s v : Int) (w : World) :
    Calls Tryz.prog 160 #[.agg #[.bool m, .int .i64 s, .int .i64 v]] w fun e w' => e = .returned (.bool (isL s v)) ∧ Below w.heap.size w w' := by
  by_cases h1 : 0 ≤ s
  · by_cases h2 : s < 8388608
    · by_cases h3 : 0 ≤ v
      · go_enter Tryz.func160, Tryz.ntmps160
        go_wp2
        go_ret
        exact ⟨ret_bool (by rw [Bool.eq_iff_iff]; simp [isL]; omega), (Below.refl _ _).alloc (Nat.le_refl _) _⟩
      · have hd : decide (0 ≤ v) = false := by simpa using h3
        go_enter Tryz.func160, Tryz.ntmps160
        go_wp2
        go_ret
        exact ⟨ret_bool (by simp [isL]; omega), (Below.refl _ _).alloc (Nat.le_refl _) _⟩
    · have hd : decide (s < 8388608) = false := by simpa using h2
      go_enter Tryz.func160, Tryz.ntmps160
      go_wp2
      go_ret
      exact ⟨ret_bool (by simp [isL]; omega), (Below.refl _ _).alloc (Nat.le_refl _) _⟩
  · have hd : decide (0 ≤ s) = false := by simpa using h1
    go_enter Tryz.func160, Tryz.ntmps160
    go_wp2
    go_ret
    exact ⟨ret_bool (by simp [isL]; omega), (Below.refl _ _).alloc (Nat.le_refl _) _⟩

set_option maxHeartbeats 800000 in
theorem refWord_any (m : Bool) (s v : Int) (w : World) :
    Calls Tryz.prog 115 #[.agg #[.bool m, .int .i64 s, .int .i64 v]] w fun e w' => e = .returned (.int .u64 (wordI m s v)) ∧ Below w.heap.size w w' := by
  cases h : isL s v
  · have H := Lib.hid h
    clear h
    go_enter Tryz.func115, Tryz.ntmps115
    go_wp2_with fail
    refine (refLinkIs_any m s v _).mono ?_
    rintro e w1 ⟨rfl, hb⟩
    rw [H.out]
    go_wp2_with fail
    go_ret
    exact ⟨ret_int (wordI_no H.out).symm, ((Below.refl _ _).alloc (Nat.le_refl _) _).trans (hb.mono (by simp))⟩
  · have hp := isL_parts h
    have H := Lib.hid h
    clear h
    obtain ⟨k0, k1, k2, k3⟩ := hp
    go_enter Tryz.func115, Tryz.ntmps115
    go_wp2_with fail
    refine (refLinkIs_any m s v _).mono ?_
    rintro e w1 ⟨rfl, hb⟩
    obtain ⟨d0, d1, d2, hB, hs⟩ := hold3 (n := w.heap.size) (w := w) (x := .bool m) (y := .int .i64 s) (z := .int .i64 v) (by simp) (by simp) (by simp) ((Below.refl _ _).alloc (Nat.le_refl _) _) (by simp) hb
    clear hb
    rw [H.out]
    cases m
    · have HW := Lib.hid (wordI_yes (m := false) H.out)
      go_wp2_with fail
      go_ret
      exact ⟨ret_int (by rw [HW.out]; simp [bitI]; omega), hB⟩
    · have HW := Lib.hid (wordI_yes (m := true) H.out)
      go_wp2_with fail
      go_ret
      exact ⟨ret_int (by rw [HW.out]; simp [bitI]; omega), hB⟩

set_option maxHeartbeats 800000 in
theorem refOf_any (x : Int) (w : World) (h0 : 0 ≤ x) (h1 : x ≤ 18446744073709551615) :
    Calls Tryz.prog 159 #[.int .u64 x] w fun e w' => e = .returned (.agg #[.bool (markB x), .int .i64 (slotI x), .int .i64 (verI x)]) ∧ Below w.heap.size w w' := by
  obtain ⟨s0, s1⟩ := slotI_in x
  obtain ⟨v0, v1⟩ := verI_in x
  go_enter Tryz.func159, Tryz.ntmps159
  go_wp2_with fail
  exact bodyPost_ret (v := .agg #[.bool (markB x), .int .i64 (slotI x), .int .i64 (verI x)]) (by simp [results, Tryz.results159, go_sem, markB, slotI, verI]) rfl ⟨rfl, (Below.refl _ _).alloc (Nat.le_refl _) _⟩
end Go.Proofs.YtnnjanaclgjneaaGreatDoor

/- The reference's thread: contracts. -/
namespace Go.Proofs.YtnnjanaclgjneaaGreatDoor
open Go.RowKit Go.Maps
set_option maxRecDepth 100000

/-- The reference's cells. -/
def urv (k s b h l e : Int) (A : Option Addr) (n c : Nat) (N hs r : Int) : List Value := [.int .i64 k, .int .i64 s, .int .i64 b, .int .i64 h, .int .i64 l, .int .i64 e, .slice A n c, .int .i64 N, .int .i64 hs, .int .i64 r]
theorem epI_in {x : Int} (hx : InU x) : 0 ≤ epI x ∧ epI x ≤ 9223372036854775807 := by
  unfold InU at hx
  unfold epI
  split <;> omega

theorem epoch13_any (w : World) : Calls Tryz.prog 61 #[] w fun e w' => e = .returned (.agg #[.int .i64 1, .int .i64 0, .int .i64 0]) ∧ Below w.heap.size w w' := by
  go_enter Tryz.func61, Tryz.ntmps61
  go_wp2
  exact bodyPost_ret (v := .agg #[.int .i64 1, .int .i64 0, .int .i64 0]) (by simp [results, Tryz.results61, go_sem]) rfl ⟨rfl, (Below.refl _ _).alloc (Nat.le_refl _) _⟩
end Go.Proofs.YtnnjanaclgjneaaGreatDoor

/- The reference's thread: contracts. -/
namespace Go.Proofs.YtnnjanaclgjneaaGreatDoor
open Go.RowKit Go.Maps
set_option maxRecDepth 100000

section
variable {w0 w : World} {L : List Item} {u m n c : Nat} {F : Nat → Prop} {ml : List OneR} {A : Option Addr} {k s b h l e N hs r : Int}
set_option maxHeartbeats 1600000 in
theorem rcheck_w (x : Int) (hmx : getL ml (1, 0, 0) = x) (hx : InU x) (hml : ml.length ≤ 1000000) (i j : Nat) (hE : Env w0 L w) (hi : L[i]? = some (boxI u (urv k s b h l e A n c N hs r))) (hj : L[j]? = some (refI m F ml)) :
    Calls Tryz.prog 98 #[.pointer (some ⟨u, 0, none⟩), .pointer (some ⟨m, 0, none⟩)] w fun o w' => o = .returned (.tuple #[]) ∧ Env w0 (L.set i (boxI u (urv k s b h l (epI x) A n c N hs r))) w' := by
  have hil : i < L.length := (List.getElem?_eq_some_iff.1 hi).1
  unfold InU at hx
  have hq : (x ≤ 9223372036854775807 ∧ epI x = x ∧ decide (x < 9223372036854775808) = true) ∨ (9223372036854775807 < x ∧ epI x = 0 ∧ decide (x < 9223372036854775808) = false) := by
    unfold epI
    by_cases h : x ≤ 9223372036854775807
    · left; refine ⟨h, by rw [if_pos h], by simp; omega⟩
    · right; refine ⟨by omega, by rw [if_neg h], by simp; omega⟩
  generalize epI x = y at *
  have HQ := Lib.hid hq
  have HX := Lib.hid hx
  clear hq hx
  go_enter Tryz.func98, Tryz.ntmps98
  go_wp2_with fail
  refine (epoch13_any _).mono ?_
  rintro o w1 ⟨rfl, hb⟩
  replace hE := hE.over hb
  clear hb
  go_wp2_with fail
  refine (refGet_any 1 0 0 hml (hE.ref j hj)).mono ?_
  rintro o w2 ⟨rfl, hb⟩
  rw [hmx]
  replace hE := hE.over hb
  clear hb
  have rc := hE.rule i hi
  have ff := hE.thaw i hi
  have f5 := ff 5 (by simp [urv])
  clear ff
  unfold urv at rc
  rcases HQ.out with ⟨q0, q1, q2⟩ | ⟨q0, q1, q2⟩
  · have hw : wrap64 x = x := w64 _ (by have := HX.out; omega)
    subst q1
    clear HQ HX
    go_wp2_with fail
    go_end0
    have hE1 := hE.put i hi (j := 5) (by simp [urv]) (.int .i64 0)
    have hE2 := hE1.put i (by rw [List.getElem?_set_self hil]) (j := 5) (by simp [urv]) (.int .i64 y)
    rw [List.set_set] at hE2
    exact ⟨rfl, hE2⟩
  · subst q1
    clear HQ HX
    go_wp2_with fail
    go_end0
    exact ⟨rfl, hE.put i hi (j := 5) (by simp [urv]) (.int .i64 0)⟩

end
end Go.Proofs.YtnnjanaclgjneaaGreatDoor

/- The reference's thread: contracts. -/
namespace Go.Proofs.YtnnjanaclgjneaaGreatDoor
open Go.RowKit Go.Maps
set_option maxRecDepth 100000

set_option maxHeartbeats 800000 in
theorem rmarked_any (x : Int) (w : World) (hx : InU x) :
    Calls Tryz.prog 185 #[.int .u64 x] w fun o w' => o = .returned (.bool (markB x)) ∧ Below w.heap.size w w' := by
  unfold InU at hx
  have hfm : ∀ (v : World) (m : Bool) (s b : Int), (Instr.field 219 (.agg #[.bool m, .int .i64 s, .int .i64 b]) 0).run Tryz.prog v = .ok (.bool m) v := fun v m s b => by kernel_rfl
  go_enter Tryz.func185, Tryz.ntmps185
  go_wp2_with fail
  refine (refOf_any x _ hx.1 hx.2).mono ?_
  rintro o w1 ⟨rfl, hb⟩
  go_wp2_with fail
  go_ret
  exact ⟨rfl, hb⟩
section
variable {w : World} {u n c : Nat} {A : Option Addr} {k s b h l e N hs r : Int}
set_option maxHeartbeats 800000 in
theorem rto_c (a : Int) (hb : Blk 0 w u (urv k s b h l e A n c N hs r)) :
    Calls Tryz.prog 136 #[.pointer (some ⟨u, 0, none⟩), .int .i64 a] w fun o w' => o = .returned (.int .u64 (wordI false a e)) ∧ Below w.heap.size w w' := by
  have r1 := hb.rule
  unfold urv at r1
  clear hb
  go_enter Tryz.func136, Tryz.ntmps136
  go_wp2_with fail
  refine (refWord_any false a e _).mono ?_
  rintro o w1 ⟨rfl, hb⟩
  go_wp2_with fail
  go_ret
  exact ⟨rfl, hb⟩
set_option maxHeartbeats 800000 in
theorem rmark_c (x a : Int) (hx : InU x) (hb : Blk 0 w u (urv k s b h l e A n c N hs r)) :
    Calls Tryz.prog 149 #[.pointer (some ⟨u, 0, none⟩), .int .u64 x, .int .i64 a] w fun o w' => o = .returned (.int .u64 (markedW x a e)) ∧ Below w.heap.size w w' := by
  cases hB : markB x
  · have hm : markedW x a e = wordI true a e := by simp [markedW, hB]
    have HB := Lib.hid hB
    have HM := Lib.hid hm
    have HX := Lib.hid hx
    clear hB hm hx
    go_enter Tryz.func149, Tryz.ntmps149
    go_wp2_with fail
    refine (rmarked_any x _ HX.out).mono ?_
    rintro o w1 ⟨rfl, hb1⟩
    rw [HB.out]
    have r1 := (hb.under hb1).rule
    unfold urv at r1
    clear hb
    go_wp2_with fail
    refine (refWord_any true a e _).mono ?_
    rintro o w2 ⟨rfl, hb2⟩
    go_wp2_with fail
    go_ret
    exact ⟨ret_int HM.out.symm, hb1.trans (hb2.mono hb1.size)⟩
  · have hm : markedW x a e = x := by simp [markedW, hB]
    have HB := Lib.hid hB
    have HM := Lib.hid hm
    have HX := Lib.hid hx
    clear hB hm hx hb
    go_enter Tryz.func149, Tryz.ntmps149
    go_wp2_with fail
    refine (rmarked_any x _ HX.out).mono ?_
    rintro o w1 ⟨rfl, hb1⟩
    rw [HB.out]
    go_wp2_with fail
    go_ret
    exact ⟨ret_int HM.out.symm, hb1⟩
end
end Go.Proofs.YtnnjanaclgjneaaGreatDoor
