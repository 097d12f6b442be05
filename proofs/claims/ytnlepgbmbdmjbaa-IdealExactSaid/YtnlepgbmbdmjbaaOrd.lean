/- A drawn region in whose course the world is turned: walked once, in the order of the text. S says, of what has been listed so far, what every world on the way keeps. 'Chain': operations that turn the world one behind the other, each hanging on the one ahead of it; all others keep what is said. 'Both': two operations that turn it, in whichever order. -/
import Derived.WalkKit
import Derived.Orders
namespace Go.Proofs.Ytnlepgbmbdmjbaa.Ord
open Go
set_option maxRecDepth 100000

section
variable {P : Program} {ops : Array Oper} {Q : Exit → Act → World → Prop} {md : Region.Mode} {S : Array Bool → World → Prop}

/-- What a run comes to: the value v, or a call that comes to v; then T. -/
def LandsIn (P : Program) (T : World → Prop) (v : Value) : Result Next → Prop
  | .ok (.value u) w' => u = v ∧ T w'
  | .ok .skip w' => v = undef ∧ T w'
  | .ok (.enter f args) w' => Calls P f args w' fun e w'' => e = .returned v ∧ T w''
  | _ => False
theorem LandsIn.mono {T T' : World → Prop} {v : Value} {r : Result Next} (h : LandsIn P T v r) (hT : ∀ w, T w → T' w) : LandsIn P T' v r := by
  cases r with
  | ok n w' =>
    cases n <;> simp only [LandsIn] at *
    case value u => exact ⟨h.1, hT _ h.2⟩
    case skip => exact ⟨h.1, hT _ h.2⟩
    case enter f args => exact h.mono fun e w'' he => ⟨he.1, hT _ he.2⟩
  | halt x w' => simp only [LandsIn] at h

/-- In frame a the operation, number i, comes to v from every world that is met when it comes up. -/
def Settles (P : Program) (md : Region.Mode) (ops : Array Oper) (S : Array Bool → World → Prop) (i : Nat) (o : Oper) (v : Value) (a : Act) : Prop :=
  (Region.wanted o (yielded ops a.tmps) = true ∧ ∀ l w, i ∈ Region.ready md ops l → S l w → LandsIn P (S (l.setIfInBounds i true)) v ((execOp a.eval o).run P w)) ∨
  (Region.wanted o (yielded ops a.tmps) = false ∧ v = undef ∧ ∀ l w, i ∈ Region.ready md ops l → S l w → S (l.setIfInBounds i true) w)

theorem Settles.of_same {i : Nat} {o : Oper} {v : Value} {a a' : Act} (h : Settles P md ops S i o v a) (he : execOp a'.eval o = execOp a.eval o)
    (hw : Region.wanted o (yielded ops a'.tmps) = Region.wanted o (yielded ops a.tmps)) : Settles P md ops S i o v a' := by
  unfold Settles at *
  rw [he, hw]
  exact h

theorem Settles.wpOp {i : Nat} {o : Oper} {v : Value} {a : Act} {l : Array Bool} (hi : ops[i]? = some o) (h : Settles P md ops S i o v a) (hr : i ∈ Region.ready md ops l) {K : Act → World → Prop} {w : World} (hS : S l w)
    (hK : ∀ w', S (l.setIfInBounds i true) w' → K (a.put o.dst v) w') : wpOp P ops Q i K a w := by
  unfold Go.wpOp
  simp only [hi]
  rcases h with ⟨hw, hv⟩ | ⟨hw, rfl, hv⟩
  · simp only [hw, if_true]
    have := hv l w hr hS
    refine .inl ?_
    unfold Oper.wp
    generalize (execOp a.eval o).run P w = r at *
    cases r with
    | ok n w' =>
      cases n <;> simp only [LandsIn] at this <;> simp only [Oper.upon]
      case value u => obtain ⟨rfl, h2⟩ := this; exact hK _ h2
      case skip => obtain ⟨rfl, h2⟩ := this; exact hK _ h2
      case enter f args =>
        refine Calls.mono this fun e w'' he => ?_
        obtain ⟨rfl, h2⟩ := he
        exact hK _ h2
    | halt x w' => simp only [LandsIn] at this
  · simp only [hw, Bool.false_eq_true, if_false]
    exact hK _ (hv l w hr hS)

/-- Whatever order is picked: each operation comes to a value that hangs on the frame alone. -/
def Every (P : Program) (md : Region.Mode) (ops : Array Oper) (Q : Exit → Act → World → Prop) (S : Array Bool → World → Prop) : Nat → Array Bool → Act → Prop
  | 0, listed, a => Region.ready md ops listed = [] ∧ ∀ w, S listed w → Q .normal a w
  | fuel + 1, listed, a => (Region.ready md ops listed = [] → ∀ w, S listed w → Q .normal a w) ∧
    ∀ i ∈ Region.ready md ops listed, ∃ o v, ops[i]? = some o ∧ Settles P md ops S i o v a ∧ Every P md ops Q S fuel (listed.setIfInBounds i true) (a.put o.dst v)

theorem Every.sound : ∀ (fuel : Nat) (listed : Array Bool) (a : Act), Every P md ops Q S fuel listed a → ∀ w, S listed w → wpAny P md ops Q fuel listed a w
  | 0, _, _, h, w, hS => ⟨h.1, h.2 w hS⟩
  | fuel + 1, listed, a, h, w, hS => ⟨fun h0 => h.1 h0 w hS, fun i hi => by
      obtain ⟨o, v, ho, hs, hE⟩ := h.2 i hi
      exact hs.wpOp ho hi hS fun w' hS' => Every.sound fuel _ _ hE w' hS'⟩

theorem Every.first {i : Nat} {oi : Oper} {v : Value} (hi : ops[i]? = some oi) (hsel : ∀ (j : Nat) (o : Oper) cs b, ops[j]? = some o → o.op ≠ .select cs b) :
    ∀ (fuel : Nat) (listed : Array Bool) (a : Act),
      (∀ j oj, ops[j]? = some oj → j ≠ i → listed.getD j true = false → (∀ e ∈ oj.after, Region.binds md e = true → e.on ≠ i) → oi.apart ops oj = true) →
      i ∈ Region.ready md ops listed → Settles P md ops S i oi v a →
      Every P md ops Q S fuel (listed.setIfInBounds i true) (a.put oi.dst v) → Every P md ops Q S (fuel + 1) listed a := by
  intro fuel
  induction fuel with
  | zero =>
    intro listed a _ hr hy H
    refine ⟨fun h => (by rw [h] at hr; cases hr), fun j hj => ?_⟩
    by_cases hji : j = i
    · subst hji; exact ⟨oi, v, hi, hy, H⟩
    · have := ready_mono hj hji
      rw [H.1] at this
      cases this
  | succ fuel ih =>
    intro listed a hfree hr hy H
    refine ⟨fun h => (by rw [h] at hr; cases hr), fun j hj => ?_⟩
    by_cases hji : j = i
    · subst hji; exact ⟨oi, v, hi, hy, H⟩
    · obtain ⟨oj, u, hoj, hsj, hE⟩ := H.2 j (ready_mono hj hji)
      obtain ⟨hjun, oj', hoj', hall⟩ := mem_ready.1 hj
      obtain rfl : oj = oj' := Option.some.inj (hoj.symm.trans hoj')
      have hnot : ∀ e ∈ oj.after, Region.binds md e = true → e.on ≠ i := fun e he hb heq => by
        have h1 := hall e he hb
        have h0 := (mem_ready.1 hr).1
        rw [heq] at h1
        rcases Nat.lt_or_ge i listed.size with h' | h'
        · simp [h'] at h0 h1; rw [h0] at h1; cases h1
        · simp [Array.getElem?_eq_none h'] at h1
      have hap := hfree j oj hoj hji hjun hnot
      obtain ⟨p1, p2, p3⟩ := Oper.apart_spec hap
      have hfree' : ∀ k ok, ops[k]? = some ok → k ≠ i → (listed.setIfInBounds j true).getD k true = false →
          (∀ e ∈ ok.after, Region.binds md e = true → e.on ≠ i) → oi.apart ops ok = true := fun k ok hk hki hun hno => by
        refine hfree k ok hk hki ?_ hno
        by_cases hjk : j = k
        · subst hjk; exact hjun
        · rw [getD_set_ne true hjk] at hun; exact hun
      refine ⟨oj, u, hoj, hsj.of_same (execOp_put oj (fun cs b => hsel j oj cs b hoj) a oi.dst v p1).symm (wanted_put oj a oi.dst v p1).symm, ?_⟩
      refine ih (listed.setIfInBounds j true) (a.put oj.dst u) hfree' (ready_mono hr (Ne.symm hji)) (hy.of_same (execOp_put oi (fun cs b => hsel i oi cs b hi) a oj.dst u p3) (wanted_put oi a oj.dst u p3)) ?_
      rw [Array.setIfInBounds_comm _ _ hji, ← Act.put_comm a v u p2]
      exact hE

/-- The operations of the text from k on, in its order. -/
def firstK (n k : Nat) : Array Bool := Array.ofFn (n := n) fun i => decide (i.1 < k)
def textFits (md : Region.Mode) (ops : Array Oper) : Bool :=
  Region.noSelect ops && (List.range ops.size).all fun k => Region.free md ops (firstK ops.size k) k && (Region.ready md ops (firstK ops.size k)).contains k
def InText (P : Program) (md : Region.Mode) (ops : Array Oper) (Q : Exit → Act → World → Prop) (S : Array Bool → World → Prop) (k : Nat) (rest : List Oper) (a : Act) : Prop :=
  k + rest.length = ops.size → ops.toList.drop k = rest → Every P md ops Q S rest.length (firstK ops.size k) a

theorem firstK_succ (n k : Nat) : (firstK n k).setIfInBounds k true = firstK n (k + 1) := by
  apply Array.ext
  · simp [firstK]
  · intro i h1 h2
    by_cases hik : i = k
    · subst hik
      simp [firstK]
    · have e := Array.getElem_setIfInBounds_ne (xs := firstK n k) (i := k) (j := i) (a := true) (by simpa using h1) (by omega)
      rw [e]
      simp only [firstK, Array.getElem_ofFn]
      congr 1
      apply propext
      omega
theorem firstK_get (n k i : Nat) (h : i < n) : (firstK n k).getD i false = decide (i < k) := by simp [firstK, h]

theorem InText.nil {a : Act} {k : Nat} (h : ∀ w, S (firstK ops.size ops.size) w → Q .normal a w) : InText P md ops Q S k [] a := fun hk _ => by
  have hk' : k = ops.size := by simpa using hk
  subst hk'
  refine ⟨?_, h⟩
  unfold Region.ready
  rw [List.filter_eq_nil_iff]
  intro i hi
  have : i < ops.size := by simpa using hi
  simp [firstK, this]

theorem InText.cons {o : Oper} {rest : List Oper} {a : Act} {v : Value} {k : Nat} (hf : textFits md ops = true) (hs : Settles P md ops S k o v a) (h : InText P md ops Q S (k + 1) rest (a.put o.dst v)) : InText P md ops Q S k (o :: rest) a := fun hk hd => by
  unfold textFits at hf
  rw [Bool.and_eq_true, List.all_eq_true] at hf
  have hlt : k < ops.size := by simp at hk; omega
  have hf2 := hf.2 k (by simpa using hlt)
  rw [Bool.and_eq_true] at hf2
  have ho : ops[k]? = some o := by
    have h0 : (ops.toList.drop k)[0]? = some o := by rw [hd]; rfl
    simpa using h0
  have hsel : ∀ (j : Nat) (o : Oper) cs b, ops[j]? = some o → o.op ≠ .select cs b := Region.noSelect_spec hf.1
  refine Every.first ho hsel rest.length (firstK ops.size k) a (Region.free_spec ho hf2.1) (by simpa using hf2.2) hs ?_
  rw [firstK_succ]
  refine h (by simp at hk; omega) ?_
  rw [← List.drop_drop, hd]
  rfl

/-- The start. -/
theorem wp_ord {id : Nat} {a : Act} {w : World} (hm : P.follows .mixedOrders = true) (hf : textFits .any ops = true) (hS : S (firstK ops.size 0) w.drew) (h : textFits .any ops = true → InText P .any ops Q S 0 ops.toList a) : (Code.region id ops true).wp P Q a w :=
  wp_region_any hm (by
    have h0 := h hf (by simp) rfl
    have e : firstK ops.size 0 = Array.replicate ops.size false := by
      apply Array.ext
      · simp [firstK]
      · intro i h1 h2; simp [firstK]
    rw [e] at h0 hS
    simpa using Every.sound _ _ _ h0 _ hS)

/-- Operation k hangs on p at once. -/
def hangs (md : Region.Mode) (ops : Array Oper) (k p : Nat) : Bool :=
  match ops[k]? with
  | some o => o.after.any fun e => Region.binds md e && e.on == p
  | none => false
theorem hangs_listed {l : Array Bool} {k p : Nat} (h : hangs md ops k p = true) (hr : k ∈ Region.ready md ops l) : l.getD p false = true := by
  obtain ⟨_, o, ho, hall⟩ := mem_ready.1 hr
  unfold hangs at h
  rw [ho] at h
  obtain ⟨e, he, h2⟩ := Array.any_eq_true'.1 h
  rw [Bool.and_eq_true] at h2
  have := hall e he h2.1
  rwa [show e.on = p by simpa using h2.2] at this

end

/-! ### One behind the other -/
section
variable {P : Program} {ops : Array Oper} {Q : Exit → Act → World → Prop} {md : Region.Mode} {C : World → Prop} {A : Nat → World → Prop} {ps : List Nat}

/-- What is listed of the operations ps are the first j; then C and A j hold. -/
def Chain (n : Nat) (ps : List Nat) (C : World → Prop) (A : Nat → World → Prop) (l : Array Bool) (w : World) : Prop :=
  l.size = n ∧ C w ∧ ∃ j, j ≤ ps.length ∧ (∀ i p, ps[i]? = some p → p < n ∧ l.getD p false = decide (i < j)) ∧ A j w

theorem chain_start {n : Nat} {w : World} (hlt : ∀ p ∈ ps, p < n) (hC : C w) (hA : A 0 w) : Chain n ps C A (firstK n 0) w := by
  refine ⟨by simp [firstK], hC, 0, Nat.zero_le _, fun i p hp => ?_, hA⟩
  have h := hlt p (List.mem_of_getElem? hp)
  exact ⟨h, by rw [firstK_get _ _ _ h]; simp⟩
theorem chain_end {n : Nat} {w : World} (h : Chain n ps C A (firstK n n) w) : C w ∧ A ps.length w := by
  obtain ⟨_, hC, j, hj, hl, hA⟩ := h
  refine ⟨hC, ?_⟩
  rcases Nat.lt_or_ge j ps.length with hlt | hge
  · exfalso
    have h1 := hl j ps[j] (by simp [hlt])
    rw [firstK_get _ _ _ h1.1] at h1
    simp at h1
    omega
  · rwa [show j = ps.length by omega] at hA

theorem chain_set {n : Nat} {l : Array Bool} {k : Nat} {w w' : World} (hk : k ∉ ps) (h : Chain n ps C A l w) (hC : C w') (hA : ∀ j, A j w → A j w') : Chain n ps C A (l.setIfInBounds k true) w' := by
  obtain ⟨hs, _, j, hj, hl, hA0⟩ := h
  refine ⟨by simpa using hs, hC, j, hj, fun i p hp => ?_, hA j hA0⟩
  have hne : k ≠ p := fun e => hk (e ▸ List.mem_of_getElem? hp)
  rw [Array.getD_eq_getD_getElem?, Array.getElem?_setIfInBounds, if_neg hne, ← Array.getD_eq_getD_getElem?]
  exact hl i p hp

theorem wp_chain (ps : List Nat) (C : World → Prop) (A : Nat → World → Prop) {id : Nat} {a : Act} {w : World} (hm : P.follows .mixedOrders = true) (hf : textFits .any ops = true) (hlt : (ps.all fun p => decide (p < ops.size)) = true) (hC : C w.drew) (hA : A 0 w.drew)
    (h : textFits .any ops = true → InText P .any ops Q (Chain ops.size ps C A) 0 ops.toList a) : (Code.region id ops true).wp P Q a w :=
  wp_ord hm hf (chain_start (fun p hp => by simpa using List.all_eq_true.1 hlt p hp) hC hA) h

/-- A value that hangs on C alone. -/
theorem ch_value {k : Nat} {o : Oper} {rest : List Oper} {a : Act} {v : Value} (hf : textFits md ops = true) (hk : k ∉ ps) (hw : Region.wanted o (yielded ops a.tmps) = true) (hv : ∀ w, C w → (execOp a.eval o).run P w = .ok (.value v) w)
    (h : InText P md ops Q (Chain ops.size ps C A) (k + 1) rest (a.put o.dst v)) : InText P md ops Q (Chain ops.size ps C A) k (o :: rest) a :=
  InText.cons hf (Or.inl ⟨hw, fun l w _ hS => by rw [hv w hS.2.1]; exact ⟨rfl, chain_set hk hS hS.2.1 fun _ h => h⟩⟩) h
theorem ch_off {k : Nat} {o : Oper} {rest : List Oper} {a : Act} (hf : textFits md ops = true) (hk : k ∉ ps) (hw : Region.wanted o (yielded ops a.tmps) = false)
    (h : InText P md ops Q (Chain ops.size ps C A) (k + 1) rest (a.put o.dst undef)) : InText P md ops Q (Chain ops.size ps C A) k (o :: rest) a :=
  InText.cons hf (Or.inr ⟨hw, rfl, fun l w _ hS => chain_set hk hS hS.2.1 fun _ h => h⟩) h
/-- A call that leaves all as it is. -/
theorem ch_call {k : Nat} {o : Oper} {rest : List Oper} {a : Act} {v : Value} {f : FuncId} {args : Array Value} (hf : textFits md ops = true) (hk : k ∉ ps) (hw : Region.wanted o (yielded ops a.tmps) = true)
    (hr : ∀ w, C w → (execOp a.eval o).run P w = .ok (.enter f args) w) (hc : ∀ w, C w → Calls P f args w fun e w' => e = .returned v ∧ C w' ∧ ∀ j, A j w → A j w')
    (h : InText P md ops Q (Chain ops.size ps C A) (k + 1) rest (a.put o.dst v)) : InText P md ops Q (Chain ops.size ps C A) k (o :: rest) a :=
  InText.cons hf (Or.inl ⟨hw, fun l w _ hS => by rw [hr w hS.2.1]; exact (hc w hS.2.1).mono fun e w' he => ⟨he.1, chain_set hk hS he.2.1 he.2.2⟩⟩) h
/-- The j-th that turns the world. -/
theorem ch_turn (j : Nat) {k : Nat} {o : Oper} {rest : List Oper} {a : Act} {v : Value} (hf : textFits md ops = true) (hk : ps[j]? = some k) (hnd : ps.Nodup) (hh : j = 0 ∨ ∃ p, ps[j - 1]? = some p ∧ hangs md ops k p = true) (hw : Region.wanted o (yielded ops a.tmps) = true)
    (hv : ∀ w, C w → A j w → LandsIn P (fun w' => C w' ∧ A (j + 1) w') v ((execOp a.eval o).run P w))
    (h : InText P md ops Q (Chain ops.size ps C A) (k + 1) rest (a.put o.dst v)) : InText P md ops Q (Chain ops.size ps C A) k (o :: rest) a :=
  InText.cons hf (Or.inl ⟨hw, fun l w hr hS => by
    obtain ⟨hs, hC, j', hj', hl, hA⟩ := hS
    have hjl : j < ps.length := (List.getElem?_eq_some_iff.1 hk).1
    have h1 := hl j k hk
    have h2 : l.getD k true = false := (mem_ready.1 hr).1
    have e2 : l.getD k false = false := by
      rw [Array.getD_eq_getD_getElem?] at h2 ⊢
      rcases Nat.lt_or_ge k l.size with hh' | hh'
      · simp [hh'] at h2 ⊢; exact h2
      · simp [Array.getElem?_eq_none hh'] at h2
    have h3 : ¬ j < j' := by rw [h1.2] at e2; simpa using e2
    have h4 : j = j' := by
      rcases hh with rfl | ⟨p, hp, hg⟩
      · omega
      · rcases Nat.eq_zero_or_pos j with rfl | hj
        · omega
        · have h5 := hl (j - 1) p hp
          have h6 := hangs_listed hg hr
          rw [h5.2] at h6
          have : j - 1 < j' := by simpa using h6
          omega
    subst h4
    refine (hv w hC hA).mono fun w' hw' => ⟨by simpa using hs, hw'.1, j + 1, by omega, fun i p hp => ?_, hw'.2⟩
    refine ⟨(hl i p hp).1, ?_⟩
    by_cases hik : p = k
    · subst hik
      have : i = j := (List.getElem?_inj (List.getElem?_eq_some_iff.1 hp).1 hnd).1 (hp.trans hk.symm)
      subst this
      have hp' : p < l.size := by rw [hs]; exact h1.1
      rw [Array.getD_eq_getD_getElem?, Array.getElem?_setIfInBounds, if_pos rfl]
      simp [hp']
    · rw [Array.getD_eq_getD_getElem?, Array.getElem?_setIfInBounds, if_neg (fun e => hik e.symm), ← Array.getD_eq_getD_getElem?, (hl i p hp).2]
      have hne : i ≠ j := fun e => hik (by subst e; exact Option.some.inj (hp.symm.trans hk))
      congr 1
      apply propext
      omega⟩) h
end
end Go.Proofs.Ytnlepgbmbdmjbaa.Ord
